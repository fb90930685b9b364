/- AtlasNil walked. -/
import Derived.Test.YtlkejjclmamlaaaAtOpen
namespace Go.Proofs.Ytlkejjclmamlaaa
open Go.RowKit
open Go.Lib (hid)
open Go.ChangeShapes Go.WideShapes Go.Joins
open Go.Proofs.Ytlkejjclmamlaaa.Ky Go.Proofs.Ytlkejjclmamlaaa.Bk Go.Proofs.Ytlkejjclmamlaaa.At

/-- has an Op few numbers? -/
def shortO (k : List Nat) (t : ByteArray) (lo hi : List Nat) : Bool := decide (k.length ≤ 20) && (decide (t.size ≤ 100) && (decide (lo.length ≤ 20) && decide (hi.length ≤ 20)))
set_option maxRecDepth 100000 in
set_option maxHeartbeats 2000000 in
theorem shortO_ok (a : Int) (p q r : Option Addr) (k lo hi : List Nat) (t : ByteArray) (c c2 c3 : Nat) (w : World) :
    Calls Try.prog 13 #[.agg #[.int .i64 a, .slice p k.length c, .string t, .slice q lo.length c2, .slice r hi.length c3]] w fun e w' => e = .returned (.bool (shortO k t lo hi)) ∧ Below w.heap.size w w' := by
  obtain ⟨V, hV⟩ : ∃ V, w.alloc (.cells #[.int .i64 a, .slice p k.length c, .string t, .slice q lo.length c2, .slice r hi.length c3] 37 (0, 0)) = V := ⟨_, rfl⟩
  have HB := hid (show Below w.heap.size w V by rw [← hV]; exact below_alloc w _)
  have hA : V.heap[w.heap.size]? = some (.cells #[.int .i64 a, .slice p k.length c, .string t, .slice q lo.length c2, .slice r hi.length c3] 37 (0, 0)) := by rw [← hV]; exact heap_alloc_new w _
  have a1 : V.cell? ⟨w.heap.size, 1, none⟩ = some (.slice p k.length c) := by rw [cell_of_row _ _ _ _ _ _ hA]; rfl
  have a2 : V.cell? ⟨w.heap.size, 2, none⟩ = some (.string t) := by rw [cell_of_row _ _ _ _ _ _ hA]; rfl
  have a3 : V.cell? ⟨w.heap.size, 3, none⟩ = some (.slice q lo.length c2) := by rw [cell_of_row _ _ _ _ _ _ hA]; rfl
  have a4 : V.cell? ⟨w.heap.size, 4, none⟩ = some (.slice r hi.length c3) := by rw [cell_of_row _ _ _ _ _ _ hA]; rfl
  clear hA
  unfold shortO
  cases e1 : decide (k.length ≤ 20) with
  | false =>
    have z1 : decide ((k.length : Int) ≤ 20) = false := by simp at e1 ⊢; omega
    clear e1
    go_enter Try.func13, Try.ntmps13
    go_wp2_with fail
    go_ret
    exact ⟨rfl, HB.out⟩
  | true =>
    have z1 : decide ((k.length : Int) ≤ 20) = true := by simp at e1 ⊢; omega
    clear e1
    cases e2 : decide (t.size ≤ 100) with
    | false =>
      have z2 : decide ((t.size : Int) ≤ 100) = false := by simp at e2 ⊢; omega
      clear e2
      go_enter Try.func13, Try.ntmps13
      go_wp2_with fail
      go_ret
      exact ⟨rfl, HB.out⟩
    | true =>
      have z2 : decide ((t.size : Int) ≤ 100) = true := by simp at e2 ⊢; omega
      clear e2
      cases e3 : decide (lo.length ≤ 20) with
      | false =>
        have z3 : decide ((lo.length : Int) ≤ 20) = false := by simp at e3 ⊢; omega
        clear e3
        go_enter Try.func13, Try.ntmps13
        go_wp2_with fail
        go_ret
        exact ⟨rfl, HB.out⟩
      | true =>
        have z3 : decide ((lo.length : Int) ≤ 20) = true := by simp at e3 ⊢; omega
        clear e3
        cases e4 : decide (hi.length ≤ 20) with
        | false =>
          have z4 : decide ((hi.length : Int) ≤ 20) = false := by simp at e4 ⊢; omega
          clear e4
          go_enter Try.func13, Try.ntmps13
          go_wp2_with fail
          go_ret
          exact ⟨rfl, HB.out⟩
        | true =>
          have z4 : decide ((hi.length : Int) ≤ 20) = true := by simp at e4 ⊢; omega
          clear e4
          go_enter Try.func13, Try.ntmps13
          go_wp2_with fail
          go_ret
          exact ⟨rfl, HB.out⟩
theorem nil_coords (V : World) : ∀ w', Below V.heap.size V w' → Calls Try.prog 65 #[.pointer none] w' fun e w2 => e = .returned (.int .i64 0) ∧ w' = w2 := fun w' _ => coords_nil w'
theorem check0 (n : Nat) : checkB n 0 = false := by unfold checkB mayB; simp
theorem box0 (lo hi : List Nat) : boxB lo hi 0 = false := by unfold boxB; rw [check0]; rfl
theorem rec0 (k : List Nat) (t : ByteArray) : recB k t 0 = false := by unfold recB; rw [check0]; rfl
set_option maxRecDepth 100000 in
theorem AtlasNil_open0 {H : Type} {enc : TypeId × Value → H} {W : World} {base : Nat} {v : Value} {d : DataW H} {p : List MemPlace} (hv : Value.okWide Try.prog W .any base 37 v) (h : DataW.Trod enc Try.prog W 0 (fun _ => true) true 37 v d p) : OpV W v := open_opA hv h
set_option maxRecDepth 100000 in
set_option maxHeartbeats 8000000 in
theorem AtlasNil_walk (vo : Value) (w : World) (ho : OpV w vo) :
    Calls Try.prog 4 #[vo] w fun e w' => e = .returned (.bool true) ∧ Below w.heap.size w w' := by
  obtain ⟨a, p, k, c, t, q, lo, c2, r, hi, c3, rfl, hp, hq, hr, hkl, htl, hll, hhl⟩ := ho
  obtain ⟨V, hV⟩ : ∃ V, w.alloc (.cells #[.int .i64 a, .slice p k.length c, .string t, .slice q lo.length c2, .slice r hi.length c3] 37 (0, 0)) = V := ⟨_, rfl⟩
  have HB := hid (show Below w.heap.size w V by rw [← hV]; exact below_alloc w _)
  have HA := hid (show V.heap[w.heap.size]? = some (.cells #[.int .i64 a, .slice p k.length c, .string t, .slice q lo.length c2, .slice r hi.length c3] 37 (0, 0)) by rw [← hV]; exact heap_alloc_new w _)
  have HST := hid fun (w' : World) (hb : Below V.heap.size V w') => (show (w'.cell? ⟨w.heap.size, 0, none⟩ = some (.int .i64 a) ∧ w'.cell? ⟨w.heap.size, 1, none⟩ = some (.slice p k.length c) ∧ w'.cell? ⟨w.heap.size, 2, none⟩ = some (.string t)) ∧ w'.cell? ⟨w.heap.size, 3, none⟩ = some (.slice q lo.length c2) ∧ w'.cell? ⟨w.heap.size, 4, none⟩ = some (.slice r hi.length c3) from by
    have h := (hb.block w.heap.size (Array.getElem?_eq_some_iff.1 HA.out).1).trans HA.out
    exact ⟨⟨by rw [cell_of_row _ _ _ _ _ _ h]; rfl, by rw [cell_of_row _ _ _ _ _ _ h]; rfl, by rw [cell_of_row _ _ _ _ _ _ h]; rfl⟩, by rw [cell_of_row _ _ _ _ _ _ h]; rfl, by rw [cell_of_row _ _ _ _ _ _ h]; rfl⟩)
  have HBV := hid fun (w' : World) (hb : Below V.heap.size V w') => HB.out.trans (hb.mono HB.out.size)
  have HP := hid fun (w' : World) (hb : Below V.heap.size V w') => (And.intro (hp.below (HBV.out w' hb)) (And.intro (hq.below (HBV.out w' hb)) (hr.below (HBV.out w' hb))))
  have HS := hid (shortO_ok a p q r k lo hi t c c2 c3 V)
  have HLL := hid hll
  have H0 := hid (Below.refl V.heap.size V)
  obtain ⟨⟨a0, a1, a2⟩, a3, a4⟩ := HST.out _ H0.out
  clear hp hq hr
  cases hs : shortO k t lo hi with
  | false =>
    rw [hs] at HS
    clear hs
    go_enter Try.func4, Try.ntmps4
    go_wp2_with (first
      | (go_at_call 13; refine HS.out.mono ?_; rintro e w1 ⟨rfl, hb⟩; have H1 := hid hb; clear hb)
      | (go_at_call 14; refine (live_any _).mono ?_; rintro e w2 ⟨rfl, hb⟩; have H2 := hid (H1.out.trans (hb.mono H1.out.size)); clear hb))
    go_ret
    exact ⟨rfl, HBV.out _ H2.out⟩
  | true =>
    rw [hs] at HS
    clear hs
    go_enter Try.func4, Try.ntmps4
    go_wp2_with fail
    refine HS.out.mono ?_
    rintro e w1 ⟨rfl, hb⟩
    have H1 := hid hb; clear hb H0 HS a0 a1 a2 a3 a4
    obtain ⟨⟨a0, a1, a2⟩, a3, a4⟩ := HST.out _ H1.out
    go_wp2_with fail
    refine (new_bad 0 w1 (by decide)).mono ?_
    rintro e w' ⟨rfl, rfl⟩
    go_wp2_with fail
    refine (get_bad k p c 0 none w1 (coords_nil w1) (check0 _)).mono ?_
    rintro e w' ⟨rfl, rfl⟩
    have HW := hid (window_bad lo hi q r c2 c3 0 none w1 (nil_coords w1) (HP.out _ H1.out).2.1 (HP.out _ H1.out).2.2 HLL.out (box0 _ _))
    go_wp2_with fail
    refine HW.out.mono ?_
    rintro e w2 ⟨pl, rfl, hb⟩
    replace H1 := hid (H1.out.trans (hb.mono H1.out.size)); clear hb a0 a1 a2 a3 a4 HW
    obtain ⟨⟨a0, a1, a2⟩, a3, a4⟩ := HST.out _ H1.out
    have HW := hid (count_bad lo hi q r c2 c3 0 none w2 (nil_coords w2) (HP.out _ H1.out).2.1 (HP.out _ H1.out).2.2 HLL.out (box0 _ _))
    go_wp2_with fail
    refine HW.out.mono ?_
    rintro e w3 ⟨rfl, hb⟩
    replace H1 := hid (H1.out.trans (hb.mono H1.out.size)); clear hb a0 a1 a2 a3 a4 HW
    obtain ⟨⟨a0, a1, a2⟩, a3, a4⟩ := HST.out _ H1.out
    have HW := hid (put_bad k t p c 0 none w3 (nil_coords w3) (rec0 _ _))
    go_wp2_with fail
    refine HW.out.mono ?_
    rintro e w4 ⟨rfl, hb⟩
    replace H1 := hid (H1.out.trans (hb.mono H1.out.size)); clear hb a0 a1 a2 a3 a4 HW
    obtain ⟨⟨a0, a1, a2⟩, a3, a4⟩ := HST.out _ H1.out
    go_wp2_with fail
    refine (del_bad k p c 0 none w4 (coords_nil w4) (check0 _)).mono ?_
    rintro e w' ⟨rfl, rfl⟩
    go_wp2_with (first
      | (go_at_call 29; refine (all_nil _).mono ?_; rintro e w' ⟨rfl, rfl⟩)
      | (go_at_call 30; refine (len_nil _).mono ?_; rintro e w' ⟨rfl, rfl⟩)
      | (go_at_call 16; refine (copy_nil _).mono ?_; rintro e w' ⟨rfl, rfl⟩)
      | (go_at_call 14; refine (live_any _).mono ?_; rintro e w5 ⟨rfl, hb⟩; have H2 := hid (H1.out.trans (hb.mono H1.out.size)); clear hb))
    go_ret
    exact ⟨rfl, HBV.out _ H2.out⟩
end Go.Proofs.Ytlkejjclmamlaaa
