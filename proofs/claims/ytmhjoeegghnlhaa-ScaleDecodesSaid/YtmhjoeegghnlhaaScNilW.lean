/- ScaleNil walked. -/
import Derived.Test.YtmhjoeegghnlhaaScGro
namespace Go.Proofs.Ytmhjoeegghnlhaa
open Go.RowKit
open Go.Lib (hid)
open Go.ChangeShapes Go.WideShapes Go.Joins
open Go.Proofs.Ytmhjoeegghnlhaa.Ky Go.Proofs.Ytmhjoeegghnlhaa.Bk Go.Proofs.Ytmhjoeegghnlhaa.Sc

/-- has an op few numbers? -/
def shortO (l4 h4 : List Nat) (l5 l6 : List Int) : Bool := decide (l4.length ≤ 20) && (decide (h4.length ≤ 20) && (decide (l5.length ≤ 20) && decide (l6.length ≤ 20)))
set_option maxRecDepth 100000 in
set_option maxHeartbeats 2000000 in
theorem shortO_ok (a0 a1 a2 : Int) (a3 : Nat) (p4 q4 p5 p6 : Option Addr) (l4 h4 : List Nat) (l5 l6 : List Int) (c4 e4 c5 c6 : Nat) (w : World) :
    Calls Try.prog 11 #[.agg #[.int .i64 a0, .int .i64 a1, .int .i64 a2, .int .u32 (a3 : Int), .slice p4 l4.length c4, .slice q4 h4.length e4, .slice p5 l5.length c5, .slice p6 l6.length c6]] w fun e w' => e = .returned (.bool (shortO l4 h4 l5 l6)) ∧ Below w.heap.size w w' := by
  obtain ⟨V, hV⟩ : ∃ V, w.alloc (.cells #[.int .i64 a0, .int .i64 a1, .int .i64 a2, .int .u32 (a3 : Int), .slice p4 l4.length c4, .slice q4 h4.length e4, .slice p5 l5.length c5, .slice p6 l6.length c6] 37 (0, 0)) = V := ⟨_, rfl⟩
  have HB := hid (show Below w.heap.size w V by rw [← hV]; exact below_alloc w _)
  have hA : V.heap[w.heap.size]? = some (.cells #[.int .i64 a0, .int .i64 a1, .int .i64 a2, .int .u32 (a3 : Int), .slice p4 l4.length c4, .slice q4 h4.length e4, .slice p5 l5.length c5, .slice p6 l6.length c6] 37 (0, 0)) := by rw [← hV]; exact heap_alloc_new w _
  have b4 : V.cell? ⟨w.heap.size, 4, none⟩ = some (.slice p4 l4.length c4) := by rw [cell_of_row _ _ _ _ _ _ hA]; rfl
  have b5 : V.cell? ⟨w.heap.size, 5, none⟩ = some (.slice q4 h4.length e4) := by rw [cell_of_row _ _ _ _ _ _ hA]; rfl
  have b6 : V.cell? ⟨w.heap.size, 6, none⟩ = some (.slice p5 l5.length c5) := by rw [cell_of_row _ _ _ _ _ _ hA]; rfl
  have b7 : V.cell? ⟨w.heap.size, 7, none⟩ = some (.slice p6 l6.length c6) := by rw [cell_of_row _ _ _ _ _ _ hA]; rfl
  clear hA
  unfold shortO
  cases e0 : decide (l4.length ≤ 20) with
  | false =>
    have z0 : decide ((l4.length : Int) ≤ 20) = false := by simp at e0 ⊢; omega
    clear e0
    go_enter Try.func11, Try.ntmps11
    go_wp2_with fail
    go_ret
    exact ⟨rfl, HB.out⟩
  | true =>
    have z0 : decide ((l4.length : Int) ≤ 20) = true := by simp at e0 ⊢; omega
    clear e0
    cases e1 : decide (h4.length ≤ 20) with
    | false =>
      have z1 : decide ((h4.length : Int) ≤ 20) = false := by simp at e1 ⊢; omega
      clear e1
      go_enter Try.func11, Try.ntmps11
      go_wp2_with fail
      go_ret
      exact ⟨rfl, HB.out⟩
    | true =>
      have z1 : decide ((h4.length : Int) ≤ 20) = true := by simp at e1 ⊢; omega
      clear e1
      cases e2 : decide (l5.length ≤ 20) with
      | false =>
        have z2 : decide ((l5.length : Int) ≤ 20) = false := by simp at e2 ⊢; omega
        clear e2
        go_enter Try.func11, Try.ntmps11
        go_wp2_with fail
        go_ret
        exact ⟨rfl, HB.out⟩
      | true =>
        have z2 : decide ((l5.length : Int) ≤ 20) = true := by simp at e2 ⊢; omega
        clear e2
        cases e3 : decide (l6.length ≤ 20) with
        | false =>
          have z3 : decide ((l6.length : Int) ≤ 20) = false := by simp at e3 ⊢; omega
          clear e3
          go_enter Try.func11, Try.ntmps11
          go_wp2_with fail
          go_ret
          exact ⟨rfl, HB.out⟩
        | true =>
          have z3 : decide ((l6.length : Int) ≤ 20) = true := by simp at e3 ⊢; omega
          clear e3
          go_enter Try.func11, Try.ntmps11
          go_wp2_with fail
          go_ret
          exact ⟨rfl, HB.out⟩
theorem check0 (n : Nat) : checkB n 0 = false := by unfold checkB mayB; simp
theorem box0 (lo hi : List Nat) : boxB lo hi 0 = false := by unfold boxB; rw [check0]; rfl
set_option maxRecDepth 100000 in
theorem ScaleNil_open0 {H : Type} {enc : TypeId × Value → H} {W : World} {base : Nat} {v : Value} {d : DataW H} {p : List MemPlace} (hv : Value.okWide Try.prog W .any base 37 v) (h : DataW.Trod enc Try.prog W 0 (fun _ => true) true 37 v d p) : OpV W v := open_Op hv h
set_option maxRecDepth 100000 in
set_option maxHeartbeats 8000000 in
theorem ScaleNil_walk (vo : Value) (w : World) (ho : OpV w vo) :
    Calls Try.prog 5 #[vo] w fun e w' => e = .returned (.bool true) ∧ Below w.heap.size w w' := by
  obtain ⟨⟨a0, a1, a2, a3, p4, l4, c4, q4, h4, e4, p5, l5, c5, p6, l6, c6⟩, rfl, ho⟩ := ho
  change Calls _ _ #[.agg #[.int .i64 a0, .int .i64 a1, .int .i64 a2, .int .u32 (a3 : Int), .slice p4 l4.length c4, .slice q4 h4.length e4, .slice p5 l5.length c5, .slice p6 l6.length c6]] w _
  obtain ⟨hp4, hq4, hl4, _⟩ := ho.f4
  obtain ⟨V, hV⟩ : ∃ V, w.alloc (.cells #[.int .i64 a0, .int .i64 a1, .int .i64 a2, .int .u32 (a3 : Int), .slice p4 l4.length c4, .slice q4 h4.length e4, .slice p5 l5.length c5, .slice p6 l6.length c6] 37 (0, 0)) = V := ⟨_, rfl⟩
  have HB := hid (show Below w.heap.size w V by rw [← hV]; exact below_alloc w _)
  have HA := hid (show V.heap[w.heap.size]? = some (.cells #[.int .i64 a0, .int .i64 a1, .int .i64 a2, .int .u32 (a3 : Int), .slice p4 l4.length c4, .slice q4 h4.length e4, .slice p5 l5.length c5, .slice p6 l6.length c6] 37 (0, 0)) by rw [← hV]; exact heap_alloc_new w _)
  have HST := hid fun (w' : World) (hb : Below V.heap.size V w') => (show (w'.cell? ⟨w.heap.size, 0, none⟩ = some (.int .i64 a0) ∧ w'.cell? ⟨w.heap.size, 1, none⟩ = some (.int .i64 a1) ∧ w'.cell? ⟨w.heap.size, 2, none⟩ = some (.int .i64 a2) ∧ w'.cell? ⟨w.heap.size, 3, none⟩ = some (.int .u32 (a3 : Int))) ∧ w'.cell? ⟨w.heap.size, 4, none⟩ = some (.slice p4 l4.length c4) ∧ w'.cell? ⟨w.heap.size, 5, none⟩ = some (.slice q4 h4.length e4) ∧ w'.cell? ⟨w.heap.size, 6, none⟩ = some (.slice p5 l5.length c5) ∧ w'.cell? ⟨w.heap.size, 7, none⟩ = some (.slice p6 l6.length c6) from by
    have h := (hb.block w.heap.size (Array.getElem?_eq_some_iff.1 HA.out).1).trans HA.out
    exact ⟨⟨by rw [cell_of_row _ _ _ _ _ _ h]; rfl, by rw [cell_of_row _ _ _ _ _ _ h]; rfl, by rw [cell_of_row _ _ _ _ _ _ h]; rfl, by rw [cell_of_row _ _ _ _ _ _ h]; rfl⟩, by rw [cell_of_row _ _ _ _ _ _ h]; rfl, by rw [cell_of_row _ _ _ _ _ _ h]; rfl, by rw [cell_of_row _ _ _ _ _ _ h]; rfl, by rw [cell_of_row _ _ _ _ _ _ h]; rfl⟩)
  have HBV := hid fun (w' : World) (hb : Below V.heap.size V w') => HB.out.trans (hb.mono HB.out.size)
  have HP := hid fun (w' : World) (hb : Below V.heap.size V w') => (And.intro (hp4.below (HBV.out w' hb)) (hq4.below (HBV.out w' hb)))
  have HS := hid (shortO_ok a0 a1 a2 a3 p4 q4 p5 p6 l4 h4 l5 l6 c4 e4 c5 c6 V)
  have HL := hid hl4
  have H0 := hid (Below.refl V.heap.size V)
  obtain ⟨⟨y0, y1, y2, y3⟩, y4, y5, y6, y7⟩ := HST.out _ H0.out
  clear hp4 hq4 hl4 ho HA
  cases hs : shortO l4 h4 l5 l6 with
  | false =>
    rw [hs] at HS
    clear hs
    go_enter Try.func5, Try.ntmps5
    go_wp2_with fail
    refine HS.out.mono ?_
    rintro e w1 ⟨rfl, hb⟩
    have H1 := hid hb; clear hb
    go_wp2_with fail
    refine (live_any _).mono ?_
    rintro e w2 ⟨rfl, hb⟩
    have H2 := hid (H1.out.trans (hb.mono H1.out.size)); clear hb
    go_wp2_with fail
    go_ret
    exact ⟨rfl, HBV.out _ H2.out⟩
  | true =>
    rw [hs] at HS
    clear hs
    go_enter Try.func5, Try.ntmps5
    go_wp2_with fail
    refine HS.out.mono ?_
    rintro e w1 ⟨rfl, hb⟩
    have H1 := hid hb
    clear hb H0 HS hV y0 y1 y2 y3 y4 y5 y6 y7
    obtain ⟨⟨y0, y1, y2, y3⟩, y4, y5, y6, y7⟩ := HST.out _ H1.out
    go_wp2_with fail
    refine (new_bad 7 w1 (.inr (by omega))).mono ?_
    rintro e w' ⟨rfl, rfl⟩
    go_wp2_with fail
    refine (insert_nil a1 a3 w1).mono ?_
    rintro e w' ⟨rfl, rfl⟩
    go_wp2_with fail
    refine (find_nil l4 p4 c4 w1).mono ?_
    rintro e w2 ⟨rfl, hb⟩
    have H2 := hid (H1.out.trans (hb.mono H1.out.size))
    clear hb H1 y0 y1 y2 y3 y4 y5 y6 y7
    obtain ⟨⟨y0, y1, y2, y3⟩, y4, y5, y6, y7⟩ := HST.out _ H2.out
    go_wp2_with fail
    refine (box_nil l5.length l6.length p5 p6 c5 c6 w2).mono ?_
    rintro e w3 ⟨A, cA, A', cA', rfl, _, _, hb⟩
    have H3 := hid (H2.out.trans (hb.mono H2.out.size))
    clear hb H2 y0 y1 y2 y3 y4 y5 y6 y7
    obtain ⟨V3, hV3⟩ : ∃ V3, w3.alloc (.cells #[.slice A 0 cA, .slice A' 0 cA'] 34) = V3 := ⟨_, rfl⟩
    have HA3 := hid (show Below w3.heap.size w3 V3 by rw [← hV3]; exact below_alloc _ _)
    have HD3 := hid (show V3.heap[w3.heap.size]? = some (.cells #[.slice A 0 cA, .slice A' 0 cA'] 34 (0, 0)) by rw [← hV3]; exact heap_alloc_new _ _)
    have HV3 := hid (H3.out.trans (HA3.out.mono H3.out.size))
    clear H3 HA3
    obtain ⟨⟨y0, y1, y2, y3⟩, y4, y5, y6, y7⟩ := HST.out _ HV3.out
    go_wp2_with fail
    refine (meet_no none 0 l4 h4 p4 q4 c4 e4 V3 (fun X _ => coords_nil X) (HP.out _ HV3.out).1 (HP.out _ HV3.out).2 HL.out (box0 _ _)).mono ?_
    rintro e w4 ⟨rfl, hb⟩
    have H4 := hid (HV3.out.trans (hb.mono HV3.out.size))
    have HD4 := hid ((hb.block _ (lt_of HD3.out)).trans HD3.out)
    clear hb HD3 HV3 hV3 y0 y1 y2 y3 y4 y5 y6 y7
    obtain ⟨⟨y0, y1, y2, y3⟩, y4, y5, y6, y7⟩ := HST.out _ H4.out
    have d0 : w4.cell? ⟨w3.heap.size, 0, none⟩ = some (.slice A 0 cA) := by rw [cell_of_row _ _ _ _ _ _ HD4.out]; rfl
    go_wp2_with fail
    refine (remove_nil a1 a2 w4).mono ?_
    rintro e w' ⟨rfl, rfl⟩
    go_wp2_with fail
    refine (sizes_nil w4).mono ?_
    rintro e w5 ⟨g, rfl, hb⟩
    have H5 := hid (H4.out.trans (hb.mono H4.out.size))
    clear hb H4 y0 y1 y2 y3 y4 y5 y6 y7 d0
    go_wp2_with fail
    refine (encode_nil w5).mono ?_
    rintro e w6 ⟨rfl, hb⟩
    have H6 := hid (H5.out.trans (hb.mono H5.out.size))
    clear hb H5
    go_wp2_with fail
    refine (copy_nil w6).mono ?_
    rintro e w' ⟨rfl, rfl⟩
    go_wp2_with fail
    refine (live_any _).mono ?_
    rintro e w7 ⟨rfl, hb⟩
    have H7 := hid (H6.out.trans (hb.mono H6.out.size))
    clear hb H6
    go_wp2_with fail
    go_ret
    exact ⟨rfl, HBV.out _ H7.out⟩
end Go.Proofs.Ytmhjoeegghnlhaa
