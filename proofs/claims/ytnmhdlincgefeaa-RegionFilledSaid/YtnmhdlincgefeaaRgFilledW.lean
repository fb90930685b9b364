/- RegionFilled walked. -/
import Derived.Test.YtnmhdlincgefeaaRgFindsW
import Derived.Test.YtnmhdlincgefeaaRgFlM
import Derived.Test.YtnmhdlincgefeaaRgOpn
import Derived.Test.YtnmhdlincgefeaaSlLvR
namespace Go.Proofs.Ytnmhdlincgefeaa.Rg
open Go.RowKit
open Go.Lib (hid)
open Go.Proofs.Ytnmhdlincgefeaa.Sl
theorem is_low {w V : World} {N : Nat} {p : Option Addr} {l : List Int} (h : CellsAt w p (iv l)) (hN : w.heap.size ≤ N) (hb : Below w.heap.size w V) : CellsD (fun j => ¬ j < N) V p (iv l) := fun j hj => by
  obtain ⟨b, off, e, hlt, hc⟩ := h j hj
  exact ⟨b, off, e, Nat.lt_of_lt_of_le hlt hb.size, fun hn => hn (by omega), (hb.cell (p := ⟨b, off + j, none⟩) hlt).trans hc⟩
/-- Fill, where the answer is known -/
theorem fill_is {K : Nat → Prop} {V : World} {b : Nat} {S : List Nat} {C C' : List Int} {x : Int} (h : Lv K V b S C) (lo hi : List Int) (p q : Option Addr) (c1 c2 : Nat) (hp : CellsD (fun j => ¬ K j) V p (iv lo)) (hq : CellsD (fun j => ¬ K j) V q (iv hi)) (hl : lo.length ≤ 1000000) (hl2 : hi.length ≤ 1000000) (n : Int) (hw : (Lit.int .i64 n).wf = true) (e : fillU S C lo hi n = (x, C')) :
    Calls Try.prog 21 #[.pointer (some ⟨b, 0, none⟩), .slice p lo.length c1, .slice q hi.length c2, .int .i64 n] V fun e V' => e = .returned (.int .i64 x) ∧ Lv K V' b S C' ∧ On K V V' := by
  have := lv_fill h lo hi p q c1 c2 hp hq hl hl2 n hw
  rw [e] at this
  exact this
/-- Of, where the answer is known -/
theorem of_is {K : Nat → Prop} {V : World} {b : Nat} {S L H : List Nat} {C : List Int} {n : Int} (h : Lv K V b S C) (e : filledL S (plc C C.length n) = some (L, H)) :
    Calls Try.prog 11 #[.pointer (some ⟨b, 0, none⟩), .int .i64 n] V fun e w' => ∃ p q c c', e = .returned (.tuple #[.slice p L.length c, .slice q H.length c', .bool true]) ∧ CellsAt w' p (iv (zs L)) ∧ CellsAt w' q (iv (zs H)) ∧ Below V.heap.size V w' := by
  obtain ⟨g, k, hs, _⟩ := h.ex
  have := of_ok hs h.fit n
  rw [e] at this
  exact this
theorem of_is_none {K : Nat → Prop} {V : World} {b : Nat} {S : List Nat} {C : List Int} {n : Int} (h : Lv K V b S C) (e : filledL S (plc C C.length n) = none) :
    Calls Try.prog 11 #[.pointer (some ⟨b, 0, none⟩), .int .i64 n] V fun e w' => ∃ p q c c', e = .returned (.tuple #[.slice p 0 c, .slice q 0 c', .bool false]) ∧ Below V.heap.size V w' := by
  obtain ⟨g, k, hs, _⟩ := h.ex
  have := of_ok hs h.fit n
  rw [e] at this
  exact this.mono fun _ _ hf => none_of hf
theorem ints_lz {A : List Nat} {l : List Int} (e : l = zs A) (hA : l.length ≤ 1000000) (p q : Option Addr) (c c' : Nat) (w : World) (hp : CellsAt w p (iv (zs A))) (hq : CellsAt w q (iv l)) :
    Calls Try.prog 15 #[.slice p A.length c, .slice q l.length c'] w fun e w' => e = .returned (.bool true) ∧ Below w.heap.size w w' := by
  subst e
  rw [zs_len] at hA ⊢
  exact ints_zs A hA p q c c' w hp hq
theorem wf_small {m : Int} (h0 : 0 ≤ m) (h1 : m ≤ 1000000001) : (Lit.int .i64 m).wf = true := Sl.i64_wf ⟨by omega, by omega⟩
theorem meas {n k : Nat} (h : k < n) : n - (intOf (.int .i64 ((k + 1 : Nat) : Int))).toNat < n - (intOf (.int .i64 (k : Int))).toNat := by simp [intOf]; omega
end Go.Proofs.Ytnmhdlincgefeaa.Rg
namespace Go.Proofs.Ytnmhdlincgefeaa
open Go.RowKit Go.Shelf
open Go.Lib (hid)
open Go.ChangeShapes Go.WideShapes Go.Joins
open Go.Proofs.Ytnmhdlincgefeaa.Sl
open Go.Proofs.Ytnmhdlincgefeaa.Rg
set_option maxRecDepth 100000 in
theorem RegionFilled_open0 {H : Type} {enc : TypeId × Value → H} {W : World} {base : Nat} {v : Value} {d : DataW H} {p : List MemPlace} (hv : Value.okWide Try.prog W .any base 51 v) (h : DataW.Trod enc Try.prog W 0 (fun _ => true) true 51 v d p) : FlV W v := open_Fl hv h
set_option maxRecDepth 100000 in
set_option maxHeartbeats 4000000 in
theorem rgfil_few (l C lo hi : List Int) (p q r s : Option Addr) (c1 c2 c3 c4 : Nat) (w : World) (h : ¬ (l.length ≤ 20 ∧ C.length ≤ 300 ∧ lo.length ≤ 20 ∧ hi.length ≤ 20)) :
    Calls Try.prog 6 #[.agg #[.slice p l.length c1, .slice q C.length c2, .slice r lo.length c3, .slice s hi.length c4]] w fun e w' => e = .returned (.bool true) ∧ Below w.heap.size w w' := by
  have HL := hid fun (V : World) => Rg.live_any V
  by_cases h1 : 20 < l.length
  · have e1 : decide ((20 : Int) < (l.length : Int)) = true := by simp; omega
    clear h h1
    go_enter Try.func6, Try.ntmps6
    go_wp2_with fail
    go_quiet (fail)
    generalize hV : World.drewN _ _ = V
    have HB := hid (show Below w.heap.size w V by rw [← hV]; exact Sl.below_drewN (Sl.below_alloc _ _) _)
    clear hV
    go_wp2_with fail
    refine (HL.out _).mono ?_
    rintro e w2 ⟨rfl, hb⟩
    have HB2 := hid (HB.out.trans (hb.mono HB.out.size)); clear hb
    go_wp2_with fail
    go_ret
    exact ⟨rfl, HB2.out⟩
  · have e1 : decide ((20 : Int) < (l.length : Int)) = false := by simp; omega
    by_cases h2 : 300 < C.length
    · have e2 : decide ((300 : Int) < (C.length : Int)) = true := by simp; omega
      clear h h1 h2
      go_enter Try.func6, Try.ntmps6
      go_wp2_with fail
      go_quiet (fail)
      generalize hV : World.drewN _ _ = V
      have HB := hid (show Below w.heap.size w V by rw [← hV]; exact Sl.below_drewN (Sl.below_alloc _ _) _)
      clear hV
      go_wp2_with fail
      refine (HL.out _).mono ?_
      rintro e w2 ⟨rfl, hb⟩
      have HB2 := hid (HB.out.trans (hb.mono HB.out.size)); clear hb
      go_wp2_with fail
      go_ret
      exact ⟨rfl, HB2.out⟩
    · have e2 : decide ((300 : Int) < (C.length : Int)) = false := by simp; omega
      by_cases h3 : 20 < lo.length
      · have e3 : decide ((20 : Int) < (lo.length : Int)) = true := by simp; omega
        clear h h1 h2 h3
        go_enter Try.func6, Try.ntmps6
        go_wp2_with fail
        go_quiet (fail)
        generalize hV : World.drewN _ _ = V
        have HB := hid (show Below w.heap.size w V by rw [← hV]; exact Sl.below_drewN (Sl.below_alloc _ _) _)
        clear hV
        go_wp2_with fail
        refine (HL.out _).mono ?_
        rintro e w2 ⟨rfl, hb⟩
        have HB2 := hid (HB.out.trans (hb.mono HB.out.size)); clear hb
        go_wp2_with fail
        go_ret
        exact ⟨rfl, HB2.out⟩
      · have e3 : decide ((20 : Int) < (lo.length : Int)) = false := by simp; omega
        have e4 : decide ((20 : Int) < (hi.length : Int)) = true := by simp; omega
        clear h h1 h2 h3
        go_enter Try.func6, Try.ntmps6
        go_wp2_with fail
        go_quiet (fail)
        generalize hV : World.drewN _ _ = V
        have HB := hid (show Below w.heap.size w V by rw [← hV]; exact Sl.below_drewN (Sl.below_alloc _ _) _)
        clear hV
        go_wp2_with fail
        refine (HL.out _).mono ?_
        rintro e w2 ⟨rfl, hb⟩
        have HB2 := hid (HB.out.trans (hb.mono HB.out.size)); clear hb
        go_wp2_with fail
        go_ret
        exact ⟨rfl, HB2.out⟩
set_option maxRecDepth 100000 in
set_option maxHeartbeats 4000000 in
theorem rgfil_no (l C lo hi : List Int) (p q r s : Option Addr) (c1 c2 c3 c4 : Nat) (w : World) (hp : CellsAt w p (iv l)) (h1 : l.length ≤ 20) (h2 : C.length ≤ 300) (h3 : lo.length ≤ 20) (h4 : hi.length ≤ 20) (hn : prodAns l ≠ some C.length) :
    Calls Try.prog 6 #[.agg #[.slice p l.length c1, .slice q C.length c2, .slice r lo.length c3, .slice s hi.length c4]] w fun e w' => e = .returned (.bool true) ∧ Below w.heap.size w w' := by
  have HL := hid fun (V : World) => Rg.live_any V
  have HA := hid fun (V : World) (hV : Below w.heap.size w V) => Sl.of_bad l C p q c1 c2 V (hp.below hV) (by omega) hn
  have e1 : decide ((20 : Int) < (l.length : Int)) = false := by simp; omega
  have e2 : decide ((300 : Int) < (C.length : Int)) = false := by simp; omega
  have e3 : decide ((20 : Int) < (lo.length : Int)) = false := by simp; omega
  have e4 : decide ((20 : Int) < (hi.length : Int)) = false := by simp; omega
  clear hp h1 h2 h3 h4 hn
  go_enter Try.func6, Try.ntmps6
  go_wp2_with fail
  go_quiet (fail)
  generalize hV : World.drewN _ _ = V
  have HB := hid (show Below w.heap.size w V by rw [← hV]; exact Sl.below_drewN (Sl.below_alloc _ _) _)
  clear hV
  go_wp2_with fail
  refine (HA.out _ HB.out).mono ?_
  rintro e w1 ⟨rfl, rfl⟩
  go_wp2_with fail
  refine (HL.out _).mono ?_
  rintro e w2 ⟨rfl, hb⟩
  have HB2 := hid (HB.out.trans (hb.mono HB.out.size)); clear hb
  go_wp2_with fail
  go_ret
  exact ⟨rfl, HB2.out⟩
set_option maxRecDepth 100000 in
set_option maxHeartbeats 8000000 in
theorem rgfil_go (S : List Nat) (l C lo hi : List Int) (p q r s : Option Addr) (c1 c2 c3 c4 : Nat) (w : World) (hS : l = zs S) (hF : Fits S C) (hwf : ∀ z ∈ C, (Lit.int .i64 z).wf = true) (hp : CellsAt w p (iv l)) (hq : CellsAt w q (iv C)) (hr : CellsAt w r (iv lo)) (hs : CellsAt w s (iv hi)) (h1 : l.length ≤ 20) (h2 : C.length ≤ 300) (h3 : lo.length ≤ 20) (h4 : hi.length ≤ 20) (hn : prodAns l = some C.length) :
    Calls Try.prog 6 #[.agg #[.slice p l.length c1, .slice q C.length c2, .slice r lo.length c3, .slice s hi.length c4]] w fun e w' => e = .returned (.bool true) ∧ Below w.heap.size w w' := by
  have HL := hid fun (V : World) => Rg.live_any V
  have HA : Hid (∀ V : World, Below w.heap.size w V → Calls Try.prog 9 #[.slice p l.length c1, .slice q C.length c2] V fun e w' => ∃ b, e = .returned (.tuple #[.pointer (some ⟨b, 0, none⟩), .int .i64 0]) ∧ Lv (fun j => j < V.heap.size) w' b S C ∧ Below V.heap.size V w') := hid fun V hV => by
    have := Rg.of_ok_slab l C p q c1 c2 V (hp.below hV) (hq.below hV) (by omega) (by omega) hn
    exact this.mono fun e w' ⟨b, g, h, h1, h2, h3, h4⟩ => ⟨b, h1, ⟨⟨g, h, hS ▸ h2, fun j hj hk => by have := h3 j hj; omega⟩, hF, hwf, fun j hj => Nat.lt_of_lt_of_le hj h4.size⟩, h4⟩
  have HR := hid hq
  have HIN := hid (And.intro hr hs)
  have HLEN := hid (And.intro h2 (And.intro h3 h4))
  have e1 : decide ((20 : Int) < (l.length : Int)) = false := by simp; omega
  have e2 : decide ((300 : Int) < (C.length : Int)) = false := by simp; omega
  have e3 : decide ((20 : Int) < (lo.length : Int)) = false := by simp; omega
  have e4 : decide ((20 : Int) < (hi.length : Int)) = false := by simp; omega
  have HCL := hid h2
  clear hp hq hr hs h1 h2 h3 h4 hn hS hwf hF
  go_enter Try.func6, Try.ntmps6
  go_wp2_with fail
  go_quiet (fail)
  generalize hV : World.drewN _ _ = V
  have HB := hid (show Below w.heap.size w V by rw [← hV]; exact Sl.below_drewN (Sl.below_alloc _ _) _)
  clear hV
  go_wp2_with fail
  refine (HA.out _ HB.out).mono ?_
  rintro e w1 ⟨b, rfl, hx, hb⟩
  have HX := hid hx
  have HB1 := hid (HB.out.trans (hb.mono HB.out.size))
  have HBV := hid hb
  clear hx hb HA e1 e2 e3 e4
  have HQ := hid (HR.out.below HB1.out)
  go_wp2_with fail
  go_loopw [9, 10] (fun z i wr => ∃ (k : Nat) (m : Int), k ≤ C.length ∧ i = .int .i64 k ∧ z = .int .i64 m ∧ 0 ≤ m ∧ m ≤ 1000000001 ∧ (∀ x ∈ C.take k, x < m) ∧ wr = w1) (fun _ i _ => C.length - (intOf i).toNat)
  case atStart => exact ⟨0, 0, by omega, rfl, rfl, by omega, by omega, fun x hx => by simp at hx, rfl⟩
  case round =>
    obtain ⟨k, m, hk, rfl, rfl, hm0, hm1, hall, hw⟩ := hrel
    obtain rfl : w1 = _ := hw.symm
    by_cases hlt : k < C.length
    · obtain ⟨b1, o1, rfl, lt1, d0⟩ := HQ.out k (by rw [iv_length]; exact hlt)
      have d1 : w1.cell? ⟨b1, o1 + k, none⟩ = some (.int .i64 C[k]) := by have := d0; simp [iv] at this; exact this
      clear d0
      have HT := hid (show C.take (k + 1) = C.take k ++ [C[k]] by rw [List.take_succ_eq_append_getElem hlt])
      generalize C[k] = x at d1 HT
      have HM := hid (And.intro hm0 (And.intro hm1 hall))
      clear hm0 hm1 hall
      by_cases hx : 1000000000 < x
      · have f1 : decide ((1000000000 : Int) < x) = true := decide_eq_true hx
        clear hx
        go_wp2_with fail
        refine (HL.out _).mono ?_
        rintro e w2 ⟨rfl, hb⟩
        have HB2 := hid (HB1.out.trans (hb.mono HB1.out.size)); clear hb
        go_wp2_with fail
        go_ret
        exact ⟨rfl, HB2.out⟩
      · have f1 : decide ((1000000000 : Int) < x) = false := decide_eq_false hx
        by_cases hy : x < -1000000000
        · have f2 : decide (x < (-1000000000 : Int)) = true := decide_eq_true hy
          clear hx hy
          go_wp2_with fail
          refine (HL.out _).mono ?_
          rintro e w2 ⟨rfl, hb⟩
          have HB2 := hid (HB1.out.trans (hb.mono HB1.out.size)); clear hb
          go_wp2_with fail
          go_ret
          exact ⟨rfl, HB2.out⟩
        · have f2 : decide (x < (-1000000000 : Int)) = false := decide_eq_false hy
          have HXY := hid (And.intro hx hy)
          have f3 : wrap64 (x + 1) = x + 1 := Go.IntWalk.wrap64_in _ (by omega)
          have f4 : wrap64 ((k : Int) + 1) = ((k + 1 : Nat) : Int) := by have := HCL.out; rw [Go.IntWalk.wrap64_in _ (by omega)]; omega
          have HLT := hid hlt
          clear hx hy
          go_wp2_with fail
          go_roundw
          case rel =>
            have := HCL.out
            refine ⟨k + 1, max m (x + 1), by omega, by rw [f4], rfl, ?_, ?_, ?_, trivial⟩
            · have := HM.out.1; omega
            · have := HM.out.2.1; have := HXY.out.1; omega
            · intro y hy
              rw [HT.out] at hy
              rcases List.mem_append.1 hy with hy | hy
              · have := HM.out.2.2 y hy; omega
              · obtain rfl : y = x := by simpa using hy
                omega
          case measure => rw [f4]; exact meas HLT.out
    · obtain rfl : k = C.length := by omega
      rw [List.take_length] at hall
      have hni : m ∉ C := fun h => by have := hall m h; omega
      have HW := hid (wf_small hm0 hm1)
      have HLO := hid (And.intro (is_low (N := V.heap.size) HIN.out.1 HB.out.size HB1.out) (is_low (N := V.heap.size) HIN.out.2 HB.out.size HB1.out))
      have hlen := HLEN.out
      clear hm0 hm1 hall
      cases hr : rangeB (zs S) lo hi with
      | false =>
        obtain ⟨e1, e2⟩ := found_no hni hr
        have HF := hid (fill_is HX.out lo hi r s c3 c4 HLO.out.1 HLO.out.2 (by omega) (by omega) m HW.out e1)
        have HE := hid e2
        clear hr hni e1 e2 hlen
        go_wp2_with fail
        refine HF.out.mono ?_
        rintro e w3 ⟨rfl, hl, hon⟩
        have HX3 := hid hl
        have HB3 := hid (HB1.out.trans (hon.below HB1.out.size fun j hj => Nat.lt_of_lt_of_le hj HB.out.size))
        clear hl hon HF
        go_wp2_with fail
        refine (of_is_none HX3.out HE.out).mono ?_
        rintro e w4 ⟨p1, q1, k1, m1, rfl, hb⟩
        have HB4 := hid (HB3.out.trans (hb.mono HB3.out.size)); clear hb
        go_wp2_with fail
        refine (HL.out _).mono ?_
        rintro e w5 ⟨rfl, hb⟩
        have HB5 := hid (HB4.out.trans (hb.mono HB4.out.size)); clear hb
        go_wp2_with fail
        go_ret
        exact ⟨rfl, HB5.out⟩
      | true =>
        obtain ⟨L, H, C', el, eh, e1, e2⟩ := found_yes HX.out.fit hni hr
        have HF := hid (fill_is HX.out lo hi r s c3 c4 HLO.out.1 HLO.out.2 (by omega) (by omega) m HW.out e1)
        have HE := hid e2
        have HI1 := hid (ints_lz el (by omega))
        have HI2 := hid (ints_lz eh (by omega))
        clear hr hni e1 e2 hlen el eh
        go_wp2_with fail
        refine HF.out.mono ?_
        rintro e w3 ⟨rfl, hl, hon⟩
        have HX3 := hid hl
        have HB3 := hid (HB1.out.trans (hon.below HB1.out.size fun j hj => Nat.lt_of_lt_of_le hj HB.out.size))
        clear hl hon HF
        go_wp2_with fail
        refine (of_is HX3.out HE.out).mono ?_
        rintro e w4 ⟨p1, q1, k1, m1, rfl, g1, g2, hb⟩
        have HB4 := hid (HB3.out.trans (hb.mono HB3.out.size))
        have G1 := hid g1; have G2 := hid g2
        clear hb g1 g2
        go_wp2_with fail
        refine (HI1.out p1 r k1 c3 _ G1.out (HIN.out.1.below HB4.out)).mono ?_
        rintro e w5 ⟨rfl, hb⟩
        have HB5 := hid (HB4.out.trans (hb.mono HB4.out.size))
        replace G2 := hid (G2.out.below hb)
        clear hb G1
        go_wp2_with fail
        refine (HI2.out q1 s m1 c4 _ G2.out (HIN.out.2.below HB5.out)).mono ?_
        rintro e w6 ⟨rfl, hb⟩
        have HB6 := hid (HB5.out.trans (hb.mono HB5.out.size)); clear hb
        go_wp2_with fail
        refine (HL.out _).mono ?_
        rintro e w7 ⟨rfl, hb⟩
        have HB7 := hid (HB6.out.trans (hb.mono HB6.out.size)); clear hb
        go_wp2_with fail
        go_ret
        exact ⟨rfl, HB7.out⟩
theorem RegionFilled_walk (v : Value) (w : World) (h : FlV w v) :
    Calls Try.prog 6 #[v] w fun e w' => e = .returned (.bool true) ∧ Below w.heap.size w w' := by
  obtain ⟨⟨p, l, c1, q, C, c2, r, lo, c3, s, hi, c4⟩, rfl, ho⟩ := h
  change Calls _ _ #[.agg #[.slice p l.length c1, .slice q C.length c2, .slice r lo.length c3, .slice s hi.length c4]] w _
  have hp : Sl.Is w p l := ho.f0.1
  have hq : Sl.Is w q C := ho.f1.1
  have hr : Sl.Is w r lo := ho.f2.1
  have hs : Sl.Is w s hi := ho.f3.1
  by_cases hh : l.length ≤ 20 ∧ C.length ≤ 300 ∧ lo.length ≤ 20 ∧ hi.length ≤ 20
  · by_cases hn : prodAns l = some C.length
    · obtain ⟨S, e, hF⟩ := prod_fits hn
      exact rgfil_go S l C lo hi p q r s c1 c2 c3 c4 w e hF hq.wf hp.cells hq.cells hr.cells hs.cells hh.1 hh.2.1 hh.2.2.1 hh.2.2.2 hn
    · exact rgfil_no l C lo hi p q r s c1 c2 c3 c4 w hp.cells hh.1 hh.2.1 hh.2.2.1 hh.2.2.2 hn
  · exact rgfil_few l C lo hi p q r s c1 c2 c3 c4 w hh
end Go.Proofs.Ytnmhdlincgefeaa
