/- RegionFinds walked. -/
import Derived.Test.YtnmhdlincgefeaaRgRAll
import Derived.Test.YtnmhdlincgefeaaRgROf
import Derived.Test.YtnmhdlincgefeaaRgLive
import Derived.Test.YtnmhdlincgefeaaSlOp0R
namespace Go.Proofs.Ytnmhdlincgefeaa.Rg
open Go.RowKit
open Go.Lib (hid)
open Go.Proofs.Ytnmhdlincgefeaa.Sl
theorem loF_len {S : List Nat} (hS : ∀ s ∈ S, 0 < s) (ps : List Nat) : (boxF S ps).1.length ≤ S.length ∧ (boxF S ps).2.length ≤ S.length := by
  cases ps with
  | nil => exact ⟨Nat.zero_le _, Nat.zero_le _⟩
  | cons p t =>
    have h := Rng.fold hS t (Rng.one hS p)
    exact ⟨Nat.le_of_eq (okC_len h.okl).symm, Nat.le_of_eq (okC_len h.okh).symm⟩
theorem filled_len {S : List Nat} (hS : ∀ s ∈ S, 0 < s) (ps : List Nat) : (lowR (filledL S ps)).length ≤ S.length ∧ (highR (filledL S ps)).length ≤ S.length := by
  unfold filledL
  split
  · exact loF_len hS ps
  · exact ⟨Nat.zero_le _, Nat.zero_le _⟩
theorem ints_zs (A : List Nat) (hA : A.length ≤ 1000000) (p q : Option Addr) (c c' : Nat) (w : World) (hp : CellsAt w p (iv (zs A))) (hq : CellsAt w q (iv (zs A))) :
    Calls Try.prog 15 #[.slice p A.length c, .slice q A.length c'] w fun e w' => e = .returned (.bool true) ∧ Below w.heap.size w w' := by
  have := ints_ok (zs A) (zs A) p q c c' w hp hq (by rw [zs_len]; exact hA)
  rw [zs_len] at this
  exact this.mono fun e w' ⟨h1, N, h2⟩ => ⟨by rw [h1]; simp, by rw [h2]; exact below_drewN (Below.refl _ _) N⟩
theorem ints_self (A : List Int) (hA : A.length ≤ 1000000) (p q : Option Addr) (c c' : Nat) (w : World) (hp : CellsAt w p (iv A)) (hq : CellsAt w q (iv A)) :
    Calls Try.prog 15 #[.slice p A.length c, .slice q A.length c'] w fun e w' => e = .returned (.bool true) ∧ Below w.heap.size w w' := by
  have := ints_ok A A p q c c' w hp hq hA
  exact this.mono fun e w' ⟨h1, N, h2⟩ => ⟨by rw [h1]; simp, by rw [h2]; exact below_drewN (Below.refl _ _) N⟩
theorem prod_fits {l C : List Int} (h : prodAns l = some C.length) : ∃ S : List Nat, l = zs S ∧ Fits S C := by
  unfold prodAns at h
  split at h
  · rename_i hl
    obtain ⟨S, rfl, h1, h2, h3⟩ := prodN_nat 1 l _ (Nat.le_refl _) (by omega) h
    rw [zs_len] at hl
    refine ⟨S, rfl, ?_, hl.2, h1, by omega, by omega⟩
    intro e; subst e; simp at hl
  · cases h
theorem none_all {w w' : World} {e : Ending} (h : ARet w [] [] e w') : ∃ p c, e = .returned (.tuple #[.slice p 0 c, .bool false]) ∧ Below w.heap.size w w' := by
  obtain ⟨p, c, h1, _, h2⟩ := h
  exact ⟨p, c, h1, h2⟩
theorem none_of {w w' : World} {e : Ending} (h : FRet w none e w') : ∃ p q c c', e = .returned (.tuple #[.slice p 0 c, .slice q 0 c', .bool false]) ∧ Below w.heap.size w w' := by
  obtain ⟨p, q, c, c', h1, _, _, h2⟩ := h
  exact ⟨p, q, c, c', h1, h2⟩
end Go.Proofs.Ytnmhdlincgefeaa.Rg
namespace Go.Proofs.Ytnmhdlincgefeaa
open Go.RowKit Go.Shelf
open Go.Lib (hid)
open Go.ChangeShapes Go.WideShapes Go.Joins
open Go.Proofs.Ytnmhdlincgefeaa.Sl
open Go.Proofs.Ytnmhdlincgefeaa.Rg
set_option maxRecDepth 100000 in
theorem RegionFinds_open0 {H : Type} {enc : TypeId × Value → H} {W : World} {base : Nat} {v : Value} {d : DataW H} {p : List MemPlace} (hv : Value.okWide Try.prog W .any base 22 v) (h : DataW.Trod enc Try.prog W 0 (fun _ => true) true 22 v d p) : Sl.IntsV W v := Sl.open_ints_v hv h
set_option maxRecDepth 100000 in
theorem RegionFinds_open1 {H : Type} {enc : TypeId × Value → H} {W : World} {base : Nat} {v : Value} {d : DataW H} {p : List MemPlace} (hv : Value.okWide Try.prog W .any base 22 v) (h : DataW.Trod enc Try.prog W 0 (fun _ => true) true 22 v d p) : Sl.IntsV W v := Sl.open_ints_v hv h
set_option maxRecDepth 100000 in
set_option maxHeartbeats 4000000 in
theorem rgfinds_few (l C : List Int) (p q : Option Addr) (c c' : Nat) (n : Int) (w : World) (h : ¬ (l.length ≤ 20 ∧ C.length ≤ 300)) :
    Calls Try.prog 3 #[.slice p l.length c, .slice q C.length c', .int .i64 n] w fun e w' => e = .returned (.bool true) ∧ Below w.heap.size w w' := by
  have HL := hid fun (V : World) => Rg.live_any V
  by_cases h1 : 20 < l.length
  · have e1 : decide ((20 : Int) < (l.length : Int)) = true := by simp; omega
    clear h h1
    go_enter Try.func3, Try.ntmps3
    go_wp2_with fail
    refine (HL.out _).mono ?_
    rintro e w2 ⟨rfl, hb⟩
    have HB := hid hb; clear hb
    go_wp2_with fail
    go_ret
    exact ⟨rfl, HB.out⟩
  · have e1 : decide ((20 : Int) < (l.length : Int)) = false := by simp; omega
    have e2 : decide ((300 : Int) < (C.length : Int)) = true := by simp; omega
    clear h h1
    go_enter Try.func3, Try.ntmps3
    go_wp2_with fail
    refine (HL.out _).mono ?_
    rintro e w2 ⟨rfl, hb⟩
    have HB := hid hb; clear hb
    go_wp2_with fail
    go_ret
    exact ⟨rfl, HB.out⟩
set_option maxRecDepth 100000 in
set_option maxHeartbeats 4000000 in
theorem rgfinds_no (l C : List Int) (p q : Option Addr) (c c' : Nat) (n : Int) (w : World) (hp : CellsAt w p (iv l)) (hl : l.length ≤ 20) (hl2 : C.length ≤ 300) (hn : prodAns l ≠ some C.length) :
    Calls Try.prog 3 #[.slice p l.length c, .slice q C.length c', .int .i64 n] w fun e w' => e = .returned (.bool true) ∧ Below w.heap.size w w' := by
  have HL := hid fun (V : World) => Rg.live_any V
  have HA := hid (of_bad l C p q c c' w hp (by omega) hn)
  have HR := hid (rof_bad l C p q c c' w hp (by omega) hn)
  have e1 : decide ((20 : Int) < (l.length : Int)) = false := by simp; omega
  have e2 : decide ((300 : Int) < (C.length : Int)) = false := by simp; omega
  clear hp hn hl hl2
  go_enter Try.func3, Try.ntmps3
  go_wp2_with fail
  refine HA.out.mono ?_
  rintro e w1 ⟨rfl, rfl⟩
  go_wp2_with fail
  refine HR.out.mono ?_
  rintro e w1 ⟨rfl, rfl⟩
  go_wp2_with fail
  refine (of_none n _).mono ?_
  intro e w2 hf
  obtain ⟨p1, q1, k1, m1, rfl, hb⟩ := none_of hf
  have HB := hid hb; clear hf hb
  go_wp2_with fail
  refine (all_none w2).mono ?_
  intro e w3 hf
  obtain ⟨p2, k2, rfl, hb⟩ := none_all hf
  have HB3 := hid (HB.out.trans (hb.mono HB.out.size)); clear hf hb
  go_wp2_with fail
  refine (HL.out _).mono ?_
  rintro e w4 ⟨rfl, hb⟩
  have HB4 := hid (HB3.out.trans (hb.mono HB3.out.size)); clear hb
  go_wp2_with fail
  go_ret
  exact ⟨rfl, HB4.out⟩
set_option maxRecDepth 100000 in
set_option maxHeartbeats 8000000 in
theorem rgfinds_go (S : List Nat) (l C : List Int) (p q : Option Addr) (c c' : Nat) (n : Int) (w : World) (hS : l = zs S) (hF : Fits S C) (hwf : ∀ z ∈ C, (Lit.int .i64 z).wf = true) (hp : CellsAt w p (iv l)) (hq : CellsAt w q (iv C)) (hl : l.length ≤ 20) (hl2 : C.length ≤ 300) (hn : prodAns l = some C.length) :
    Calls Try.prog 3 #[.slice p l.length c, .slice q C.length c', .int .i64 n] w fun e w' => e = .returned (.bool true) ∧ Below w.heap.size w w' := by
  have HL := hid fun (V : World) => Rg.live_any V
  have HA : Hid (∀ V : World, V = w → Calls Try.prog 9 #[.slice p l.length c, .slice q C.length c'] V fun e w' => ∃ b g h, e = .returned (.tuple #[.pointer (some ⟨b, 0, none⟩), .int .i64 0]) ∧ Slb w' b g h (zs S) C ∧ Below V.heap.size V w') := hid fun V hV => by
    subst hV
    have := Rg.of_ok_slab l C p q c c' V hp hq (by omega) (by omega) hn
    exact this.mono fun e w' ⟨b, g, h, h1, h2, _, h4⟩ => ⟨b, g, h, h1, hS ▸ h2, h4⟩
  have HR : Hid (∀ V : World, Below w.heap.size w V → Calls Try.prog 10 #[.slice p l.length c, .slice q C.length c'] V fun e w' => ∃ b g h, e = .returned (.tuple #[.pointer (some ⟨b, 0, none⟩), .int .i64 0]) ∧ Rlb w' b g h (zs S) C ∧ Below V.heap.size V w') := hid fun V hV => by
    have := Sl.rof_ok l C p q c c' V (hp.below hV) (hq.below hV) (by omega) (by omega) hn
    exact this.mono fun e w' ⟨b, g, h, h1, h2, _, h4⟩ => ⟨b, g, h, h1, hS ▸ h2, h4⟩
  have HOF := hid fun (V : World) (b g h : Nat) (H : Slb V b g h (zs S) C) => Rg.of_ok H hF n
  have HROF := hid fun (V : World) (b g h : Nat) (H : Rlb V b g h (zs S) C) => Rg.rof_ok H hF n
  have HALL := hid fun (V : World) (b g h : Nat) (H : Slb V b g h (zs S) C) => Rg.all_ok H hF hwf
  have HRALL := hid fun (V : World) (b g h : Nat) (H : Rlb V b g h (zs S) C) => Rg.rall_ok H hF
  have HCEL := hid fun (V : World) (b g h : Nat) (H : Slb V b g h (zs S) C) => cells_ok H (show C.length ≤ 1000000 by omega)
  have HQ := hid fun (V : World) (hV : Below w.heap.size w V) (r : Option Addr) (k : Nat) (hr : CellsAt V r (iv C)) => ints_self C (by omega) r q k c' V hr (hq.below hV)
  have hfl := filled_len hF.pos (plc C C.length n)
  have hnl := numL_len C
  have hsl := hF.few
  have HI1 := hid (ints_zs (lowR (filledL S (plc C C.length n))) (by have := hfl.1; omega))
  have HI2 := hid (ints_zs (highR (filledL S (plc C C.length n))) (by have := hfl.2; omega))
  have HI3 := hid (ints_self (numL C) (by omega))
  have e1 : decide ((20 : Int) < (l.length : Int)) = false := by simp; omega
  have e2 : decide ((300 : Int) < (C.length : Int)) = false := by simp; omega
  clear hS hF hwf hp hq hl hl2 hn hfl hnl hsl
  unfold FRet at HOF HROF
  unfold ARet at HALL HRALL
  generalize lowR (filledL S (plc C C.length n)) = A at *
  generalize highR (filledL S (plc C C.length n)) = B at *
  generalize (filledL S (plc C C.length n)).isSome = ba at *
  generalize numL C = D at *
  generalize allB S C = bb at *
  have f1 : (ba == ba) = true := by simp
  have f2 : (bb == bb) = true := by simp
  go_enter Try.func3, Try.ntmps3
  go_wp2_with fail
  refine (HA.out _ rfl).mono ?_
  rintro e w1 ⟨b, g, h, rfl, hs, hb⟩
  have HS := hid hs; have HB := hid hb
  clear hs hb HA
  go_wp2_with fail
  refine (HR.out _ HB.out).mono ?_
  rintro e w2 ⟨b2, g2, h2, rfl, hr, hb⟩
  have HT := hid hr
  replace HS := hid (HS.out.below hb)
  replace HB := hid (HB.out.trans (hb.mono HB.out.size))
  clear hr hb HR
  go_wp2_with fail
  refine (HOF.out _ b g h HS.out).mono ?_
  rintro e w3 ⟨p1, q1, k1, m1, rfl, g1, g2, hb⟩
  have G1 := hid g1; have G2 := hid g2
  replace HS := hid (HS.out.below hb); replace HT := hid (HT.out.below hb)
  replace HB := hid (HB.out.trans (hb.mono HB.out.size))
  clear g1 g2 hb HOF
  go_wp2_with fail
  refine (HROF.out _ b2 _ h2 HT.out).mono ?_
  rintro e w4 ⟨p2, q2, k2, m2, rfl, g1, g2, hb⟩
  have G3 := hid g1; have G4 := hid g2
  replace HS := hid (HS.out.below hb); replace HT := hid (HT.out.below hb)
  replace G1 := hid (G1.out.below hb); replace G2 := hid (G2.out.below hb)
  replace HB := hid (HB.out.trans (hb.mono HB.out.size))
  clear g1 g2 hb HROF
  go_wp2_with fail
  refine (HALL.out _ b g h HS.out).mono ?_
  rintro e w5 ⟨p3, k3, rfl, g1, hb⟩
  have G5 := hid g1
  replace HS := hid (HS.out.below hb); replace HT := hid (HT.out.below hb)
  replace G1 := hid (G1.out.below hb); replace G2 := hid (G2.out.below hb); replace G3 := hid (G3.out.below hb); replace G4 := hid (G4.out.below hb)
  replace HB := hid (HB.out.trans (hb.mono HB.out.size))
  clear g1 hb HALL
  go_wp2_with fail
  refine (HRALL.out _ b2 _ h2 HT.out).mono ?_
  rintro e w6 ⟨p4, k4, rfl, g1, hb⟩
  have G6 := hid g1
  replace HS := hid (HS.out.below hb)
  replace G1 := hid (G1.out.below hb); replace G2 := hid (G2.out.below hb); replace G3 := hid (G3.out.below hb); replace G4 := hid (G4.out.below hb); replace G5 := hid (G5.out.below hb)
  replace HB := hid (HB.out.trans (hb.mono HB.out.size))
  clear g1 hb HRALL HT
  go_wp2_with fail
  refine (HI1.out p1 p2 k1 k2 _ G1.out G3.out).mono ?_
  rintro e w7 ⟨rfl, hb⟩
  replace HS := hid (HS.out.below hb)
  replace G2 := hid (G2.out.below hb); replace G4 := hid (G4.out.below hb); replace G5 := hid (G5.out.below hb); replace G6 := hid (G6.out.below hb)
  replace HB := hid (HB.out.trans (hb.mono HB.out.size))
  clear hb G1 G3
  go_wp2_with fail
  refine (HI2.out q1 q2 m1 m2 _ G2.out G4.out).mono ?_
  rintro e w8 ⟨rfl, hb⟩
  replace HS := hid (HS.out.below hb)
  replace G5 := hid (G5.out.below hb); replace G6 := hid (G6.out.below hb)
  replace HB := hid (HB.out.trans (hb.mono HB.out.size))
  clear hb G2 G4
  go_wp2_with fail
  refine (HI3.out p3 p4 k3 k4 _ G5.out G6.out).mono ?_
  rintro e w9 ⟨rfl, hb⟩
  replace HS := hid (HS.out.below hb)
  replace HB := hid (HB.out.trans (hb.mono HB.out.size))
  clear hb G5 G6
  go_wp2_with fail
  refine (HCEL.out _ b g h HS.out).mono ?_
  rintro e w10 ⟨r, k, rfl, _, hr, hb, _⟩
  have G7 := hid hr
  replace HB := hid (HB.out.trans (hb.mono HB.out.size))
  clear hb hr HS HCEL
  go_wp2_with fail
  refine (HQ.out _ HB.out r k G7.out).mono ?_
  rintro e w11 ⟨rfl, hb⟩
  replace HB := hid (HB.out.trans (hb.mono HB.out.size))
  clear hb
  go_wp2_with fail
  refine (HL.out _).mono ?_
  rintro e w12 ⟨rfl, hb⟩
  replace HB := hid (HB.out.trans (hb.mono HB.out.size))
  clear hb
  go_wp2_with fail
  go_ret
  exact ⟨rfl, HB.out⟩
theorem RegionFinds_walk (v1 v2 : Value) (n : Int) (w : World) (h1 : Sl.IntsV w v1) (h2 : Sl.IntsV w v2) (_ : (Lit.int .i64 n).wf = true) :
    Calls Try.prog 3 #[v1, v2, .int .i64 n] w fun e w' => e = .returned (.bool true) ∧ Below w.heap.size w w' := by
  obtain ⟨p, l, c, rfl, hp, _⟩ := h1
  obtain ⟨q, C, c', rfl, hq, _⟩ := h2
  by_cases h : l.length ≤ 20 ∧ C.length ≤ 300
  · by_cases hn : prodAns l = some C.length
    · obtain ⟨S, e, hF⟩ := prod_fits hn
      exact rgfinds_go S l C p q c c' n w e hF hq.wf hp.cells hq.cells h.1 h.2 hn
    · exact rgfinds_no l C p q c c' n w hp.cells h.1 h.2 hn
  · exact rgfinds_few l C p q c c' n w h
end Go.Proofs.Ytnmhdlincgefeaa
