/- ExcellBoxes walked: the box of any address, the address of any point, and the one beside. -/
import Derived.Test.YtebfgjhpbkdmpaaExRBox
import Derived.Test.YtebfgjhpbkdmpaaExLive
import Derived.Test.YtebfgjhpbkdmpaaKyOpen
namespace Go.Proofs.Ytebfgjhpbkdmpaa
open Go.RowKit
open Go.Lib (hid)
open Go.ChangeShapes Go.WideShapes Go.Joins Go.Deep
open Go.Proofs.Ytebfgjhpbkdmpaa.Ky
open Go.Proofs.Ytebfgjhpbkdmpaa.Bk
open Go.Proofs.Ytebfgjhpbkdmpaa.Ex
theorem cCase4 : Try.prog.cellsOf 25 = 4 := by kernel_rfl
def Case4 (w : World) (v : Value) : Prop := ∃ (a b c : Int) (y : Value), v = .agg #[.int .i64 a, .int .i64 b, .int .i64 c, y] ∧ KeyV w y
set_option maxRecDepth 100000 in
theorem ExcellBoxes_open0 {H : Type} {enc : TypeId × Value → H} {W : World} {base : Nat} {v : Value} {d : DataW H} {p : List MemPlace} (hv : Value.okWide Try.prog W .any base 25 v) (h : DataW.Trod enc Try.prog W 0 (fun _ => true) true 25 v d p) : Case4 W v := by
  obtain ⟨cs, rfl, hsz⟩ := okWide_struct Try.underlying25 hv
  obtain ⟨fuel, hf⟩ := h
  rw [cCase4] at hsz
  obtain ⟨l⟩ := cs
  have hl : l.length = 4 := hsz
  obtain ⟨x0, x1, x2, x3, rfl⟩ : ∃ x0 x1 x2 x3, l = [x0, x1, x2, x3] := by
    match l, hl with
    | [x0, x1, x2, x3], _ => exact ⟨x0, x1, x2, x3, rfl⟩
  obtain ⟨xs, m, _, _, _, hlen, hff⟩ := DataW.trod_struct Try.underlying25 hf
  have hlen4 : xs.length = 4 := hlen
  have some_at : ∀ j, j < 4 → (xs[j]?).isSome = true := fun j hj => by rw [List.getElem?_eq_getElem (by omega)]; rfl
  obtain ⟨y0, hy0⟩ := Option.isSome_iff_exists.1 (some_at 0 (by omega))
  obtain ⟨y1, hy1⟩ := Option.isSome_iff_exists.1 (some_at 1 (by omega))
  obtain ⟨y2, hy2⟩ := Option.isSome_iff_exists.1 (some_at 2 (by omega))
  obtain ⟨y3, hy3⟩ := Option.isSome_iff_exists.1 (some_at 3 (by omega))
  have h0 := hff 0 _ rfl
  have h1 := hff 1 _ rfl
  have h2 := hff 2 _ rfl
  have h3 := hff 3 _ rfl
  rw [hy0] at h0
  rw [hy1] at h1
  rw [hy2] at h2
  rw [hy3] at h3
  have e0 : (([x0, x1, x2, x3] : List Value).drop 0).take (Try.prog.cellsOf 3) = [x0] := cell_one rfl c3
  have e1 : (([x0, x1, x2, x3] : List Value).drop 1).take (Try.prog.cellsOf 3) = [x1] := cell_one rfl c3
  have e2 : (([x0, x1, x2, x3] : List Value).drop 2).take (Try.prog.cellsOf 3) = [x2] := cell_one rfl c3
  have h0' : DataW.trod enc Try.prog W 0 (fun _ => true) true m 3 [x0] = some y0 := by rw [← e0]; exact h0
  have h1' : DataW.trod enc Try.prog W 0 (fun _ => true) true m 3 [x1] = some y1 := by rw [← e1]; exact h1
  have h2' : DataW.trod enc Try.prog W 0 (fun _ => true) true m 3 [x2] = some y2 := by rw [← e2]; exact h2
  obtain ⟨a, q0, _, _⟩ := DataW.trod_int Try.underlying3 h0'
  obtain ⟨b, q1, _, _⟩ := DataW.trod_int Try.underlying3 h1'
  obtain ⟨c, q2, _, _⟩ := DataW.trod_int Try.underlying3 h2'
  simp at q0 q1 q2
  subst q0 q1 q2
  exact ⟨a, b, c, x3, rfl, key_trod (cell_one rfl c23) h3⟩
def bxL (dim d a : Int) : List Nat × List Nat := if okB dim d a then cell dim.toNat d.toNat a.toNat else ([], [])
theorem bxL_len (dim d a : Int) : (bxL dim d a).1.length ≤ 1000000 ∧ (bxL dim d a).2.length ≤ 1000000 := by
  unfold bxL
  cases h : okB dim d a with
  | false => simp
  | true =>
    obtain ⟨n, D, A, rfl, h1, h2, rfl, h3, rfl, h4⟩ := okB_iff.1 h
    have f := cell_fit ⟨h1, h2⟩ D A (show D ≤ 32 by omega)
    simp only [Int.toNat_natCast, if_true]
    omega
def AnyBox (w : World) (b : List Nat × List Nat) (x : Int) (e : Ending) (w' : World) : Prop :=
  ∃ p c q c', e = .returned (.tuple #[.agg #[.slice p b.1.length c, .slice q b.2.length c'], .int .i64 x]) ∧ Pt w' p b.1 ∧ Pt w' q b.2 ∧ Below w.heap.size w w'
theorem boxE_any (dim d a : Int) (w : World) : Calls Try.prog 12 #[.int .i64 dim, .int .i64 d, .int .i64 a] w (AnyBox w (bxL dim d a) (err (okB dim d a))) := by
  cases h : okB dim d a with
  | false =>
    rw [show bxL dim d a = ([], []) by unfold bxL; rw [h]; rfl]
    exact (boxE_no dim d a w h).mono fun e w' ⟨h1, h2⟩ => ⟨none, 0, none, 0, h1, Pt.nil _ _, Pt.nil _ _, h2⟩
  | true =>
    obtain ⟨n, D, A, rfl, h1, h2, rfl, h3, rfl, h4⟩ := okB_iff.1 h
    have f := cell_fit ⟨h1, h2⟩ D A (show D ≤ 32 by omega)
    have := boxE_yes ⟨h1, h2⟩ h3 h4 w
    rw [show bxL (n : Int) (D : Int) (A : Int) = cell n D A by unfold bxL; rw [h, Int.toNat_natCast, Int.toNat_natCast, Int.toNat_natCast]; rfl]
    unfold AnyBox
    rw [f.1, f.2]
    exact this
theorem refBox_any (dim d a : Int) (w : World) : Calls Try.prog 13 #[.int .i64 dim, .int .i64 d, .int .i64 a] w (AnyBox w (bxL dim d a) (err (okB dim d a))) := by
  cases h : okB dim d a with
  | false =>
    rw [show bxL dim d a = ([], []) by unfold bxL; rw [h]; rfl]
    exact (refBox_no dim d a w h).mono fun e w' ⟨h1, h2⟩ => ⟨none, 0, none, 0, h1, Pt.nil _ _, Pt.nil _ _, h2⟩
  | true =>
    obtain ⟨n, D, A, rfl, h1, h2, rfl, h3, rfl, h4⟩ := okB_iff.1 h
    have f := cell_fit ⟨h1, h2⟩ D A (show D ≤ 32 by omega)
    have := refBox_yes ⟨h1, h2⟩ h3 h4 w
    rw [show bxL (n : Int) (D : Int) (A : Int) = cell n D A by unfold bxL; rw [h, Int.toNat_natCast, Int.toNat_natCast, Int.toNat_natCast]; rfl]
    unfold AnyBox
    rw [f.1, f.2]
    exact this
set_option maxRecDepth 100000 in
set_option maxHeartbeats 4000000 in
theorem ExcellBoxes_walk (v : Value) (w : World) (h : Case4 w v) :
    Calls Try.prog 3 #[v] w fun e w' => e = .returned (.bool true) ∧ Below w.heap.size w w' := by
  obtain ⟨dim, d, a, y, rfl, p, k, c, rfl, hp, hl⟩ := h
  obtain ⟨W, hW⟩ : ∃ W, w.alloc (.cells #[.int .i64 dim, .int .i64 d, .int .i64 a, .slice p k.length c] 25) = W := ⟨_, rfl⟩
  have HB := hid (show Below w.heap.size w W by rw [← hW]; exact below_alloc _ _)
  have hg : W.heap[w.heap.size]? = some (.cells #[.int .i64 dim, .int .i64 d, .int .i64 a, .slice p k.length c] 25 (0, 0)) := by rw [← hW]; exact heap_alloc_new _ _
  have x0 : W.cell? ⟨w.heap.size, 0, none⟩ = some (.int .i64 dim) := by rw [cell_of_row _ _ _ _ _ _ hg]; rfl
  have x1 : W.cell? ⟨w.heap.size, 1, none⟩ = some (.int .i64 d) := by rw [cell_of_row _ _ _ _ _ _ hg]; rfl
  have x2 : W.cell? ⟨w.heap.size, 2, none⟩ = some (.int .i64 a) := by rw [cell_of_row _ _ _ _ _ _ hg]; rfl
  have x3 : W.cell? ⟨w.heap.size, 3, none⟩ = some (.slice p k.length c) := by rw [cell_of_row _ _ _ _ _ _ hg]; rfl
  have HP := hid hp
  by_cases h20 : 20 < k.length
  · have e1 : decide ((20 : Int) < (k.length : Int)) = true := by simp; omega
    have e1' : decide (20 < k.length) = true := by simpa using h20
    clear hp hl h20 hg
    go_enter Try.func3, Try.ntmps3
    go_wp2_with fail
    go_quiet (fail)
    go_wp2_with fail
    refine (Ex.live_any _).mono ?_
    rintro e w2 ⟨rfl, hb⟩
    have H1 := hid ((HB.out).trans (((below_drewN (Below.refl W.heap.size W) _).trans hb).mono HB.out.size))
    clear hb
    go_wp2_with fail
    go_ret
    exact ⟨rfl, H1.out⟩
  · have e1 : decide ((20 : Int) < (k.length : Int)) = false := by simp; omega
    have e1' : decide (20 < k.length) = false := by simpa using h20
    have HX := hid fun (V : World) => boxE_any dim d a V
    have HY := hid fun (V : World) => refBox_any dim d a V
    have HL := hid (bxL_len dim d a)
    generalize bxL dim d a = Z at HX HY HL
    generalize err (okB dim d a) = E1 at HX HY
    obtain ⟨L, H⟩ := Z
    unfold AnyBox at HX HY
    have HS := hid fun (p q r s : Option Addr) (c1 c2 c3 c4 : Nat) (V : World) (g1 : Pt V p L) (g2 : Pt V q H) (g3 : Pt V r L) (g4 : Pt V s H) => (show Calls Try.prog 18 #[.agg #[.slice p L.length c1, .slice q H.length c2], .agg #[.slice r L.length c3, .slice s H.length c4]] V fun e w' => e = .returned (.bool true) ∧ Below V.heap.size V w' from by
      have := sameBox_ok L H L H p q r s c1 c2 c3 c4 V g1 g2 g3 g4 HL.out.1 HL.out.2
      rw [show sameBoxB L H L H = true by simp [sameBoxB, sameB]] at this
      exact this)
    have HF := hid fun (V : World) (g : Pt V p k) => find_okE k p c d V g (by omega)
    have HG := hid fun (V : World) (g : Pt V p k) => refFind_okE k p c d V g (by omega)
    generalize findV k d = F1 at HF HG
    generalize err (findB k d) = E2 at HF HG
    have HU := hid fun (V : World) => buddy_ok d a dim V
    have HV := hid fun (V : World) => refBuddy_ok d a dim V
    generalize buddyV d a dim = F2 at HU HV
    generalize err (buddyB d a dim) = E3 at HU HV
    clear hp hl h20 hg
    go_enter Try.func3, Try.ntmps3
    go_wp2_with fail
    go_quiet (fail)
    go_wp2_with fail
    refine (HX.out _).mono ?_
    rintro e w1 ⟨p1, c1, q1, c2, rfl, g1, g2, hb⟩
    have H1 := hid ((HB.out).trans (((below_drewN (Below.refl W.heap.size W) _).trans hb).mono HB.out.size))
    have K1 := hid ((((Cx.start w1).more g2).more g1).box #[.slice p1 L.length c1, .slice q1 H.length c2])
    clear g1 g2 hb x0 x1 x2 x3
    go_wp2_with fail
    refine (HY.out _).mono ?_
    rintro e w2 ⟨p2, c3, q2, c4, rfl, g1, g2, hb⟩
    have K2 := hid ((((K1.out.step hb).more g2).more g1).box #[.slice p2 L.length c3, .slice q2 H.length c4])
    clear g1 g2 hb K1
    go_wp2_with fail
    refine (HF.out _ (HP.out.below (H1.out.trans (K2.out.below.mono H1.out.size)))).mono ?_
    rintro e w3 ⟨rfl, m, hw⟩
    have K3 := hid (show Cx w1 w3 _ _ by rw [hw]; exact K2.out.drewN m); clear hw
    go_wp2_with fail
    refine (HG.out _ (HP.out.below (H1.out.trans (K3.out.below.mono H1.out.size)))).mono ?_
    rintro e w4 ⟨rfl, m, hw⟩
    have K4 := hid (show Cx w1 w4 _ _ by rw [hw]; exact K3.out.drewN m); clear hw
    clear K2 K3
    go_wp2_with fail
    refine (HU.out _).mono ?_
    rintro e w5 ⟨rfl, rfl⟩
    go_wp2_with fail
    refine (HV.out _).mono ?_
    rintro e w5 ⟨rfl, rfl⟩
    have y1 := K4.out.cells (g := w1.heap.size) (x := .slice p1 L.length c1) (y := .slice q1 H.length c2) (by simp)
    have y2 := K4.out.cells (g := w2.heap.size) (x := .slice p2 L.length c3) (y := .slice q2 H.length c4) (by simp)
    go_wp2_with fail
    refine (HS.out p1 q1 p2 q2 c1 c2 c3 c4 _ (K4.out.pt (p := p1) (by simp)) (K4.out.pt (p := q1) (by simp)) (K4.out.pt (p := p2) (by simp)) (K4.out.pt (p := q2) (by simp))).mono ?_
    rintro e w6 ⟨rfl, hb⟩
    have K5 := hid (K4.out.step hb); clear hb y1 y2 K4
    go_wp2_with fail
    refine (Ex.live_any _).mono ?_
    rintro e w7 ⟨rfl, hb⟩
    have H2 := hid (H1.out.trans ((K5.out.below.trans (hb.mono K5.out.below.size)).mono H1.out.size)); clear hb
    go_wp2_with fail
    go_ret
    exact ⟨rfl, H2.out⟩
end Go.Proofs.Ytebfgjhpbkdmpaa
