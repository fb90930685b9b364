/- ExcellDeeper walked: the address of a point of one bit less is that of one more, without its last digit; its box has the other one's. -/
import Derived.Test.YtebfgjhpbkdmpaaExHldW
import Derived.Test.YtebfgjhpbkdmpaaKyRMeet
namespace Go.Proofs.Ytebfgjhpbkdmpaa
open Go.RowKit
open Go.Lib (hid)
open Go.ChangeShapes Go.WideShapes Go.Joins
open Go.Proofs.Ytebfgjhpbkdmpaa.Ky
open Go.Proofs.Ytebfgjhpbkdmpaa.Bk
open Go.Proofs.Ytebfgjhpbkdmpaa.Ex
set_option maxRecDepth 100000 in
theorem ExcellDeeper_open0 {H : Type} {enc : TypeId × Value → H} {W : World} {base : Nat} {v : Value} {d : DataW H} {p : List MemPlace} (hv : Value.okWide Try.prog W .any base 23 v) (h : DataW.Trod enc Try.prog W 0 (fun _ => true) true 23 v d p) : KeyV W v := open_key hv h
theorem meet_deep {n D B : Nat} (hn : 1 ≤ n ∧ n ≤ 6) (hD : D ≤ 11) {p q r s : Option Addr} (c1 c2 c3 c4 : Nat) (V : World) (h1 : Pt V p (cell n D (B / 2)).1) (h2 : Pt V q (cell n D (B / 2)).2) (h3 : Pt V r (cell n (D + 1) B).1) (h4 : Pt V s (cell n (D + 1) B).2) :
    Calls Try.prog 25 #[.agg #[.slice p n c1, .slice q n c2], .agg #[.slice r n c3, .slice s n c4]] V fun e w' => ∃ A c A' c', e = .returned (.tuple #[.agg #[.slice A n c, .slice A' n c'], .bool true]) ∧ Pt w' A (cell n (D + 1) B).1 ∧ Pt w' A' (cell n (D + 1) B).2 ∧ Below V.heap.size V w' := by
  have f1 := cell_fit hn D (B / 2) (by omega)
  have f2 := cell_fit hn (D + 1) B (by omega)
  obtain ⟨m1, m2, m3⟩ := meet_deeper (b := B) hn (show D < 32 by omega)
  have := refMeet_ok _ _ _ _ p q r s c1 c2 c3 c4 V h1 h2 h3 h4 (by omega)
  unfold NewBox at this
  rw [m1, m2, m3, f1.1, f1.2, f2.1, f2.2] at this
  exact this
theorem same_deep {n D B : Nat} (hn : 1 ≤ n ∧ n ≤ 6) (hD : D ≤ 11) {p q r s : Option Addr} (c1 c2 c3 c4 : Nat) (V : World) (h1 : Pt V p (cell n (D + 1) B).1) (h2 : Pt V q (cell n (D + 1) B).2) (h3 : Pt V r (cell n (D + 1) B).1) (h4 : Pt V s (cell n (D + 1) B).2) :
    Calls Try.prog 18 #[.agg #[.slice p n c1, .slice q n c2], .agg #[.slice r n c3, .slice s n c4]] V fun e w' => e = .returned (.bool true) ∧ Below V.heap.size V w' := by
  have f2 := cell_fit hn (D + 1) B (by omega)
  have := sameBox_ok _ _ _ _ p q r s c1 c2 c3 c4 V h1 h2 h3 h4 (by omega) (by omega)
  rw [f2.1, f2.2, show sameBoxB (cell n (D + 1) B).1 (cell n (D + 1) B).2 (cell n (D + 1) B).1 (cell n (D + 1) B).2 = true by simp [sameBoxB, sameB]] at this
  exact this
set_option maxRecDepth 100000 in
set_option maxHeartbeats 4000000 in
theorem deeper_out (p : Option Addr) (n c : Nat) (d : Int) (w : World) (h : 6 < n ∨ d < 0 ∨ 11 < d) :
    Calls Try.prog 8 #[.slice p n c, .int .i64 d] w fun e w' => e = .returned (.bool true) ∧ Below w.heap.size w w' := by
  by_cases h1 : 6 < n
  · have e1 : decide ((6 : Int) < (n : Int)) = true := by simp; omega
    have e1' : decide (6 < n) = true := by simpa using h1
    clear h h1
    go_enter Try.func8, Try.ntmps8
    go_wp2_with fail
    refine (Ex.live_any _).mono ?_
    rintro e w2 ⟨rfl, hb⟩
    have H1 := hid hb; clear hb
    go_wp2_with fail
    go_ret
    exact ⟨rfl, H1.out⟩
  · have e1 : decide ((6 : Int) < (n : Int)) = false := by simp; omega
    have e1' : decide (6 < n) = false := by simpa using h1
    by_cases h2 : d < 0
    · have e2 : decide (d < 0) = true := by simpa using h2
      clear h h1 h2
      go_enter Try.func8, Try.ntmps8
      go_wp2_with fail
      refine (Ex.live_any _).mono ?_
      rintro e w2 ⟨rfl, hb⟩
      have H1 := hid hb; clear hb
      go_wp2_with fail
      go_ret
      exact ⟨rfl, H1.out⟩
    · have e2 : decide (d < 0) = false := by simpa using h2
      have e3 : decide (11 < d) = true := by simp; omega
      clear h h1 h2
      go_enter Try.func8, Try.ntmps8
      go_wp2_with fail
      refine (Ex.live_any _).mono ?_
      rintro e w2 ⟨rfl, hb⟩
      have H1 := hid hb; clear hb
      go_wp2_with fail
      go_ret
      exact ⟨rfl, H1.out⟩
set_option maxRecDepth 100000 in
set_option maxHeartbeats 4000000 in
theorem deeper_go (p : Option Addr) (k : List Nat) (c D : Nat) (w : World) (hp : Pt w p k) (h6 : k.length ≤ 6) (hD : D ≤ 11) :
    Calls Try.prog 8 #[.slice p k.length c, .int .i64 (D : Int)] w fun e w' => e = .returned (.bool true) ∧ Below w.heap.size w w' := by
  have HF := hid fun (V : World) (hb : Below w.heap.size w V) => find_okE k p c (D : Int) V (hp.below hb) (by omega)
  obtain ⟨D1, hD1⟩ : ∃ D1, D + 1 = D1 := ⟨_, rfl⟩
  have HF1 := hid fun (V : World) (hb : Below w.heap.size w V) => find_okE k p c (D1 : Int) V (hp.below hb) (by omega)
  have m0 : mayD (D : Int) = true := mayD_iff.2 ⟨D, rfl, by omega⟩
  have m1 : mayD (D1 : Int) = true := mayD_iff.2 ⟨D1, rfl, by omega⟩
  have s1 : IntKind.i64.wrap ((D : Int) + 1) = (D1 : Int) := by rw [show (D : Int) + 1 = (D1 : Int) by omega]; exact Go.IntWalk.i64_in _ (by omega)
  have e1 : decide ((6 : Int) < (k.length : Int)) = false := by simp; omega
  have e1' : decide (6 < k.length) = false := by simp; omega
  have e2 : decide ((D : Int) < 0) = false := by simp
  have e3 : decide ((11 : Int) < (D : Int)) = false := by simp; omega
  have e3' : decide (11 < D) = false := by simp; omega
  cases hmay : mayN k.length with
  | false =>
    have h0 : k.length = 0 := by unfold mayN at hmay; simp at hmay; omega
    have f0 : findB k (D : Int) = false := by simp [findB, hmay]
    have f1 : findB k (D1 : Int) = false := by simp [findB, hmay]
    rw [f0, show findV k (D : Int) = 0 by simp [findV, f0], err_false false rfl] at HF
    rw [f1, show findV k (D1 : Int) = 0 by simp [findV, f1], err_false false rfl] at HF1
    rw [h0] at HF HF1 e1 e1' ⊢
    clear hp hmay f0 f1 m0 m1 hD1 hD h6 h0
    go_enter Try.func8, Try.ntmps8
    go_wp2_with fail
    refine (HF.out _ (Below.refl _ _)).mono ?_
    rintro e w1 ⟨rfl, m, hw⟩
    have H0 := hid (show Below w.heap.size w w1 by rw [hw]; exact below_drewN (Below.refl _ _) m); clear hw
    go_wp2_with fail
    refine (HF1.out _ H0.out).mono ?_
    rintro e w2 ⟨rfl, m2, hw⟩
    have H1 := hid (show Below w.heap.size w w2 by rw [hw]; exact below_drewN H0.out m2); clear hw
    go_wp2_with fail
    refine (Ex.live_any _).mono ?_
    rintro e w3 ⟨rfl, hb⟩
    have H2 := hid (H1.out.trans (hb.mono H1.out.size)); clear hb
    go_wp2_with fail
    go_ret
    exact ⟨rfl, H2.out⟩
  | true =>
    have hn : 1 ≤ k.length ∧ k.length ≤ 6 := by unfold mayN at hmay; simp at hmay; omega
    have f0 : findB k (D : Int) = true := by simp [findB, hmay, m0]
    have f1 : findB k (D1 : Int) = true := by simp [findB, hmay, m1]
    obtain ⟨n, hkn⟩ : ∃ n, k.length = n := ⟨_, rfl⟩
    obtain ⟨A, hA⟩ : ∃ A, bitsK k D = A := ⟨_, rfl⟩
    obtain ⟨B, hB⟩ : ∃ B, bitsK k D1 = B := ⟨_, rfl⟩
    have hAB : B / 2 = A := by rw [← hA, ← hB, ← hD1]; exact bits_half k D
    have hA2 : A < 2 ^ D := by rw [← hA]; exact bits_lt k D
    have hB2 : B < 2 ^ D1 := by rw [← hB]; exact bits_lt k D1
    have pB := pow_12 (show D1 ≤ 12 by omega)
    rw [f0, show findV k (D : Int) = (A : Int) by simp [findV, f0, hA], err_true true rfl, hkn] at HF
    rw [f1, show findV k (D1 : Int) = (B : Int) by simp [findV, f1, hB], err_true true rfl, hkn] at HF1
    rw [hkn] at hn e1 e1'
    rw [hkn]
    have HBX := hid fun (V : World) => box_at hn (show D ≤ 12 by omega) hA2 V
    have HBY := hid fun (V : World) => box_at hn (show D1 ≤ 12 by omega) hB2 V
    have HM := hid fun (p q r s : Option Addr) (c1 c2 c3 c4 : Nat) (V : World) => meet_deep (p := p) (q := q) (r := r) (s := s) (n := n) (D := D) (B := B) hn hD c1 c2 c3 c4 V
    have HS := hid fun (p q r s : Option Addr) (c1 c2 c3 c4 : Nat) (V : World) => same_deep (p := p) (q := q) (r := r) (s := s) (n := n) (D := D) (B := B) hn hD c1 c2 c3 c4 V
    rw [hD1, hAB] at HM
    rw [hD1] at HS
    generalize cell n D A = X at HBX HM
    generalize cell n D1 B = Y at HBY HM HS
    have q1 : (B : Int).tdiv 2 = (A : Int) := by rw [Int.tdiv_eq_ediv_of_nonneg (by omega)]; omega
    have q2 : IntKind.i64.wrap (A : Int) = (A : Int) := Go.IntWalk.i64_in _ (by omega)
    clear hp hmay f0 f1 m0 m1 hD1 hD h6 hkn hA hB hAB hA2 hB2 pB hn
    go_enter Try.func8, Try.ntmps8
    go_wp2_with fail
    refine (HF.out _ (Below.refl _ _)).mono ?_
    rintro e w1 ⟨rfl, m, hw⟩
    have H0 := hid (show Below w.heap.size w w1 by rw [hw]; exact below_drewN (Below.refl _ _) m); clear hw
    go_wp2_with fail
    refine (HF1.out _ H0.out).mono ?_
    rintro e w2 ⟨rfl, m2, hw⟩
    have H1 := hid (show Below w.heap.size w w2 by rw [hw]; exact below_drewN H0.out m2); clear hw
    go_wp2_with fail
    refine (HBX.out _).mono ?_
    rintro e w3 ⟨p1, c1, p2, c2, rfl, g1, g2, hb⟩
    have K3 := hid (((((Cx.start w2).step hb).more g2).more g1).box #[.slice p1 n c1, .slice p2 n c2])
    clear g1 g2 hb
    go_wp2_with fail
    refine (HBY.out _).mono ?_
    rintro e w4 ⟨p3, c3, p4, c4, rfl, g3, g4, hb⟩
    have K4 := hid ((((K3.out.step hb).more g4).more g3).box #[.slice p3 n c3, .slice p4 n c4])
    have x1 := K4.out.cells (g := w3.heap.size) (x := .slice p1 n c1) (y := .slice p2 n c2) (by simp)
    have x2 := K4.out.cells (g := w4.heap.size) (x := .slice p3 n c3) (y := .slice p4 n c4) (by simp)
    clear g3 g4 hb K3
    go_wp2_with fail
    refine (HM.out p1 p2 p3 p4 c1 c2 c3 c4 _ (K4.out.pt (p := p1) (by simp)) (K4.out.pt (p := p2) (by simp)) (K4.out.pt (p := p3) (by simp)) (K4.out.pt (p := p4) (by simp))).mono ?_
    rintro e w5 ⟨p5, c5, p6, c6, rfl, g5, g6, hb⟩
    have K5 := hid ((((K4.out.step hb).more g6).more g5).box #[.slice p5 n c5, .slice p6 n c6])
    clear x1 x2
    have x2 := K5.out.cells (g := w4.heap.size) (x := .slice p3 n c3) (y := .slice p4 n c4) (by simp)
    have x3 := K5.out.cells (g := w5.heap.size) (x := .slice p5 n c5) (y := .slice p6 n c6) (by simp)
    clear g5 g6 hb K4
    go_wp2_with fail
    refine (HS.out p5 p6 p3 p4 c5 c6 c3 c4 _ (K5.out.pt (p := p5) (by simp)) (K5.out.pt (p := p6) (by simp)) (K5.out.pt (p := p3) (by simp)) (K5.out.pt (p := p4) (by simp))).mono ?_
    rintro e w6 ⟨rfl, hb⟩
    have K6 := hid (K5.out.step hb)
    clear hb x2 x3 K5
    go_wp2_with fail
    refine (Ex.live_any _).mono ?_
    rintro e w7 ⟨rfl, hb⟩
    have H2 := hid (H1.out.trans ((K6.out.below.trans (hb.mono K6.out.below.size)).mono H1.out.size)); clear hb
    go_wp2_with fail
    go_ret
    exact ⟨rfl, H2.out⟩
theorem ExcellDeeper_walk (v : Value) (d : Int) (w : World) (h : KeyV w v) (_ : (Lit.int .i64 d).wf = true) :
    Calls Try.prog 8 #[v, .int .i64 d] w fun e w' => e = .returned (.bool true) ∧ Below w.heap.size w w' := by
  obtain ⟨p, k, c, rfl, hp, hl⟩ := h
  by_cases h1 : 6 < k.length ∨ d < 0 ∨ 11 < d
  · exact deeper_out p k.length c d w h1
  · obtain ⟨D, rfl⟩ : ∃ D : Nat, d = (D : Int) := ⟨d.toNat, by omega⟩
    exact deeper_go p k c D w hp (by omega) (by omega)
end Go.Proofs.Ytebfgjhpbkdmpaa
