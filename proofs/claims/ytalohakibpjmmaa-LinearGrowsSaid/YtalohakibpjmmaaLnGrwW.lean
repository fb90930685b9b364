/- LinearGrows and LinearBack walked: what comes next, and what was ahead; grown and shrunk again. -/
import Derived.Test.YtalohakibpjmmaaLnLive
namespace Go.Proofs.Ytalohakibpjmmaa
open Go.RowKit
open Go.Lib (hid)
open Go.Proofs.Ytalohakibpjmmaa.Ky
open Go.Proofs.Ytalohakibpjmmaa.Ex
open Go.Proofs.Ytalohakibpjmmaa.Ln
set_option maxRecDepth 100000 in
set_option maxHeartbeats 4000000 in
theorem LinearGrows_walk (l x : Int) (w : World) (_ : (Lit.int .i64 l).wf = true) (_ : (Lit.int .i64 x).wf = true) :
    Calls Try.prog 5 #[.int .i64 l, .int .i64 x] w fun e w' => e = .returned (.bool true) ∧ Below w.heap.size w w' := by
  have H1 := hid fun V : World => grow_ok l x V
  have H2 := hid fun V : World => refGrow_ok l x V
  have H3 := hid fun V : World => shrink_ok l x V
  have H4 := hid fun V : World => refShrink_ok l x V
  generalize grA l x = a1 at H1 H2
  generalize grX l x = a2 at H1 H2
  generalize grC l x = a3 at H1 H2
  generalize grE l x = a4 at H1 H2
  generalize shA l x = b1 at H3 H4
  generalize shX l x = b2 at H3 H4
  generalize shC l x = b3 at H3 H4
  generalize shE l x = b4 at H3 H4
  go_enter Try.func5, Try.ntmps5
  go_wp2_with fail
  refine (H1.out _).mono ?_
  rintro e w1 ⟨rfl, rfl⟩
  go_wp2_with fail
  refine (H2.out _).mono ?_
  rintro e w1 ⟨rfl, rfl⟩
  go_wp2_with fail
  refine (H3.out _).mono ?_
  rintro e w1 ⟨rfl, rfl⟩
  go_wp2_with fail
  refine (H4.out _).mono ?_
  rintro e w1 ⟨rfl, rfl⟩
  go_wp2_with fail
  refine (Ln.live_any _).mono ?_
  rintro e w2 ⟨rfl, hb⟩
  have HB := hid hb; clear hb
  go_wp2_with fail
  go_ret
  exact ⟨rfl, HB.out⟩
/-- what was grown -/
theorem grown {l x : Int} (h : lvB l x = true) (h10 : l ≠ 10) : shA (grA l x) (grX l x) = l ∧ shX (grA l x) (grX l x) = x ∧ shC (grA l x) (grX l x) = grC l x ∧ shE (grA l x) (grX l x) = 0 ∧ lvB (grA l x) (grX l x) = true ∧ cntV (grA l x) (grX l x) = cntV l x + 1 ∧ grE l x = 0 ∧ 0 ≤ grC l x ∧ grC l x < cntV l x ∧ 0 ≤ cntV l x ∧ cntV l x ≤ 2048 := by
  obtain ⟨L, X, rfl, hL, rfl, hX⟩ := lvB_iff.1 h
  have hp := pow_10 hL
  have eA : grA (L : Int) (X : Int) = if (X : Int) + 1 = ((2 ^ L : Nat) : Int) then (L : Int) + 1 else (L : Int) := by unfold grA; rw [if_pos ⟨h, h10⟩, Int.toNat_natCast]
  have eX : grX (L : Int) (X : Int) = if (X : Int) + 1 = ((2 ^ L : Nat) : Int) then 0 else (X : Int) + 1 := by unfold grX; rw [if_pos ⟨h, h10⟩, Int.toNat_natCast]
  have eC : grC (L : Int) (X : Int) = 2 * (X : Int) := by unfold grC; rw [if_pos ⟨h, h10⟩]
  have eE : grE (L : Int) (X : Int) = 0 := by unfold grE; rw [if_pos h, if_neg h10]
  have eN : cntV (L : Int) (X : Int) = ((2 ^ L : Nat) : Int) + (X : Int) := by unfold cntV; rw [h, if_pos rfl, Int.toNat_natCast]
  rw [eA, eX, eC, eE, eN]
  by_cases hq : (X : Int) + 1 = ((2 ^ L : Nat) : Int)
  · rw [if_pos hq, if_pos hq]
    have hv : lvB ((L : Int) + 1) 0 = true := lvB_iff.2 ⟨L + 1, 0, by omega, by omega, rfl, Nat.two_pow_pos _⟩
    have hs : shB ((L : Int) + 1) 0 = true := by unfold shB; rw [hv]; simp; omega
    have e1 : shX ((L : Int) + 1) 0 = (X : Int) := by unfold shX; rw [hs, if_pos rfl, if_pos rfl, show ((L : Int) + 1 - 1).toNat = L by omega]; omega
    have e2 : ((L : Int) + 1).toNat = L + 1 := by omega
    have e3 : 2 ^ (L + 1) = 2 * 2 ^ L := by rw [Nat.pow_succ]; omega
    refine ⟨?_, e1, ?_, ?_, hv, ?_, rfl, by omega, by omega, by omega, by omega⟩
    · unfold shA; rw [hs, if_pos rfl, if_pos rfl]; omega
    · unfold shC; rw [e1]
    · unfold shE; rw [hs]; rfl
    · unfold cntV; rw [hv, if_pos rfl, e2, e3]; omega
  · rw [if_neg hq, if_neg hq]
    have hv : lvB (L : Int) ((X : Int) + 1) = true := lvB_iff.2 ⟨L, X + 1, rfl, hL, by omega, by omega⟩
    have hs : shB (L : Int) ((X : Int) + 1) = true := by
      unfold shB; rw [hv]; simp
      rintro rfl
      simp at hX; subst hX; simp at hq
    have e1 : shX (L : Int) ((X : Int) + 1) = (X : Int) := by unfold shX; rw [hs, if_pos rfl, if_neg (by omega)]; omega
    refine ⟨?_, e1, ?_, ?_, hv, ?_, rfl, by omega, by omega, by omega, by omega⟩
    · unfold shA; rw [hs, if_pos rfl, if_neg (by omega)]
    · unfold shC; rw [e1]
    · unfold shE; rw [hs]; rfl
    · unfold cntV; rw [hv, if_pos rfl, Int.toNat_natCast]; omega
set_option maxRecDepth 100000 in
set_option maxHeartbeats 4000000 in
theorem LinearBack_walk (l x : Int) (w : World) (_ : (Lit.int .i64 l).wf = true) (_ : (Lit.int .i64 x).wf = true) :
    Calls Try.prog 6 #[.int .i64 l, .int .i64 x] w fun e w' => e = .returned (.bool true) ∧ Below w.heap.size w w' := by
  have H1 := hid fun V : World => grow_ok l x V
  by_cases hg : lvB l x = true ∧ l ≠ 10
  · obtain ⟨g1, g2, g3, g4, g5, g6, g7, g8, g9, g10, g11⟩ := grown hg.1 hg.2
    have H3 := hid fun V : World => shrink_ok (grA l x) (grX l x) V
    have H5 := hid fun V : World => count_ok l x V
    have H6 := hid fun V : World => count_ok (grA l x) (grX l x) V
    rw [g1, g2, g3, g4] at H3
    rw [g7] at H1
    rw [hg.1, err_true true rfl] at H5
    rw [g5, g6, err_true true rfl] at H6
    generalize grA l x = a1 at H1 H3 H6
    generalize grX l x = a2 at H1 H3 H6
    generalize grC l x = a3 at H1 H3 g8 g9
    generalize cntV l x = n at H5 H6 g9 g10 g11
    have s1 : IntKind.i64.wrap (n + 1) = n + 1 := Go.IntWalk.i64_in _ (by omega)
    have d1 : decide (0 ≤ a3) = true := by simpa using g8
    have d2 : decide (a3 < n) = true := by simpa using g9
    clear g1 g2 g3 g4 g5 g6 g7 g8 g9 g10 g11 hg
    go_enter Try.func6, Try.ntmps6
    go_wp2_with fail
    refine (H1.out _).mono ?_
    rintro e w1 ⟨rfl, rfl⟩
    go_wp2_with fail
    refine (H3.out _).mono ?_
    rintro e w1 ⟨rfl, rfl⟩
    go_wp2_with fail
    refine (H5.out _).mono ?_
    rintro e w1 ⟨rfl, rfl⟩
    go_wp2_with fail
    refine (H6.out _).mono ?_
    rintro e w1 ⟨rfl, rfl⟩
    go_wp2_with fail
    refine (Ln.live_any _).mono ?_
    rintro e w2 ⟨rfl, hb⟩
    have HB := hid hb; clear hb
    go_wp2_with fail
    go_ret
    exact ⟨rfl, HB.out⟩
  · have e1 : grA l x = 0 := by unfold grA; rw [if_neg hg]
    have e2 : grX l x = 0 := by unfold grX; rw [if_neg hg]
    have e3 : grC l x = 0 := by unfold grC; rw [if_neg hg]
    rw [e1, e2, e3] at H1
    have e4 : (grE l x == 0) = false ∧ (grE l x != 0) = true := by
      unfold grE
      by_cases h : lvB l x = true
      · have : l = 10 := by
          by_cases h10 : l = 10
          · exact h10
          · exact absurd ⟨h, h10⟩ hg
        rw [if_pos h, if_pos this]; decide
      · rw [if_neg h]; decide
    generalize grE l x = a4 at H1 e4
    obtain ⟨e4, e5⟩ := e4
    clear e1 e2 e3 hg
    go_enter Try.func6, Try.ntmps6
    go_wp2_with fail
    refine (H1.out _).mono ?_
    rintro e w1 ⟨rfl, rfl⟩
    go_wp2_with fail
    refine (Ln.live_any _).mono ?_
    rintro e w2 ⟨rfl, hb⟩
    have HB := hid hb; clear hb
    go_wp2_with fail
    go_ret
    exact ⟨rfl, HB.out⟩
end Go.Proofs.Ytalohakibpjmmaa
