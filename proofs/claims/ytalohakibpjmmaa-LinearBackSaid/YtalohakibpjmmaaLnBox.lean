/- Box of linear, whatever is asked. -/
import Derived.Test.YtalohakibpjmmaaLnFind
namespace Go.Proofs.Ytalohakibpjmmaa.Ln
open Go.RowKit
open Go.Lib (hid)
open Go.Proofs.Ytalohakibpjmmaa.Ky
open Go.Proofs.Ytalohakibpjmmaa.Bk
open Go.Proofs.Ytalohakibpjmmaa.Ex

/-- depth and address that are asked for -/
def dI (l x c : Int) : Int := if c < 2 * x then l + 1 else l
def aI (x c : Int) : Int := if c < 2 * x then c else c - x
def bB (dim l x c : Int) : Bool := lvB l x && okB dim (dI l x c) (aI x c)
def bL (dim l x c : Int) : List Nat × List Nat := if lvB l x then bxL dim (dI l x c) (aI x c) else ([], [])
theorem bB_iff {dim l x c : Int} : bB dim l x c = true ↔ ∃ n L X C : Nat, dim = (n : Int) ∧ 1 ≤ n ∧ n ≤ 6 ∧ l = (L : Int) ∧ L ≤ 10 ∧ x = (X : Int) ∧ X < 2 ^ L ∧ c = (C : Int) ∧ C < 2 ^ L + X := by
  unfold bB
  rw [Bool.and_eq_true, lvB_iff, okB_iff]
  constructor
  · rintro ⟨⟨L, X, rfl, hL, rfl, hX⟩, n, D, A, rfl, h1, h2, h3, h4, h5, h6⟩
    refine ⟨n, L, X, c.toNat, rfl, h1, h2, rfl, hL, rfl, hX, ?_⟩
    unfold dI at h3; unfold aI at h5
    by_cases hc : c < 2 * (X : Int)
    · rw [if_pos hc] at h3 h5
      obtain rfl : D = L + 1 := by omega
      rw [Nat.pow_succ] at h6
      omega
    · rw [if_neg hc] at h3 h5
      obtain rfl : D = L := by omega
      omega
  · rintro ⟨n, L, X, C, rfl, h1, h2, rfl, hL, rfl, hX, rfl, hC⟩
    refine ⟨⟨L, X, rfl, hL, rfl, hX⟩, n, dep L X C, adr X C, rfl, h1, h2, ?_, by have := dep_le (X := X) (c := C) hL; omega, ?_, adr_lt hX hC⟩
    · unfold dI dep; split <;> split <;> omega
    · unfold aI adr; split <;> split <;> omega
theorem dI_nat (L X C : Nat) : dI (L : Int) (X : Int) (C : Int) = (dep L X C : Nat) := by unfold dI dep; split <;> split <;> omega
theorem aI_nat (X C : Nat) : aI (X : Int) (C : Int) = (adr X C : Nat) := by unfold aI adr; split <;> split <;> omega
theorem bL_no {dim l x c : Int} (h : bB dim l x c = false) : bL dim l x c = ([], []) := by
  unfold bL
  cases hl : lvB l x with
  | false => rfl
  | true =>
    unfold bB at h
    rw [hl, Bool.true_and] at h
    unfold bxL
    rw [h]; rfl
theorem bL_yes {n L X C : Nat} (h1 : 1 ≤ n ∧ n ≤ 6) (hL : L ≤ 10) (hX : X < 2 ^ L) (hC : C < 2 ^ L + X) : bL (n : Int) (L : Int) (X : Int) (C : Int) = cell n (dep L X C) (adr X C) := by
  have h : bB (n : Int) (L : Int) (X : Int) (C : Int) = true := bB_iff.2 ⟨n, L, X, C, rfl, h1.1, h1.2, rfl, hL, rfl, hX, rfl, hC⟩
  unfold bB at h
  rw [Bool.and_eq_true, dI_nat, aI_nat] at h
  unfold bL bxL
  rw [dI_nat, aI_nat, h.1, h.2, if_pos rfl, if_pos rfl, Int.toNat_natCast, Int.toNat_natCast, Int.toNat_natCast]
set_option maxRecDepth 100000 in
set_option maxHeartbeats 4000000 in
theorem boxL_any (dim l x c : Int) (hc : -9223372036854775808 ≤ c ∧ c ≤ 9223372036854775807) (w : World) :
    Calls Try.prog 14 #[.int .i64 dim, .int .i64 l, .int .i64 x, .int .i64 c] w (AnyBox w (bL dim l x c) (err (bB dim l x c))) := by
  have HC := hid fun V : World => lvB_ok l x V
  have HB := hid (below_alloc w (.cells #[Value.slice none 0 0, .slice none 0 0] 32))
  have hz := heap_alloc_new w (.cells #[Value.slice none 0 0, .slice none 0 0] 32)
  cases h : lvB l x with
  | false =>
    rw [show bB dim l x c = false by unfold bB; rw [h]; rfl, show bL dim l x c = ([], []) by unfold bL; rw [h]; rfl, err_false false rfl]
    rw [h] at HC
    have z := zero_cells hz
    clear h hc hz
    go_enter Try.func14, Try.ntmps14
    go_wp2_with fail
    refine (HC.out _).mono ?_
    rintro e w1 ⟨rfl, rfl⟩
    go_wp2_with fail
    refine bodyPost_ret (v := .tuple #[.agg #[.slice none 0 0, .slice none 0 0], .int .i64 1]) (by simp [results, Try.results14, go_sem]) rfl ?_
    exact ⟨none, 0, none, 0, rfl, Pt.nil _ _, Pt.nil _ _, HB.out⟩
  | true =>
    rw [h] at HC
    rw [show bB dim l x c = okB dim (dI l x c) (aI x c) by unfold bB; rw [h]; rfl, show bL dim l x c = bxL dim (dI l x c) (aI x c) by unfold bL; rw [h]; rfl]
    obtain ⟨L, X, rfl, hL, rfl, hX⟩ := lvB_iff.1 h
    have hp := pow_10 hL
    have HX := hid fun V : World => boxE_any dim (dI (L : Int) (X : Int) c) (aI (X : Int) c) V
    generalize bxL dim (dI (L : Int) (X : Int) c) (aI (X : Int) c) = Z at HX ⊢
    generalize err (okB dim (dI (L : Int) (X : Int) c) (aI (X : Int) c)) = E1 at HX ⊢
    obtain ⟨zl, zh⟩ := Z
    unfold AnyBox at HX
    have s1 : IntKind.i64.wrap (2 * (X : Int)) = 2 * (X : Int) := Go.IntWalk.i64_in _ (by omega)
    have HZ := hid hz
    have HSZ : Hid (w.heap.size < (w.alloc (.cells #[Value.slice none 0 0, .slice none 0 0] 32)).heap.size) := hid (by simp)
    by_cases hq : c < 2 * (X : Int)
    · have d1 : decide (c < 2 * (X : Int)) = true := by simpa using hq
      have s2 : IntKind.i64.wrap ((L : Int) + 1) = (L : Int) + 1 := Go.IntWalk.i64_in _ (by omega)
      rw [show dI (L : Int) (X : Int) c = (L : Int) + 1 by unfold dI; rw [if_pos hq], show aI (X : Int) c = c by unfold aI; rw [if_pos hq]] at HX
      clear h hc hL hX hp hq hz
      go_enter Try.func14, Try.ntmps14
      go_wp2_with fail
      refine (HC.out _).mono ?_
      rintro e w1 ⟨rfl, rfl⟩
      go_wp2_with fail
      refine (HX.out _).mono ?_
      rintro e w1 ⟨p, c1, q, c2, rfl, g1, g2, hb⟩
      have hz1 := (hb.block _ HSZ.out).trans HZ.out
      have z := zero_cells hz1
      have HS := hid (store_out (HB.out.trans (hb.mono HB.out.size)) (Nat.le_refl _) hz1 g1 g2 (.slice p zl.length c1) (.slice q zh.length c2) (by simp))
      clear g1 g2 hb hz1
      go_wp2_with fail
      have z2 := HS.out.2.2.2
      refine bodyPost_ret (v := .tuple #[.agg #[.slice p zl.length c1, .slice q zh.length c2], .int .i64 E1]) (by simp [results, Try.results14, go_sem, z2]) rfl ?_
      exact ⟨p, c1, q, c2, rfl, HS.out.1, HS.out.2.1, HS.out.2.2.1⟩
    · have d1 : decide (c < 2 * (X : Int)) = false := by simpa using hq
      have s2 : IntKind.i64.wrap (c - (X : Int)) = c - (X : Int) := Go.IntWalk.i64_in _ (by omega)
      rw [show dI (L : Int) (X : Int) c = (L : Int) by unfold dI; rw [if_neg hq], show aI (X : Int) c = c - (X : Int) by unfold aI; rw [if_neg hq]] at HX
      clear h hc hL hX hp hq hz
      go_enter Try.func14, Try.ntmps14
      go_wp2_with fail
      refine (HC.out _).mono ?_
      rintro e w1 ⟨rfl, rfl⟩
      go_wp2_with fail
      refine (HX.out _).mono ?_
      rintro e w1 ⟨p, c1, q, c2, rfl, g1, g2, hb⟩
      have hz1 := (hb.block _ HSZ.out).trans HZ.out
      have z := zero_cells hz1
      have HS := hid (store_out (HB.out.trans (hb.mono HB.out.size)) (Nat.le_refl _) hz1 g1 g2 (.slice p zl.length c1) (.slice q zh.length c2) (by simp))
      clear g1 g2 hb hz1
      go_wp2_with fail
      have z2 := HS.out.2.2.2
      refine bodyPost_ret (v := .tuple #[.agg #[.slice p zl.length c1, .slice q zh.length c2], .int .i64 E1]) (by simp [results, Try.results14, go_sem, z2]) rfl ?_
      exact ⟨p, c1, q, c2, rfl, HS.out.1, HS.out.2.1, HS.out.2.2.1⟩
end Go.Proofs.Ytalohakibpjmmaa.Ln
