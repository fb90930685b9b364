/- ExcellTwice walked: the cell beside the one beside a cell is itself, without its lower digits. -/
import Derived.Test.YtebfgjhpbkdmpaaExLive
import Derived.Test.YtebfgjhpbkdmpaaExLawM
namespace Go.Proofs.Ytebfgjhpbkdmpaa
open Go.RowKit
open Go.Lib (hid)
open Go.Proofs.Ytebfgjhpbkdmpaa.Ky
open Go.Proofs.Ytebfgjhpbkdmpaa.Ex
theorem twice_nums {D A B : Nat} (hD : D ≤ 12) (hA : A < 2 ^ D) (h1 : 1 ≤ B) (h2 : B ≤ D) : ∃ L q N M : Nat, L = D - B ∧ q = A / 2 ^ L ∧ N = buddyN D A B ∧ M = buddyN D N B ∧ L ≤ 12 ∧ q < 4096 ∧ N < 2 ^ D ∧ M < 4096 ∧ q * 2 ^ L = M ∧ N ≠ M := by
  obtain ⟨a1, a2, a3⟩ := flip_lt hA h1 h2
  obtain ⟨b1, b2, b3⟩ := flip_lt a3 h1 h2
  have p1 := pow_12 hD
  have p2 := pow_12 (show B ≤ 12 by omega)
  refine ⟨_, _, _, _, rfl, rfl, rfl, rfl, by omega, by omega, a3, by omega, (buddy_twice D A B).symm, fun e => ?_⟩
  have h3 := buddy_div D A B
  rw [e, buddy_twice, Nat.mul_div_cancel _ (Nat.two_pow_pos _)] at h3
  exact flip_ne _ h3.symm
set_option maxRecDepth 100000 in
set_option maxHeartbeats 4000000 in
theorem ExcellTwice_walk (d a b : Int) (w : World) (_ : (Lit.int .i64 d).wf = true) (_ : (Lit.int .i64 a).wf = true) (_ : (Lit.int .i64 b).wf = true) :
    Calls Try.prog 7 #[.int .i64 d, .int .i64 a, .int .i64 b] w fun e w' => e = .returned (.bool true) ∧ Below w.heap.size w w' := by
  have HC := hid (buddy_ok d a b w)
  cases hB : buddyB d a b with
  | false =>
    rw [hB, show buddyV d a b = 0 by simp [buddyV, hB], err_false false rfl] at HC
    clear hB
    go_enter Try.func7, Try.ntmps7
    go_wp2_with fail
    refine HC.out.mono ?_
    rintro e w1 ⟨rfl, rfl⟩
    go_wp2_with fail
    refine (Ex.live_any _).mono ?_
    rintro e w2 ⟨rfl, hb⟩
    have H1 := hid hb; clear hb
    go_wp2_with fail
    go_ret
    exact ⟨rfl, H1.out⟩
  | true =>
    obtain ⟨D, A, B, rfl, rfl, rfl, hD, hA, hb1, hb2⟩ := buddy_yes hB
    obtain ⟨L, q, N, M, eL, eq, eN, eM, l1, l2, l3, l4, l5, l6⟩ := twice_nums hD hA hb1 hb2
    have hP := pow_12 hD
    have hN4 : N < 4096 := by omega
    have hA4 : A < 4096 := by omega
    have hB2 : buddyB (D : Int) (N : Int) (B : Int) = true := by
      unfold buddyB
      rw [hasA_iff.2 ⟨D, N, rfl, hD, rfl, l3⟩, decide_eq_true (by omega), decide_eq_true (by omega)]; rfl
    rw [hB, show buddyV (D : Int) (A : Int) (B : Int) = (N : Int) by simp [buddyV, hB, eN], err_true true rfl] at HC
    have HC2 := hid fun (V : World) => buddy_ok (D : Int) (N : Int) (B : Int) V
    rw [hB2, show buddyV (D : Int) (N : Int) (B : Int) = (M : Int) by simp [buddyV, hB2, eM], err_true true rfl] at HC2
    have s1 : IntKind.i64.wrap ((D : Int) - (B : Int)) = (L : Int) := by rw [show (D : Int) - (B : Int) = (L : Int) by omega]; exact Go.IntWalk.i64_in _ (by omega)
    have s0 : IntKind.u64.wrap (L : Int) = (L : Int) := Go.IntWalk.u64_in _ (by omega)
    have g3 : 0 ≤ (L : Int) := by omega
    have g4 : decide ((L : Int) < 0) = false := by simp
    have s2 : (A : Int) / (2 : Int) ^ L = (q : Int) := by rw [eq]; simp
    have s2' : (A : Int) / (2 : Int) ^ (min L 64) = (q : Int) := by rw [Nat.min_eq_left (by omega)]; exact s2
    have s4 : IntKind.i64.wrap ((q : Int) * (2 : Int) ^ L) = (M : Int) := by
      have : ((2 : Int) ^ L) = ((2 ^ L : Nat) : Int) := by simp
      rw [this, ← Int.natCast_mul, l5]; exact Go.IntWalk.i64_in _ (by omega)
    have s4' : IntKind.i64.wrap ((q : Int) * (2 : Int) ^ (min L 64)) = (M : Int) := by rw [Nat.min_eq_left (by omega)]; exact s4
    have s6 : ((N : Int) != (M : Int)) = true := by simp; omega
    have s7 : (N != M) = true := by simp; omega
    clear hB hB2 hD hA hb1 hb2 eL eq eN eM l1 l2 l3 l4 l5 l6 hP hN4 hA4
    go_enter Try.func7, Try.ntmps7
    go_wp2_with fail
    refine HC.out.mono ?_
    rintro e w1 ⟨rfl, rfl⟩
    go_wp2_with fail
    refine (HC2.out _).mono ?_
    rintro e w1 ⟨rfl, rfl⟩
    go_wp2_with fail
    refine (Ex.live_any _).mono ?_
    rintro e w2 ⟨rfl, hb⟩
    have H1 := hid hb; clear hb
    go_wp2_with fail
    go_ret
    exact ⟨rfl, H1.out⟩
end Go.Proofs.Ytebfgjhpbkdmpaa
