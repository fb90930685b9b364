/- Buddy of both. -/
import Derived.Test.YtebfgjhpbkdmpaaExSmall
namespace Go.Proofs.Ytebfgjhpbkdmpaa.Ex
open Go.RowKit
open Go.Lib (hid)
open Go.Proofs.Ytebfgjhpbkdmpaa.Ky

/-- what the walks ask of the numbers -/
theorem buddy_facts {D A B : Nat} (hD : D ≤ 12) (hA : A < 2 ^ D) (h1 : 1 ≤ B) (h2 : B ≤ D) : ∃ L q r N : Nat, L = D - B ∧ q = A / 2 ^ L ∧ r = flip1 q ∧ N = buddyN D A B ∧ L ≤ 12 ∧ q < 4096 ∧ r < 4096 ∧ N < 4096 ∧ r * 2 ^ L = N ∧ A < 4096 ∧ 2 ^ L ≤ 4096 ∧ 1 ≤ 2 ^ L := by
  obtain ⟨a1, a2, a3⟩ := flip_lt hA h1 h2
  have p1 := pow_12 hD
  have p2 := pow_12 (show B ≤ 12 by omega)
  have p3 := pow_12 (show D - B ≤ 12 by omega)
  exact ⟨_, _, _, _, rfl, rfl, rfl, rfl, by omega, by omega, by omega, by omega, rfl, by omega, p3.1, p3.2⟩
set_option maxHeartbeats 1000000 in
theorem buddy_ok (d a b : Int) (w : World) : Calls Try.prog 16 #[.int .i64 d, .int .i64 a, .int .i64 b] w fun e w' => e = .returned (.tuple #[.int .i64 (buddyV d a b), .int .i64 (err (buddyB d a b))]) ∧ w = w' := by
  have HC := hid fun w' : World => hasA_ok d a w'
  cases hm : hasA d a with
  | false =>
    rw [hm] at HC
    have e1 : buddyB d a b = false := by simp [buddyB, hm]
    have e2 : buddyV d a b = 0 := by simp [buddyV, e1]
    rw [e1, e2, err_false false rfl]
    clear e1 e2 hm
    go_enter Try.func16, Try.ntmps16
    go_wp2_with (go_at_call 65; refine (HC.out _).mono ?_; rintro e w' ⟨rfl, rfl⟩)
    go_ret2
    exact ⟨rfl, rfl⟩
  | true =>
    rw [hm] at HC
    by_cases h1 : b < 1
    · have g1 : decide (b < 1) = true := by simpa using h1
      have e1 : buddyB d a b = false := by simp [buddyB]; omega
      have e2 : buddyV d a b = 0 := by simp [buddyV, e1]
      rw [e1, e2, err_false false rfl]
      clear e1 e2 hm h1
      go_enter Try.func16, Try.ntmps16
      go_wp2_with (go_at_call 65; refine (HC.out _).mono ?_; rintro e w' ⟨rfl, rfl⟩)
      go_ret2
      exact ⟨rfl, rfl⟩
    · have g1 : decide (b < 1) = false := by simpa using h1
      by_cases h2 : d < b
      · have g2 : decide (d < b) = true := by simpa using h2
        have e1 : buddyB d a b = false := by simp [buddyB]; omega
        have e2 : buddyV d a b = 0 := by simp [buddyV, e1]
        rw [e1, e2, err_false false rfl]
        clear e1 e2 hm h1 h2
        go_enter Try.func16, Try.ntmps16
        go_wp2_with (go_at_call 65; refine (HC.out _).mono ?_; rintro e w' ⟨rfl, rfl⟩)
        go_ret2
        exact ⟨rfl, rfl⟩
      · have g2 : decide (d < b) = false := by simpa using h2
        have e1 : buddyB d a b = true := by simp [buddyB, hm]; omega
        obtain ⟨D, A, B, rfl, rfl, rfl, hD, hA, hb1, hb2⟩ := buddy_yes e1
        obtain ⟨L, q, r, N, eL, eq, er, eN, l1, l2, l3, l4, l5, l6, l7, l8⟩ := buddy_facts hD hA hb1 hb2
        have e2 : buddyV (D : Int) (A : Int) (B : Int) = (N : Int) := by simp [buddyV, e1, eN]
        rw [e1, e2, err_true true rfl]
        have d3 : decide (D < B) = false := by simpa using hb2
        have d4 : decide (B < 1) = false := by simp; omega
        have s1 : IntKind.i64.wrap ((D : Int) - (B : Int)) = (L : Int) := by rw [show (D : Int) - (B : Int) = (L : Int) by omega]; exact Go.IntWalk.i64_in _ (by omega)
        have g3 : 0 ≤ (L : Int) := by omega
        have g4 : decide ((L : Int) < 0) = false := by simp
        have s2 : (A : Int) / (2 : Int) ^ L = (q : Int) := by rw [eq]; simp
        have s3 := bits_xor_one q (by omega)
        rw [← er] at s3
        have s4 : IntKind.i64.wrap ((r : Int) * (2 : Int) ^ L) = (N : Int) := by
          have : ((2 : Int) ^ L) = ((2 ^ L : Nat) : Int) := by simp
          rw [this, ← Int.natCast_mul, l5]; exact Go.IntWalk.i64_in _ (by omega)
        clear e1 e2 hm h1 h2 eL eq er eN l5 hA l7 l8
        go_enter Try.func16, Try.ntmps16
        go_wp2_with (go_at_call 65; refine (HC.out _).mono ?_; rintro e w' ⟨rfl, rfl⟩)
        go_ret2
        exact ⟨rfl, rfl⟩
set_option maxHeartbeats 1000000 in
theorem refBuddy_ok (d a b : Int) (w : World) : Calls Try.prog 17 #[.int .i64 d, .int .i64 a, .int .i64 b] w fun e w' => e = .returned (.tuple #[.int .i64 (buddyV d a b), .int .i64 (err (buddyB d a b))]) ∧ w = w' := by
  have HC := hid fun w' : World => refIs_ok d a w'
  cases hm : hasA d a with
  | false =>
    rw [hm] at HC
    have e1 : buddyB d a b = false := by simp [buddyB, hm]
    have e2 : buddyV d a b = 0 := by simp [buddyV, e1]
    rw [e1, e2, err_false false rfl]
    clear e1 e2 hm
    go_enter Try.func17, Try.ntmps17
    go_wp2_with (go_at_call 68; refine (HC.out _).mono ?_; rintro e w' ⟨rfl, rfl⟩)
    go_ret2
    exact ⟨rfl, rfl⟩
  | true =>
    rw [hm] at HC
    by_cases h1 : b < 1
    · have g1 : decide (b < 1) = true := by simpa using h1
      have e1 : buddyB d a b = false := by simp [buddyB]; omega
      have e2 : buddyV d a b = 0 := by simp [buddyV, e1]
      rw [e1, e2, err_false false rfl]
      clear e1 e2 hm h1
      go_enter Try.func17, Try.ntmps17
      go_wp2_with (go_at_call 68; refine (HC.out _).mono ?_; rintro e w' ⟨rfl, rfl⟩)
      go_ret2
      exact ⟨rfl, rfl⟩
    · have g1 : decide (b < 1) = false := by simpa using h1
      by_cases h2 : d < b
      · have g2 : decide (d < b) = true := by simpa using h2
        have e1 : buddyB d a b = false := by simp [buddyB]; omega
        have e2 : buddyV d a b = 0 := by simp [buddyV, e1]
        rw [e1, e2, err_false false rfl]
        clear e1 e2 hm h1 h2
        go_enter Try.func17, Try.ntmps17
        go_wp2_with (go_at_call 68; refine (HC.out _).mono ?_; rintro e w' ⟨rfl, rfl⟩)
        go_ret2
        exact ⟨rfl, rfl⟩
      · have g2 : decide (d < b) = false := by simpa using h2
        have e1 : buddyB d a b = true := by simp [buddyB, hm]; omega
        obtain ⟨D, A, B, rfl, rfl, rfl, hD, hA, hb1, hb2⟩ := buddy_yes e1
        obtain ⟨L, q, r, N, eL, eq, er, eN, l1, l2, l3, l4, l5, l6, l7, l8⟩ := buddy_facts hD hA hb1 hb2
        have e2 : buddyV (D : Int) (A : Int) (B : Int) = (N : Int) := by simp [buddyV, e1, eN]
        rw [e1, e2, err_true true rfl]
        have d3 : decide (D < B) = false := by simpa using hb2
        have d4 : decide (B < 1) = false := by simp; omega
        have s1 : IntKind.i64.wrap ((D : Int) - (B : Int)) = (L : Int) := by rw [show (D : Int) - (B : Int) = (L : Int) by omega]; exact Go.IntWalk.i64_in _ (by omega)
        have s0 : IntKind.u64.wrap (L : Int) = (L : Int) := Go.IntWalk.u64_in _ (by omega)
        have g3 : 0 ≤ (L : Int) := by omega
        have g4 : decide ((L : Int) < 0) = false := by simp
        have s2 : (A : Int) / (2 : Int) ^ L = (q : Int) := by rw [eq]; simp
        have s4 : IntKind.i64.wrap ((r : Int) * (2 : Int) ^ L) = (N : Int) := by
          have : ((2 : Int) ^ L) = ((2 ^ L : Nat) : Int) := by simp
          rw [this, ← Int.natCast_mul, l5]; exact Go.IntWalk.i64_in _ (by omega)
        by_cases ho : q % 2 = 1
        · have k1 : ((q : Int).tmod 2) = 1 := by rw [Int.tmod_eq_emod_of_nonneg (by omega)]; omega
          have k2 : IntKind.i64.wrap ((q : Int) - 1) = (r : Int) := by
            have : (q : Int) - 1 = (r : Int) := by rw [er]; unfold flip1; rw [if_pos ho]; omega
            rw [this]; exact Go.IntWalk.i64_in _ (by omega)
          clear e1 e2 hm h1 h2 eL eq er eN l5 hA l7 l8 ho
          go_enter Try.func17, Try.ntmps17
          go_wp2_with (go_at_call 68; refine (HC.out _).mono ?_; rintro e w' ⟨rfl, rfl⟩)
          go_ret2
          exact ⟨rfl, rfl⟩
        · have k1 : ((q : Int).tmod 2) = 0 := by rw [Int.tmod_eq_emod_of_nonneg (by omega)]; omega
          have k2 : IntKind.i64.wrap ((q : Int) + 1) = (r : Int) := by
            have : (q : Int) + 1 = (r : Int) := by rw [er]; unfold flip1; rw [if_neg ho]; omega
            rw [this]; exact Go.IntWalk.i64_in _ (by omega)
          clear e1 e2 hm h1 h2 eL eq er eN l5 hA l7 l8 ho
          go_enter Try.func17, Try.ntmps17
          go_wp2_with (go_at_call 68; refine (HC.out _).mono ?_; rintro e w' ⟨rfl, rfl⟩)
          go_ret2
          exact ⟨rfl, rfl⟩
end Go.Proofs.Ytebfgjhpbkdmpaa.Ex
