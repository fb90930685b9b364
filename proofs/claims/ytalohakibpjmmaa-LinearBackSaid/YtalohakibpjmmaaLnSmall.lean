/- Small calls of linear and of its reference: may, Count, Grow, Shrink. -/
import Derived.Test.YtalohakibpjmmaaLnMath
import Derived.Test.YtalohakibpjmmaaKyBits
namespace Go.Proofs.Ytalohakibpjmmaa.Ln
open Go.RowKit
open Go.Lib (hid)
open Go.Proofs.Ytalohakibpjmmaa.Ky
open Go.Proofs.Ytalohakibpjmmaa.Ex

def cntV (l x : Int) : Int := if lvB l x then ((2 ^ l.toNat : Nat) : Int) + x else 0
/-- what Grow tells -/
def grA (l x : Int) : Int := if lvB l x = true ∧ l ≠ 10 then (if x + 1 = ((2 ^ l.toNat : Nat) : Int) then l + 1 else l) else 0
def grX (l x : Int) : Int := if lvB l x = true ∧ l ≠ 10 then (if x + 1 = ((2 ^ l.toNat : Nat) : Int) then 0 else x + 1) else 0
def grC (l x : Int) : Int := if lvB l x = true ∧ l ≠ 10 then 2 * x else 0
def grE (l x : Int) : Int := if lvB l x = true then (if l = 10 then 4 else 0) else 1
/-- what Shrink tells -/
def shB (l x : Int) : Bool := lvB l x && decide (l ≠ 0)
def shA (l x : Int) : Int := if shB l x then (if x = 0 then l - 1 else l) else 0
def shX (l x : Int) : Int := if shB l x then (if x = 0 then ((2 ^ (l - 1).toNat : Nat) : Int) - 1 else x - 1) else 0
def shC (l x : Int) : Int := 2 * shX l x
def shE (l x : Int) : Int := if shB l x then 0 else 1

set_option maxHeartbeats 1000000 in
theorem lvB_ok (l x : Int) (w : World) : Calls Try.prog 25 #[.int .i64 l, .int .i64 x] w fun e w' => e = .returned (.bool (lvB l x)) ∧ w = w' := by
  by_cases h0 : 0 ≤ l
  · have d0 : decide (0 ≤ l) = true := by simpa using h0
    by_cases h1 : l ≤ 10
    · have d1 : decide (l ≤ 10) = true := by simpa using h1
      by_cases h2 : 0 ≤ x
      · have d2 : decide (0 ≤ x) = true := by simpa using h2
        obtain ⟨L, rfl⟩ : ∃ L : Nat, l = (L : Int) := ⟨l.toNat, by omega⟩
        have hp := pow_10 (show L ≤ 10 by omega)
        have e : lvB (L : Int) x = decide (x < ((2 ^ L : Nat) : Int)) := by unfold lvB; rw [d0, d1, d2, Int.toNat_natCast, int_pow]; rfl
        rw [e]
        have g4 : decide ((L : Int) < 0) = false := by simp
        have s0 : IntKind.u64.wrap (L : Int) = (L : Int) := Go.IntWalk.u64_in _ (by omega)
        have s1 : IntKind.i64.wrap ((2 : Int) ^ (min L 64)) = ((2 ^ L : Nat) : Int) := by rw [Nat.min_eq_left (by omega), int_pow]; exact Go.IntWalk.i64_in _ (by omega)
        clear e h0 h1 h2 hp s0
        go_enter Try.func25, Try.ntmps25
        go_wp2_with fail
        go_ret
        exact ⟨rfl, rfl⟩
      · have d2 : decide (0 ≤ x) = false := by simpa using h2
        have e : lvB l x = false := by unfold lvB; rw [d0, d1, d2]; rfl
        rw [e]
        clear e h0 h1 h2
        go_enter Try.func25, Try.ntmps25
        go_wp2_with fail
        go_ret
        exact ⟨rfl, rfl⟩
    · have d1 : decide (l ≤ 10) = false := by simpa using h1
      have e : lvB l x = false := by unfold lvB; rw [d0, d1]; rfl
      rw [e]
      clear e h0 h1
      go_enter Try.func25, Try.ntmps25
      go_wp2_with fail
      go_ret
      exact ⟨rfl, rfl⟩
  · have d0 : decide (0 ≤ l) = false := by simpa using h0
    have e : lvB l x = false := by unfold lvB; rw [d0]; rfl
    rw [e]
    clear e h0
    go_enter Try.func25, Try.ntmps25
    go_wp2_with fail
    go_ret
    exact ⟨rfl, rfl⟩

set_option maxHeartbeats 1000000 in
theorem refLv_ok (l x : Int) (w : World) : Calls Try.prog 26 #[.int .i64 l, .int .i64 x] w fun e w' => e = .returned (.bool (lvB l x)) ∧ w = w' := by
  by_cases h0 : 0 ≤ l
  · have d0 : decide (0 ≤ l) = true := by simpa using h0
    by_cases h1 : l ≤ 10
    · have d1 : decide (l ≤ 10) = true := by simpa using h1
      by_cases h2 : 0 ≤ x
      · have d2 : decide (0 ≤ x) = true := by simpa using h2
        obtain ⟨L, rfl⟩ : ∃ L : Nat, l = (L : Int) := ⟨l.toNat, by omega⟩
        have hp := pow_10 (show L ≤ 10 by omega)
        have e : lvB (L : Int) x = decide (x < ((2 ^ L : Nat) : Int)) := by unfold lvB; rw [d0, d1, d2, Int.toNat_natCast, int_pow]; rfl
        rw [e]
        have g4 : decide ((L : Int) < 0) = false := by simp
        have s0 : IntKind.u64.wrap (L : Int) = (L : Int) := Go.IntWalk.u64_in _ (by omega)
        have s1 : IntKind.i64.wrap ((2 : Int) ^ (min L 64)) = ((2 ^ L : Nat) : Int) := by rw [Nat.min_eq_left (by omega), int_pow]; exact Go.IntWalk.i64_in _ (by omega)
        clear e h0 h1 h2 hp
        go_enter Try.func26, Try.ntmps26
        go_wp2_with fail
        go_ret
        exact ⟨rfl, rfl⟩
      · have d2 : decide (0 ≤ x) = false := by simpa using h2
        have e : lvB l x = false := by unfold lvB; rw [d0, d1, d2]; rfl
        rw [e]
        clear e h0 h1 h2
        go_enter Try.func26, Try.ntmps26
        go_wp2_with fail
        go_ret
        exact ⟨rfl, rfl⟩
    · have d1 : decide (l ≤ 10) = false := by simpa using h1
      have e : lvB l x = false := by unfold lvB; rw [d0, d1]; rfl
      rw [e]
      clear e h0 h1
      go_enter Try.func26, Try.ntmps26
      go_wp2_with fail
      go_ret
      exact ⟨rfl, rfl⟩
  · have d0 : decide (0 ≤ l) = false := by simpa using h0
    have e : lvB l x = false := by unfold lvB; rw [d0]; rfl
    rw [e]
    clear e h0
    go_enter Try.func26, Try.ntmps26
    go_wp2_with fail
    go_ret
    exact ⟨rfl, rfl⟩

set_option maxHeartbeats 1000000 in
theorem count_ok (l x : Int) (w : World) : Calls Try.prog 10 #[.int .i64 l, .int .i64 x] w fun e w' => e = .returned (.tuple #[.int .i64 (cntV l x), .int .i64 (err (lvB l x))]) ∧ w = w' := by
  have HC := hid fun w' : World => lvB_ok l x w'
  cases h : lvB l x with
  | false =>
    rw [show cntV l x = 0 by unfold cntV; rw [h]; rfl, err_false false rfl]
    rw [h] at HC
    clear h
    go_enter Try.func10, Try.ntmps10
    go_wp2_with (go_at_call 25; refine (HC.out _).mono ?_; rintro e w' ⟨rfl, rfl⟩)
    go_ret2
    exact ⟨rfl, rfl⟩
  | true =>
    obtain ⟨L, X, rfl, hL, rfl, hX⟩ := lvB_iff.1 h
    have hp := pow_10 hL
    rw [show cntV (L : Int) (X : Int) = ((2 ^ L : Nat) : Int) + (X : Int) by unfold cntV; rw [h, if_pos rfl, Int.toNat_natCast], err_true true rfl]
    rw [h] at HC
    have g4 : decide ((L : Int) < 0) = false := by simp
    have s0 : IntKind.u64.wrap (L : Int) = (L : Int) := Go.IntWalk.u64_in _ (by omega)
    have s1 : IntKind.i64.wrap ((2 : Int) ^ (min L 64)) = ((2 ^ L : Nat) : Int) := by rw [Nat.min_eq_left (by omega), int_pow]; exact Go.IntWalk.i64_in _ (by omega)
    have s2 : IntKind.i64.wrap (((2 ^ L : Nat) : Int) + (X : Int)) = ((2 ^ L : Nat) : Int) + (X : Int) := Go.IntWalk.i64_in _ (by omega)
    clear h hL hX hp s0
    generalize 2 ^ L = P at s1 s2 ⊢
    go_enter Try.func10, Try.ntmps10
    go_wp2_with (go_at_call 25; refine (HC.out _).mono ?_; rintro e w' ⟨rfl, rfl⟩)
    go_ret2
    exact ⟨rfl, rfl⟩

set_option maxHeartbeats 1000000 in
theorem refCount_ok (l x : Int) (w : World) : Calls Try.prog 11 #[.int .i64 l, .int .i64 x] w fun e w' => e = .returned (.tuple #[.int .i64 (cntV l x), .int .i64 (err (lvB l x))]) ∧ w = w' := by
  have HC := hid fun w' : World => refLv_ok l x w'
  cases h : lvB l x with
  | false =>
    rw [show cntV l x = 0 by unfold cntV; rw [h]; rfl, err_false false rfl]
    rw [h] at HC
    clear h
    go_enter Try.func11, Try.ntmps11
    go_wp2_with (go_at_call 26; refine (HC.out _).mono ?_; rintro e w' ⟨rfl, rfl⟩)
    go_ret2
    exact ⟨rfl, rfl⟩
  | true =>
    obtain ⟨L, X, rfl, hL, rfl, hX⟩ := lvB_iff.1 h
    have hp := pow_10 hL
    rw [show cntV (L : Int) (X : Int) = ((2 ^ L : Nat) : Int) + (X : Int) by unfold cntV; rw [h, if_pos rfl, Int.toNat_natCast], err_true true rfl]
    rw [h] at HC
    have g4 : decide ((L : Int) < 0) = false := by simp
    have s0 : IntKind.u64.wrap (L : Int) = (L : Int) := Go.IntWalk.u64_in _ (by omega)
    have s1 : IntKind.i64.wrap ((2 : Int) ^ (min L 64)) = ((2 ^ L : Nat) : Int) := by rw [Nat.min_eq_left (by omega), int_pow]; exact Go.IntWalk.i64_in _ (by omega)
    have s2 : IntKind.i64.wrap (((2 ^ L : Nat) : Int) + (X : Int)) = ((2 ^ L : Nat) : Int) + (X : Int) := Go.IntWalk.i64_in _ (by omega)
    clear h hL hX hp
    generalize 2 ^ L = P at s1 s2 ⊢
    go_enter Try.func11, Try.ntmps11
    go_wp2_with (go_at_call 26; refine (HC.out _).mono ?_; rintro e w' ⟨rfl, rfl⟩)
    go_ret2
    exact ⟨rfl, rfl⟩

set_option maxHeartbeats 2000000 in
theorem grow_ok (l x : Int) (w : World) : Calls Try.prog 20 #[.int .i64 l, .int .i64 x] w fun e w' => e = .returned (.tuple #[.int .i64 (grA l x), .int .i64 (grX l x), .int .i64 (grC l x), .int .i64 (grE l x)]) ∧ w = w' := by
  have HC := hid fun w' : World => lvB_ok l x w'
  cases h : lvB l x with
  | false =>
    rw [show grA l x = 0 by simp [grA, h], show grX l x = 0 by simp [grX, h], show grC l x = 0 by simp [grC, h], show grE l x = 1 by simp [grE, h]]
    rw [h] at HC
    clear h
    go_enter Try.func20, Try.ntmps20
    go_wp2_with (go_at_call 25; refine (HC.out _).mono ?_; rintro e w' ⟨rfl, rfl⟩)
    refine bodyPost_ret (v := .tuple #[.int .i64 0, .int .i64 0, .int .i64 0, .int .i64 1]) (by simp [results, Try.results20, go_sem]) rfl ?_
    exact ⟨rfl, rfl⟩
  | true =>
    rw [h] at HC
    by_cases h10 : l = 10
    · subst h10
      rw [show grA 10 x = 0 by simp [grA], show grX 10 x = 0 by simp [grX], show grC 10 x = 0 by simp [grC], show grE 10 x = 4 by simp [grE, h]]
      clear h
      go_enter Try.func20, Try.ntmps20
      go_wp2_with (go_at_call 25; refine (HC.out _).mono ?_; rintro e w' ⟨rfl, rfl⟩)
      refine bodyPost_ret (v := .tuple #[.int .i64 0, .int .i64 0, .int .i64 0, .int .i64 4]) (by simp [results, Try.results20, go_sem]) rfl ?_
      exact ⟨rfl, rfl⟩
    · rw [show grC l x = 2 * x by simp [grC, h, h10], show grE l x = 0 by simp [grE, h, h10]]
      have hA : grA l x = if x + 1 = ((2 ^ l.toNat : Nat) : Int) then l + 1 else l := by simp [grA, h, h10]
      have hX' : grX l x = if x + 1 = ((2 ^ l.toNat : Nat) : Int) then 0 else x + 1 := by simp [grX, h, h10]
      rw [hA, hX']
      clear hA hX'
      obtain ⟨L, X, rfl, hL, rfl, hX⟩ := lvB_iff.1 h
      have hp := pow_10 hL
      rw [Int.toNat_natCast]
      have d1 : ((L : Int) == 10) = false := by simpa using h10
      have g4 : decide ((L : Int) < 0) = false := by simp
      have s0 : IntKind.u64.wrap (L : Int) = (L : Int) := Go.IntWalk.u64_in _ (by omega)
      have s1 : IntKind.i64.wrap ((2 : Int) ^ (min L 64)) = ((2 ^ L : Nat) : Int) := by rw [Nat.min_eq_left (by omega), int_pow]; exact Go.IntWalk.i64_in _ (by omega)
      have s2 : IntKind.i64.wrap (2 * (X : Int)) = 2 * (X : Int) := Go.IntWalk.i64_in _ (by omega)
      have s3 : IntKind.i64.wrap ((X : Int) + 1) = (X : Int) + 1 := Go.IntWalk.i64_in _ (by omega)
      have s4 : IntKind.i64.wrap ((L : Int) + 1) = (L : Int) + 1 := Go.IntWalk.i64_in _ (by omega)
      by_cases hq : (X : Int) + 1 = ((2 ^ L : Nat) : Int)
      · have d2 : ((X : Int) + 1 == ((2 ^ L : Nat) : Int)) = true := by simpa using hq
        rw [if_pos hq, if_pos hq]
        clear h hL hX hp h10 hq s0
        generalize 2 ^ L = P at s1 d2 ⊢
        go_enter Try.func20, Try.ntmps20
        go_wp2_with (go_at_call 25; refine (HC.out _).mono ?_; rintro e w' ⟨rfl, rfl⟩)
        refine bodyPost_ret (v := .tuple #[.int .i64 ((L : Int) + 1), .int .i64 0, .int .i64 (2 * (X : Int)), .int .i64 0]) (by simp [results, Try.results20, go_sem]) rfl ?_
        exact ⟨rfl, rfl⟩
      · have d2 : ((X : Int) + 1 == ((2 ^ L : Nat) : Int)) = false := by simpa using hq
        rw [if_neg hq, if_neg hq]
        clear h hL hX hp h10 hq s4 s0
        generalize 2 ^ L = P at s1 d2 ⊢
        go_enter Try.func20, Try.ntmps20
        go_wp2_with (go_at_call 25; refine (HC.out _).mono ?_; rintro e w' ⟨rfl, rfl⟩)
        refine bodyPost_ret (v := .tuple #[.int .i64 (L : Int), .int .i64 ((X : Int) + 1), .int .i64 (2 * (X : Int)), .int .i64 0]) (by simp [results, Try.results20, go_sem]) rfl ?_
        exact ⟨rfl, rfl⟩

set_option maxHeartbeats 2000000 in
theorem refGrow_ok (l x : Int) (w : World) : Calls Try.prog 21 #[.int .i64 l, .int .i64 x] w fun e w' => e = .returned (.tuple #[.int .i64 (grA l x), .int .i64 (grX l x), .int .i64 (grC l x), .int .i64 (grE l x)]) ∧ w = w' := by
  have HC := hid fun w' : World => refLv_ok l x w'
  cases h : lvB l x with
  | false =>
    rw [show grA l x = 0 by simp [grA, h], show grX l x = 0 by simp [grX, h], show grC l x = 0 by simp [grC, h], show grE l x = 1 by simp [grE, h]]
    rw [h] at HC
    clear h
    go_enter Try.func21, Try.ntmps21
    go_wp2_with (go_at_call 26; refine (HC.out _).mono ?_; rintro e w' ⟨rfl, rfl⟩)
    refine bodyPost_ret (v := .tuple #[.int .i64 0, .int .i64 0, .int .i64 0, .int .i64 1]) (by simp [results, Try.results21, go_sem]) rfl ?_
    exact ⟨rfl, rfl⟩
  | true =>
    rw [h] at HC
    by_cases h10 : l = 10
    · subst h10
      rw [show grA 10 x = 0 by simp [grA], show grX 10 x = 0 by simp [grX], show grC 10 x = 0 by simp [grC], show grE 10 x = 4 by simp [grE, h]]
      clear h
      go_enter Try.func21, Try.ntmps21
      go_wp2_with (go_at_call 26; refine (HC.out _).mono ?_; rintro e w' ⟨rfl, rfl⟩)
      refine bodyPost_ret (v := .tuple #[.int .i64 0, .int .i64 0, .int .i64 0, .int .i64 4]) (by simp [results, Try.results21, go_sem]) rfl ?_
      exact ⟨rfl, rfl⟩
    · rw [show grC l x = 2 * x by simp [grC, h, h10], show grE l x = 0 by simp [grE, h, h10]]
      have hA : grA l x = if x + 1 = ((2 ^ l.toNat : Nat) : Int) then l + 1 else l := by simp [grA, h, h10]
      have hX' : grX l x = if x + 1 = ((2 ^ l.toNat : Nat) : Int) then 0 else x + 1 := by simp [grX, h, h10]
      rw [hA, hX']
      clear hA hX'
      obtain ⟨L, X, rfl, hL, rfl, hX⟩ := lvB_iff.1 h
      have hp := pow_10 hL
      rw [Int.toNat_natCast]
      have d1 : ((L : Int) == 10) = false := by simpa using h10
      have g4 : decide ((L : Int) < 0) = false := by simp
      have s0 : IntKind.u64.wrap (L : Int) = (L : Int) := Go.IntWalk.u64_in _ (by omega)
      have s1 : IntKind.i64.wrap ((2 : Int) ^ (min L 64)) = ((2 ^ L : Nat) : Int) := by rw [Nat.min_eq_left (by omega), int_pow]; exact Go.IntWalk.i64_in _ (by omega)
      have s2 : IntKind.i64.wrap (2 * (X : Int)) = 2 * (X : Int) := Go.IntWalk.i64_in _ (by omega)
      have s3 : IntKind.i64.wrap ((X : Int) + 1) = (X : Int) + 1 := Go.IntWalk.i64_in _ (by omega)
      have s4 : IntKind.i64.wrap ((L : Int) + 1) = (L : Int) + 1 := Go.IntWalk.i64_in _ (by omega)
      by_cases hq : (X : Int) + 1 = ((2 ^ L : Nat) : Int)
      · have d2 : ((X : Int) + 1 == ((2 ^ L : Nat) : Int)) = true := by simpa using hq
        rw [if_pos hq, if_pos hq]
        clear h hL hX hp h10 hq
        generalize 2 ^ L = P at s1 d2 ⊢
        go_enter Try.func21, Try.ntmps21
        go_wp2_with (go_at_call 26; refine (HC.out _).mono ?_; rintro e w' ⟨rfl, rfl⟩)
        refine bodyPost_ret (v := .tuple #[.int .i64 ((L : Int) + 1), .int .i64 0, .int .i64 (2 * (X : Int)), .int .i64 0]) (by simp [results, Try.results21, go_sem]) rfl ?_
        exact ⟨rfl, rfl⟩
      · have d2 : ((X : Int) + 1 == ((2 ^ L : Nat) : Int)) = false := by simpa using hq
        rw [if_neg hq, if_neg hq]
        clear h hL hX hp h10 hq s4
        generalize 2 ^ L = P at s1 d2 ⊢
        go_enter Try.func21, Try.ntmps21
        go_wp2_with (go_at_call 26; refine (HC.out _).mono ?_; rintro e w' ⟨rfl, rfl⟩)
        refine bodyPost_ret (v := .tuple #[.int .i64 (L : Int), .int .i64 ((X : Int) + 1), .int .i64 (2 * (X : Int)), .int .i64 0]) (by simp [results, Try.results21, go_sem]) rfl ?_
        exact ⟨rfl, rfl⟩

set_option maxHeartbeats 2000000 in
theorem shrink_ok (l x : Int) (w : World) : Calls Try.prog 22 #[.int .i64 l, .int .i64 x] w fun e w' => e = .returned (.tuple #[.int .i64 (shA l x), .int .i64 (shX l x), .int .i64 (shC l x), .int .i64 (shE l x)]) ∧ w = w' := by
  have HC := hid fun w' : World => lvB_ok l x w'
  cases h : lvB l x with
  | false =>
    have hs : shB l x = false := by unfold shB; rw [h]; rfl
    rw [show shC l x = 0 by simp [shC, shX, hs], show shA l x = 0 by simp [shA, hs], show shX l x = 0 by simp [shX, hs], show shE l x = 1 by simp [shE, hs]]
    rw [h] at HC
    clear h hs
    go_enter Try.func22, Try.ntmps22
    go_wp2_with (go_at_call 25; refine (HC.out _).mono ?_; rintro e w' ⟨rfl, rfl⟩)
    refine bodyPost_ret (v := .tuple #[.int .i64 0, .int .i64 0, .int .i64 0, .int .i64 1]) (by simp [results, Try.results22, go_sem]) rfl ?_
    exact ⟨rfl, rfl⟩
  | true =>
    rw [h] at HC
    by_cases h10 : l = 0
    · subst h10
      have hs : shB 0 x = false := by unfold shB; simp
      rw [show shC 0 x = 0 by simp [shC, shX, hs], show shA 0 x = 0 by simp [shA, hs], show shX 0 x = 0 by simp [shX, hs], show shE 0 x = 1 by simp [shE, hs]]
      clear h hs
      go_enter Try.func22, Try.ntmps22
      go_wp2_with (go_at_call 25; refine (HC.out _).mono ?_; rintro e w' ⟨rfl, rfl⟩)
      refine bodyPost_ret (v := .tuple #[.int .i64 0, .int .i64 0, .int .i64 0, .int .i64 1]) (by simp [results, Try.results22, go_sem]) rfl ?_
      exact ⟨rfl, rfl⟩
    · have hs : shB l x = true := by unfold shB; rw [h]; simpa using h10
      have hA : shA l x = if x = 0 then l - 1 else l := by simp [shA, hs]
      have hX' : shX l x = if x = 0 then ((2 ^ (l - 1).toNat : Nat) : Int) - 1 else x - 1 := by simp [shX, hs]
      rw [show shC l x = 2 * shX l x from rfl, hA, hX', show shE l x = 0 by simp [shE, hs]]
      clear hA hX' hs
      obtain ⟨L, X, rfl, hL, rfl, hX⟩ := lvB_iff.1 h
      obtain ⟨M, rfl⟩ : ∃ M, L = M + 1 := ⟨L - 1, by omega⟩
      have hp := pow_10 (show M ≤ 10 by omega)
      have hpp : 2 ^ (M + 1) = 2 * 2 ^ M := by rw [Nat.pow_succ]; omega
      rw [show (((M + 1 : Nat) : Int) - 1).toNat = M by omega, show ((M + 1 : Nat) : Int) - 1 = (M : Int) by omega]
      have d1 : (((M + 1 : Nat) : Int) == 0) = false := by simpa using h10
      generalize hl : ((M + 1 : Nat) : Int) = LL at HC d1 ⊢
      have s5 : IntKind.i64.wrap (LL - 1) = (M : Int) := by rw [← hl, show ((M + 1 : Nat) : Int) - 1 = (M : Int) by omega]; exact Go.IntWalk.i64_in _ (by omega)
      by_cases hq : (X : Int) = 0
      · rw [if_pos hq, if_pos hq]
        have d2 : ((X : Int) == 0) = true := by simpa using hq
        have g4 : decide ((M : Int) < 0) = false := by simp
        have s0 : IntKind.u64.wrap (M : Int) = (M : Int) := Go.IntWalk.u64_in _ (by omega)
        have s1 : IntKind.i64.wrap ((2 : Int) ^ (min M 64)) = ((2 ^ M : Nat) : Int) := by rw [Nat.min_eq_left (by omega), int_pow]; exact Go.IntWalk.i64_in _ (by omega)
        have s2 : IntKind.i64.wrap (((2 ^ M : Nat) : Int) - 1) = ((2 ^ M : Nat) : Int) - 1 := Go.IntWalk.i64_in _ (by omega)
        have s3 : IntKind.i64.wrap (2 * (((2 ^ M : Nat) : Int) - 1)) = 2 * (((2 ^ M : Nat) : Int) - 1) := Go.IntWalk.i64_in _ (by omega)
        clear h hL hX hp hpp h10 hq hl s0
        generalize 2 ^ M = P at s1 s2 s3 ⊢
        go_enter Try.func22, Try.ntmps22
        go_wp2_with (go_at_call 25; refine (HC.out _).mono ?_; rintro e w' ⟨rfl, rfl⟩)
        refine bodyPost_ret (v := .tuple #[.int .i64 (M : Int), .int .i64 ((P : Int) - 1), .int .i64 (2 * ((P : Int) - 1)), .int .i64 0]) (by simp [results, Try.results22, go_sem]) rfl ?_
        exact ⟨rfl, rfl⟩
      · rw [if_neg hq, if_neg hq]
        have d2 : ((X : Int) == 0) = false := by simpa using hq
        have s2 : IntKind.i64.wrap ((X : Int) - 1) = (X : Int) - 1 := Go.IntWalk.i64_in _ (by omega)
        have s3 : IntKind.i64.wrap (2 * ((X : Int) - 1)) = 2 * ((X : Int) - 1) := Go.IntWalk.i64_in _ (by omega)
        clear h hL hX hp hpp h10 hq hl s5
        go_enter Try.func22, Try.ntmps22
        go_wp2_with (go_at_call 25; refine (HC.out _).mono ?_; rintro e w' ⟨rfl, rfl⟩)
        refine bodyPost_ret (v := .tuple #[.int .i64 LL, .int .i64 ((X : Int) - 1), .int .i64 (2 * ((X : Int) - 1)), .int .i64 0]) (by simp [results, Try.results22, go_sem]) rfl ?_
        exact ⟨rfl, rfl⟩

set_option maxHeartbeats 2000000 in
theorem refShrink_ok (l x : Int) (w : World) : Calls Try.prog 23 #[.int .i64 l, .int .i64 x] w fun e w' => e = .returned (.tuple #[.int .i64 (shA l x), .int .i64 (shX l x), .int .i64 (shC l x), .int .i64 (shE l x)]) ∧ w = w' := by
  have HC := hid fun w' : World => refLv_ok l x w'
  cases h : lvB l x with
  | false =>
    have hs : shB l x = false := by unfold shB; rw [h]; rfl
    rw [show shC l x = 0 by simp [shC, shX, hs], show shA l x = 0 by simp [shA, hs], show shX l x = 0 by simp [shX, hs], show shE l x = 1 by simp [shE, hs]]
    rw [h] at HC
    clear h hs
    go_enter Try.func23, Try.ntmps23
    go_wp2_with (go_at_call 26; refine (HC.out _).mono ?_; rintro e w' ⟨rfl, rfl⟩)
    refine bodyPost_ret (v := .tuple #[.int .i64 0, .int .i64 0, .int .i64 0, .int .i64 1]) (by simp [results, Try.results23, go_sem]) rfl ?_
    exact ⟨rfl, rfl⟩
  | true =>
    rw [h] at HC
    by_cases h10 : l = 0
    · subst h10
      have hs : shB 0 x = false := by unfold shB; simp
      rw [show shC 0 x = 0 by simp [shC, shX, hs], show shA 0 x = 0 by simp [shA, hs], show shX 0 x = 0 by simp [shX, hs], show shE 0 x = 1 by simp [shE, hs]]
      clear h hs
      go_enter Try.func23, Try.ntmps23
      go_wp2_with (go_at_call 26; refine (HC.out _).mono ?_; rintro e w' ⟨rfl, rfl⟩)
      refine bodyPost_ret (v := .tuple #[.int .i64 0, .int .i64 0, .int .i64 0, .int .i64 1]) (by simp [results, Try.results23, go_sem]) rfl ?_
      exact ⟨rfl, rfl⟩
    · have hs : shB l x = true := by unfold shB; rw [h]; simpa using h10
      have hA : shA l x = if x = 0 then l - 1 else l := by simp [shA, hs]
      have hX' : shX l x = if x = 0 then ((2 ^ (l - 1).toNat : Nat) : Int) - 1 else x - 1 := by simp [shX, hs]
      rw [show shC l x = 2 * shX l x from rfl, hA, hX', show shE l x = 0 by simp [shE, hs]]
      clear hA hX' hs
      obtain ⟨L, X, rfl, hL, rfl, hX⟩ := lvB_iff.1 h
      obtain ⟨M, rfl⟩ : ∃ M, L = M + 1 := ⟨L - 1, by omega⟩
      have hp := pow_10 (show M ≤ 10 by omega)
      have hpp : 2 ^ (M + 1) = 2 * 2 ^ M := by rw [Nat.pow_succ]; omega
      rw [show (((M + 1 : Nat) : Int) - 1).toNat = M by omega, show ((M + 1 : Nat) : Int) - 1 = (M : Int) by omega]
      have d1 : (((M + 1 : Nat) : Int) == 0) = false := by simpa using h10
      generalize hl : ((M + 1 : Nat) : Int) = LL at HC d1 ⊢
      have s5 : IntKind.i64.wrap (LL - 1) = (M : Int) := by rw [← hl, show ((M + 1 : Nat) : Int) - 1 = (M : Int) by omega]; exact Go.IntWalk.i64_in _ (by omega)
      by_cases hq : (X : Int) = 0
      · rw [if_pos hq, if_pos hq]
        have d2 : ((X : Int) == 0) = true := by simpa using hq
        have g4 : decide ((M : Int) < 0) = false := by simp
        have s0 : IntKind.u64.wrap (M : Int) = (M : Int) := Go.IntWalk.u64_in _ (by omega)
        have s1 : IntKind.i64.wrap ((2 : Int) ^ (min M 64)) = ((2 ^ M : Nat) : Int) := by rw [Nat.min_eq_left (by omega), int_pow]; exact Go.IntWalk.i64_in _ (by omega)
        have s2 : IntKind.i64.wrap (((2 ^ M : Nat) : Int) - 1) = ((2 ^ M : Nat) : Int) - 1 := Go.IntWalk.i64_in _ (by omega)
        have s3 : IntKind.i64.wrap (2 * (((2 ^ M : Nat) : Int) - 1)) = 2 * (((2 ^ M : Nat) : Int) - 1) := Go.IntWalk.i64_in _ (by omega)
        clear h hL hX hp hpp h10 hq hl
        generalize 2 ^ M = P at s1 s2 s3 ⊢
        go_enter Try.func23, Try.ntmps23
        go_wp2_with (go_at_call 26; refine (HC.out _).mono ?_; rintro e w' ⟨rfl, rfl⟩)
        refine bodyPost_ret (v := .tuple #[.int .i64 (M : Int), .int .i64 ((P : Int) - 1), .int .i64 (2 * ((P : Int) - 1)), .int .i64 0]) (by simp [results, Try.results23, go_sem]) rfl ?_
        exact ⟨rfl, rfl⟩
      · rw [if_neg hq, if_neg hq]
        have d2 : ((X : Int) == 0) = false := by simpa using hq
        have s2 : IntKind.i64.wrap ((X : Int) - 1) = (X : Int) - 1 := Go.IntWalk.i64_in _ (by omega)
        have s3 : IntKind.i64.wrap (2 * ((X : Int) - 1)) = 2 * ((X : Int) - 1) := Go.IntWalk.i64_in _ (by omega)
        clear h hL hX hp hpp h10 hq hl s5
        go_enter Try.func23, Try.ntmps23
        go_wp2_with (go_at_call 26; refine (HC.out _).mono ?_; rintro e w' ⟨rfl, rfl⟩)
        refine bodyPost_ret (v := .tuple #[.int .i64 LL, .int .i64 ((X : Int) - 1), .int .i64 (2 * ((X : Int) - 1)), .int .i64 0]) (by simp [results, Try.results23, go_sem]) rfl ?_
        exact ⟨rfl, rfl⟩

end Go.Proofs.Ytalohakibpjmmaa.Ln
