/- Small calls of excell and of its reference: may, has, is, Find, Buddy. -/
import Derived.Test.YtalohakibpjmmaaKyBits
namespace Go.Proofs.Ytalohakibpjmmaa.Ex
open Go.RowKit
open Go.Lib (hid)
open Go.Proofs.Ytalohakibpjmmaa.Ky

def mayD (d : Int) : Bool := decide (0 ≤ d) && decide (d ≤ 12)
/-- an address of a depth -/
def hasA (d a : Int) : Bool := mayD d && (decide (0 ≤ a) && decide (a < 2 ^ d.toNat))
theorem mayD_iff {d : Int} : mayD d = true ↔ ∃ D : Nat, d = (D : Int) ∧ D ≤ 12 := by
  unfold mayD
  simp only [Bool.and_eq_true, decide_eq_true_eq]
  exact ⟨fun h => ⟨d.toNat, by omega, by omega⟩, fun ⟨D, h1, h2⟩ => by omega⟩
theorem hasA_iff {d a : Int} : hasA d a = true ↔ ∃ D A : Nat, d = (D : Int) ∧ D ≤ 12 ∧ a = (A : Int) ∧ A < 2 ^ D := by
  unfold hasA
  rw [Bool.and_eq_true, mayD_iff, Bool.and_eq_true, decide_eq_true_eq, decide_eq_true_eq]
  constructor
  · rintro ⟨⟨D, rfl, h⟩, h0, h1⟩
    rw [Int.toNat_natCast] at h1
    have : ((2 : Int) ^ D) = ((2 ^ D : Nat) : Int) := by simp
    exact ⟨D, a.toNat, rfl, h, by omega, by omega⟩
  · rintro ⟨D, A, rfl, h, rfl, h1⟩
    refine ⟨⟨D, rfl, h⟩, by omega, ?_⟩
    have : ((2 : Int) ^ D) = ((2 ^ D : Nat) : Int) := by simp
    rw [Int.toNat_natCast]; omega
theorem pow_12 {D : Nat} (h : D ≤ 12) : 2 ^ D ≤ 4096 ∧ 1 ≤ 2 ^ D := ⟨Nat.le_trans (Nat.pow_le_pow_right (by omega) h) (by decide), Nat.one_le_two_pow⟩
set_option maxHeartbeats 400000 in
theorem mayD_ok (d : Int) (w : World) : Calls Try.prog 38 #[.int .i64 d] w fun e w' => e = .returned (.bool (mayD d)) ∧ w = w' := by
  by_cases h : 0 ≤ d
  · have e : mayD d = decide (d ≤ 12) := by simp [mayD, h]
    rw [e]
    have h1 : decide (0 ≤ d) = true := by simpa using h
    clear e h
    go_enter Try.func38, Try.ntmps38
    go_wp2_with fail
    go_ret
    exact ⟨rfl, rfl⟩
  · have e : mayD d = false := by simp [mayD, h]
    have h1 : decide (0 ≤ d) = false := by simpa using h
    rw [e]
    clear e h
    go_enter Try.func38, Try.ntmps38
    go_wp2_with fail
    go_ret
    exact ⟨rfl, rfl⟩
set_option maxHeartbeats 1000000 in
theorem hasA_ok (d a : Int) (w : World) : Calls Try.prog 41 #[.int .i64 d, .int .i64 a] w fun e w' => e = .returned (.bool (hasA d a)) ∧ w = w' := by
  have HC := hid fun w' : World => mayD_ok d w'
  cases hm : mayD d with
  | false =>
    rw [hm] at HC
    have e : hasA d a = false := by simp [hasA, hm]
    rw [e]
    clear e hm
    go_enter Try.func41, Try.ntmps41
    go_wp2_with (go_at_call 38; refine (HC.out _).mono ?_; rintro e w' ⟨rfl, rfl⟩)
    go_ret
    exact ⟨rfl, rfl⟩
  | true =>
    rw [hm] at HC
    by_cases h0 : 0 ≤ a
    · have h1 : decide (0 ≤ a) = true := by simpa using h0
      obtain ⟨D, rfl, hD⟩ := mayD_iff.1 hm
      have e : hasA (D : Int) a = decide (a < ((2 ^ D : Nat) : Int)) := by simp [hasA, hm, h0]
      rw [e]
      have hp := pow_12 hD
      have g4 : decide ((D : Int) < 0) = false := by simp
      have s1 : IntKind.i64.wrap ((2 : Int) ^ D) = ((2 ^ D : Nat) : Int) := by
        have : ((2 : Int) ^ D) = ((2 ^ D : Nat) : Int) := by simp
        rw [this]; exact Go.IntWalk.i64_in _ (by omega)
      clear e hm h0
      go_enter Try.func41, Try.ntmps41
      go_wp2_with (go_at_call 38; refine (HC.out _).mono ?_; rintro e w' ⟨rfl, rfl⟩)
      go_ret
      exact ⟨rfl, rfl⟩
    · have h1 : decide (0 ≤ a) = false := by simpa using h0
      have e : hasA d a = false := by simp [hasA, h0]
      rw [e]
      clear e hm h0
      go_enter Try.func41, Try.ntmps41
      go_wp2_with (go_at_call 38; refine (HC.out _).mono ?_; rintro e w' ⟨rfl, rfl⟩)
      go_ret
      exact ⟨rfl, rfl⟩
set_option maxHeartbeats 1000000 in
theorem refIs_ok (d a : Int) (w : World) : Calls Try.prog 44 #[.int .i64 d, .int .i64 a] w fun e w' => e = .returned (.bool (hasA d a)) ∧ w = w' := by
  by_cases h : 0 ≤ d
  · have h1 : decide (0 ≤ d) = true := by simpa using h
    by_cases h' : d ≤ 12
    · have h2 : decide (d ≤ 12) = true := by simpa using h'
      have hm : mayD d = true := by simp [mayD, h, h']
      by_cases h0 : 0 ≤ a
      · have h3 : decide (0 ≤ a) = true := by simpa using h0
        obtain ⟨D, rfl, hD⟩ := mayD_iff.1 hm
        have e : hasA (D : Int) a = decide (a < ((2 ^ D : Nat) : Int)) := by simp [hasA, hm, h0]
        rw [e]
        have hp := pow_12 hD
        have s0 : IntKind.u64.wrap (D : Int) = (D : Int) := Go.IntWalk.u64_in _ (by omega)
        have g4 : decide ((D : Int) < 0) = false := by simp
        have s1 : IntKind.i64.wrap ((2 : Int) ^ D) = ((2 ^ D : Nat) : Int) := by
          have : ((2 : Int) ^ D) = ((2 ^ D : Nat) : Int) := by simp
          rw [this]; exact Go.IntWalk.i64_in _ (by omega)
        clear e hm h0 h h'
        go_enter Try.func44, Try.ntmps44
        go_wp2_with fail
        go_ret
        exact ⟨rfl, rfl⟩
      · have h3 : decide (0 ≤ a) = false := by simpa using h0
        have e : hasA d a = false := by simp [hasA, h0]
        rw [e]
        clear e hm h0 h h'
        go_enter Try.func44, Try.ntmps44
        go_wp2_with fail
        go_ret
        exact ⟨rfl, rfl⟩
    · have h2 : decide (d ≤ 12) = false := by simpa using h'
      have e : hasA d a = false := by simp [hasA, mayD, h']
      rw [e]
      clear e h h'
      go_enter Try.func44, Try.ntmps44
      go_wp2_with fail
      go_ret
      exact ⟨rfl, rfl⟩
  · have h1 : decide (0 ≤ d) = false := by simpa using h
    have e : hasA d a = false := by simp [hasA, mayD, h]
    rw [e]
    clear e h
    go_enter Try.func44, Try.ntmps44
    go_wp2_with fail
    go_ret
    exact ⟨rfl, rfl⟩
/-- has a point an address of so many bits? -/
def findB (k : List Nat) (d : Int) : Bool := mayD d && mayN k.length
def findV (k : List Nat) (d : Int) : Int := if findB k d then (bitsK k d.toNat : Nat) else 0
theorem find_bits {k : List Nat} {d : Int} (h : mayD d = true) : bitsOk k.length d = findB k d ∧ bitsV k d = findV k d := by
  have e : bitsOk k.length d = findB k d := by
    unfold bitsOk findB
    rw [h, Bool.true_and]
    obtain ⟨D, rfl, hD⟩ := mayD_iff.1 h
    cases mayN k.length <;> simp; omega
  refine ⟨e, ?_⟩
  unfold bitsV findV
  rw [e]
set_option maxHeartbeats 1000000 in
theorem find_okE (k : List Nat) (p : Option Addr) (c : Nat) (d : Int) (w : World) (hp : Pt w p k) (hl : k.length ≤ 1000000) :
    Calls Try.prog 27 #[.slice p k.length c, .int .i64 d] w fun e w' => e = .returned (.tuple #[.int .i64 (findV k d), .int .i64 (err (findB k d))]) ∧ ∃ m, w' = w.drewN m := by
  have HC := hid fun w' : World => mayD_ok d w'
  cases hm : mayD d with
  | false =>
    rw [hm] at HC
    have e1 : findB k d = false := by simp [findB, hm]
    have e2 : findV k d = 0 := by simp [findV, e1]
    rw [e1, e2, err_false false rfl]
    clear e1 e2 hm hp
    go_enter Try.func27, Try.ntmps27
    go_wp2_with (go_at_call 38; refine (HC.out _).mono ?_; rintro e w' ⟨rfl, rfl⟩)
    go_ret2
    exact ⟨rfl, 0, rfl⟩
  | true =>
    rw [hm] at HC
    obtain ⟨e1, e2⟩ := find_bits (k := k) hm
    have HB := hid (bits_ok k p c d w hp hl)
    rw [e1, e2] at HB
    clear e1 e2 hm hp
    go_enter Try.func27, Try.ntmps27
    go_wp2_with fail
    refine (HC.out _).mono ?_
    rintro e w' ⟨rfl, rfl⟩
    go_wp2_with fail
    refine HB.out.mono ?_
    rintro e w2 ⟨rfl, m, rfl⟩
    go_wp2_with fail
    go_ret2
    exact ⟨rfl, m, rfl⟩
set_option maxHeartbeats 1000000 in
theorem refFind_okE (k : List Nat) (p : Option Addr) (c : Nat) (d : Int) (w : World) (hp : Pt w p k) (hl : k.length ≤ 1000000) :
    Calls Try.prog 30 #[.slice p k.length c, .int .i64 d] w fun e w' => e = .returned (.tuple #[.int .i64 (findV k d), .int .i64 (err (findB k d))]) ∧ ∃ m, w' = w.drewN m := by
  have HC := hid fun w' : World => refCheck_ok p k.length c (k.length : Int) w'
  cases hn : mayN k.length with
  | false =>
    rw [show checkB k.length (k.length : Int) = false by unfold checkB; rw [mayB_nat, hn]; rfl, err_false false rfl] at HC
    have e1 : findB k d = false := by simp [findB, hn]
    have e2 : findV k d = 0 := by simp [findV, e1]
    rw [e1, e2, err_false false rfl]
    clear e1 e2 hn hp
    go_enter Try.func30, Try.ntmps30
    go_wp2_with fail
    refine (HC.out _).mono ?_
    rintro e w' ⟨rfl, rfl⟩
    go_wp2_with fail
    go_ret2
    exact ⟨rfl, 0, rfl⟩
  | true =>
    rw [show checkB k.length (k.length : Int) = true by unfold checkB; rw [mayB_nat, hn]; simp, err_true true rfl] at HC
    by_cases h : 0 ≤ d
    · have h1 : decide (d < 0) = false := by simpa using h
      by_cases h' : d ≤ 12
      · have h2 : decide (12 < d) = false := by simpa using h'
        have hm : mayD d = true := by simp [mayD, h, h']
        obtain ⟨e1, e2⟩ := find_bits (k := k) hm
        have HB := hid (refBits_ok k p c d w hp hl)
        rw [e1, e2] at HB
        clear e1 e2 hm hp hn h h'
        go_enter Try.func30, Try.ntmps30
        go_wp2_with fail
        refine (HC.out _).mono ?_
        rintro e w' ⟨rfl, rfl⟩
        go_wp2_with fail
        refine HB.out.mono ?_
        rintro e w2 ⟨rfl, m, rfl⟩
        go_wp2_with fail
        go_ret2
        exact ⟨rfl, m, rfl⟩
      · have h2 : decide (12 < d) = true := by simp; omega
        have e1 : findB k d = false := by simp [findB, mayD, h']
        have e2 : findV k d = 0 := by simp [findV, e1]
        rw [e1, e2, err_false false rfl]
        clear e1 e2 hn hp h h'
        go_enter Try.func30, Try.ntmps30
        go_wp2_with fail
        refine (HC.out _).mono ?_
        rintro e w' ⟨rfl, rfl⟩
        go_wp2_with fail
        go_ret2
        exact ⟨rfl, 0, rfl⟩
    · have h1 : decide (d < 0) = true := by simp; omega
      have e1 : findB k d = false := by simp [findB, mayD, h]
      have e2 : findV k d = 0 := by simp [findV, e1]
      rw [e1, e2, err_false false rfl]
      clear e1 e2 hn hp h
      go_enter Try.func30, Try.ntmps30
      go_wp2_with fail
      refine (HC.out _).mono ?_
      rintro e w' ⟨rfl, rfl⟩
      go_wp2_with fail
      go_ret2
      exact ⟨rfl, 0, rfl⟩
/-- the number beside one -/
def flip1 (x : Nat) : Nat := if x % 2 = 1 then x - 1 else x + 1
def buddyB (d a b : Int) : Bool := hasA d a && (decide (1 ≤ b) && decide (b ≤ d))
def buddyN (D A B : Nat) : Nat := flip1 (A / 2 ^ (D - B)) * 2 ^ (D - B)
def buddyV (d a b : Int) : Int := if buddyB d a b then (buddyN d.toNat a.toNat b.toNat : Nat) else 0
theorem xor_one (x : Nat) : x ^^^ 1 = flip1 x := by
  have h1 : (x ^^^ 1) / 2 = x / 2 ^^^ 1 / 2 := Nat.xor_div_two
  have h2 : (x ^^^ 1) % 2 = 1 ↔ ¬ (x % 2 = 1 ↔ 1 % 2 = 1) := Nat.xor_mod_two_eq_one
  rw [show 1 / 2 = 0 from rfl, Nat.xor_zero] at h1
  unfold flip1
  split <;> omega
theorem bits_xor_one (x : Nat) (h : x < 1000000) : bits .xor .i64 (x : Int) 1 = (flip1 x : Nat) := by
  have hf : flip1 x < 9223372036854775808 := by unfold flip1; split <;> omega
  have e : (BitVec.ofInt IntKind.i64.bits (x : Int) ^^^ BitVec.ofInt IntKind.i64.bits 1).toNat = flip1 x := by
    rw [← xor_one]
    change (BitVec.ofInt 64 (x : Int) ^^^ BitVec.ofInt 64 1).toNat = _
    rw [BitVec.toNat_xor, BitVec.toNat_ofInt, BitVec.toNat_ofInt]
    have e1 : ((x : Int) % ((2 ^ 64 : Nat) : Int)).toNat = x := by omega
    have e2 : ((1 : Int) % ((2 ^ 64 : Nat) : Int)).toNat = 1 := by decide
    rw [e1, e2]
  show IntKind.i64.wrap _ = _
  rw [e]
  exact Go.IntWalk.i64_in _ (by omega)
theorem flip_lt {D A B : Nat} (hA : A < 2 ^ D) (h1 : 1 ≤ B) (h2 : B ≤ D) : A / 2 ^ (D - B) < 2 ^ B ∧ flip1 (A / 2 ^ (D - B)) < 2 ^ B ∧ buddyN D A B < 2 ^ D := by
  have e : 2 ^ D = 2 ^ B * 2 ^ (D - B) := by rw [← Nat.pow_add]; congr 1; omega
  have hp := Nat.two_pow_pos (D - B)
  have a1 : A / 2 ^ (D - B) < 2 ^ B := by rw [Nat.div_lt_iff_lt_mul hp, ← e]; exact hA
  have hB : 2 ^ B = 2 * 2 ^ (B - 1) := by
    obtain ⟨b, rfl⟩ : ∃ b, B = b + 1 := ⟨B - 1, by omega⟩
    rw [Nat.pow_succ', Nat.add_sub_cancel]
  have a2 : flip1 (A / 2 ^ (D - B)) < 2 ^ B := by
    rw [hB] at a1 ⊢
    generalize 2 ^ (B - 1) = g at a1 ⊢
    generalize A / 2 ^ (D - B) = q at a1 ⊢
    unfold flip1; split <;> omega
  refine ⟨a1, a2, ?_⟩
  unfold buddyN
  rw [e]
  exact Nat.mul_lt_mul_of_pos_right a2 hp
theorem buddy_yes {d a b : Int} (h : buddyB d a b = true) : ∃ D A B : Nat, d = (D : Int) ∧ a = (A : Int) ∧ b = (B : Int) ∧ D ≤ 12 ∧ A < 2 ^ D ∧ 1 ≤ B ∧ B ≤ D := by
  unfold buddyB at h
  simp only [Bool.and_eq_true, decide_eq_true_eq] at h
  obtain ⟨D, A, rfl, hD, rfl, hA⟩ := hasA_iff.1 h.1
  exact ⟨D, A, b.toNat, rfl, rfl, by omega, hD, hA, by omega, by omega⟩
end Go.Proofs.Ytalohakibpjmmaa.Ex
