/- Find and Box of linear; cell and Find of the reference. -/
import Derived.Test.YtalohakibpjmmaaLnSmall
import Derived.Test.YtalohakibpjmmaaLnAny
namespace Go.Proofs.Ytalohakibpjmmaa.Ln
open Go.RowKit
open Go.Lib (hid)
open Go.Proofs.Ytalohakibpjmmaa.Ky
open Go.Proofs.Ytalohakibpjmmaa.Ex

/-- has a point a chain? -/
def fB (k : List Nat) (l x : Int) : Bool := lvB l x && mayN k.length
def fV (k : List Nat) (l x : Int) : Int := if fB k l x then (fnd k l.toNat x.toNat : Nat) else 0
set_option maxHeartbeats 2000000 in
theorem findL_ok (k : List Nat) (p : Option Addr) (c : Nat) (l x : Int) (w : World) (hp : Pt w p k) (hl : k.length ≤ 1000000) :
    Calls Try.prog 12 #[.slice p k.length c, .int .i64 l, .int .i64 x] w fun e w' => e = .returned (.tuple #[.int .i64 (fV k l x), .int .i64 (err (fB k l x))]) ∧ ∃ m, w' = w.drewN m := by
  have HC := hid fun w' : World => lvB_ok l x w'
  cases h : lvB l x with
  | false =>
    rw [show fB k l x = false by unfold fB; rw [h]; rfl, show fV k l x = 0 by unfold fV fB; rw [h]; rfl, err_false false rfl]
    rw [h] at HC
    clear h hp
    go_enter Try.func12, Try.ntmps12
    go_wp2_with (go_at_call 25; refine (HC.out _).mono ?_; rintro e w' ⟨rfl, rfl⟩)
    go_ret2
    exact ⟨rfl, 0, rfl⟩
  | true =>
    rw [h] at HC
    obtain ⟨L, X, rfl, hL, rfl, hX⟩ := lvB_iff.1 h
    have HF := hid (find_okE k p c (L : Int) w hp hl)
    have HG := hid fun m => find_okE k p c ((L + 1 : Nat) : Int) (w.drewN m) (hp.drewN m) hl
    have hm1 : mayD (L : Int) = true := mayD_iff.2 ⟨L, rfl, by omega⟩
    have hm2 : mayD ((L + 1 : Nat) : Int) = true := mayD_iff.2 ⟨L + 1, rfl, by omega⟩
    cases hn : mayN k.length with
    | false =>
      rw [show findB k (L : Int) = false by unfold findB; rw [hn, Bool.and_false], show findV k (L : Int) = 0 by unfold findV findB; rw [hn, Bool.and_false]; rfl, err_false false rfl] at HF
      rw [show fB k (L : Int) (X : Int) = false by unfold fB; rw [hn, Bool.and_false], show fV k (L : Int) (X : Int) = 0 by unfold fV fB; rw [hn, Bool.and_false]; rfl, err_false false rfl]
      clear h hp hL hX hm1 hm2 hn HG
      go_enter Try.func12, Try.ntmps12
      go_wp2_with fail
      refine (HC.out _).mono ?_
      rintro e w' ⟨rfl, rfl⟩
      go_wp2_with fail
      refine HF.out.mono ?_
      rintro e w' ⟨rfl, m, rfl⟩
      go_wp2_with fail
      go_ret2
      exact ⟨rfl, m, rfl⟩
    | true =>
      have hb1 : findB k (L : Int) = true := by unfold findB; rw [hm1, hn]; rfl
      have hb2 : findB k ((L + 1 : Nat) : Int) = true := by unfold findB; rw [hm2, hn]; rfl
      have hb3 : fB k (L : Int) (X : Int) = true := by unfold fB; rw [h, hn]; rfl
      rw [hb1, show findV k (L : Int) = (bitsK k L : Nat) by unfold findV; rw [hb1, if_pos rfl, Int.toNat_natCast], err_true true rfl] at HF
      rw [hb2, show findV k ((L + 1 : Nat) : Int) = (bitsK k (L + 1) : Nat) by unfold findV; rw [hb2, if_pos rfl, Int.toNat_natCast], err_true true rfl] at HG
      rw [hb3, show fV k (L : Int) (X : Int) = (fnd k L X : Nat) by unfold fV; rw [hb3, if_pos rfl, Int.toNat_natCast, Int.toNat_natCast], err_true true rfl]
      have hlt := bits_lt k L
      have hp10 := pow_10 hL
      by_cases hq : bitsK k L < X
      · rw [show fnd k L X = bitsK k (L + 1) by unfold fnd; rw [if_pos hq]]
        have d1 : decide (((bitsK k L : Nat) : Int) < (X : Int)) = true := by simpa using hq
        have d1' : decide (bitsK k L < X) = true := by simpa using hq
        have s1 : IntKind.i64.wrap ((L : Int) + 1) = ((L + 1 : Nat) : Int) := Go.IntWalk.i64_in _ (by omega)
        generalize bitsK k (L + 1) = b2 at HG ⊢
        generalize bitsK k L = b1 at HF d1 d1'
        generalize hLL : ((L + 1 : Nat) : Int) = L1 at HG s1
        clear h hp hL hX hm1 hm2 hn hb1 hb2 hb3 hlt hp10 hq hLL
        go_enter Try.func12, Try.ntmps12
        go_wp2_with fail
        refine (HC.out _).mono ?_
        rintro e w' ⟨rfl, rfl⟩
        go_wp2_with fail
        refine HF.out.mono ?_
        rintro e w' ⟨rfl, m, rfl⟩
        go_wp2_with fail
        refine (HG.out m).mono ?_
        rintro e w' ⟨rfl, m2, rfl⟩
        go_wp2_with fail
        go_ret2
        exact ⟨rfl, m + m2, rfl⟩
      · rw [show fnd k L X = bitsK k L + X by unfold fnd; rw [if_neg hq]]
        have d1 : decide (((bitsK k L : Nat) : Int) < (X : Int)) = false := by simpa using hq
        have d1' : decide (bitsK k L < X) = false := by simpa using hq
        have s1 : IntKind.i64.wrap (((bitsK k L : Nat) : Int) + (X : Int)) = ((bitsK k L + X : Nat) : Int) := by rw [show ((bitsK k L : Nat) : Int) + (X : Int) = ((bitsK k L + X : Nat) : Int) by omega]; exact Go.IntWalk.i64_in _ (by omega)
        generalize hbb : ((bitsK k L + X : Nat) : Int) = b2 at s1 ⊢
        generalize bitsK k L = b1 at HF d1 d1' s1
        clear h hp hL hX hm1 hm2 hn hb1 hb2 hb3 hlt hp10 hq hbb HG
        go_enter Try.func12, Try.ntmps12
        go_wp2_with fail
        refine (HC.out _).mono ?_
        rintro e w' ⟨rfl, rfl⟩
        go_wp2_with fail
        refine HF.out.mono ?_
        rintro e w' ⟨rfl, m, rfl⟩
        go_wp2_with fail
        go_ret2
        exact ⟨rfl, m, rfl⟩
def CellR (X c P : Nat) (w : World) (s8 s9 : Value) (wr : World) : Prop := ∃ a : Nat, s9 = .int .i64 (a : Int) ∧ s8 = .int .i64 (upC X a : Nat) ∧ upC X a ≤ c ∧ a ≤ P ∧ w = wr
set_option maxRecDepth 100000 in
set_option maxHeartbeats 4000000 in
theorem cellL_ok {L X c : Nat} (hL : L ≤ 10) (hX : X < 2 ^ L) (hc : c < 2 ^ L + X) (w : World) :
    Calls Try.prog 29 #[.int .i64 (L : Int), .int .i64 (X : Int), .int .i64 (c : Int)] w fun e w' => e = .returned (.tuple #[.int .i64 (dep L X c : Nat), .int .i64 (adr X c : Nat)]) ∧ w = w' := by
  have hp10 := pow_10 hL
  obtain ⟨P, hP⟩ : ∃ P, 2 ^ L = P := ⟨_, rfl⟩
  have s0 : IntKind.u64.wrap (L : Int) = (L : Int) := Go.IntWalk.u64_in _ (by omega)
  have g4 : decide ((L : Int) < 0) = false := by simp
  have s1 : IntKind.i64.wrap ((2 : Int) ^ (min L 64)) = (P : Int) := by rw [Nat.min_eq_left (by omega), int_pow, hP]; exact Go.IntWalk.i64_in _ (by omega)
  rw [hP] at hX hc hp10
  have HX := hid hX; have HC := hid hc; have HP := hid hp10; have HL := hid hL
  obtain ⟨D, hD⟩ : ∃ D, dep L X c = D := ⟨_, rfl⟩
  obtain ⟨A, hA⟩ : ∃ A, adr X c = A := ⟨_, rfl⟩
  have HD := hid hD; have HA := hid hA
  rw [hD, hA]
  clear hX hc hp10 hP hL hD hA
  go_enter Try.func29, Try.ntmps29
  go_wp2_with fail
  go_loopw [8, 9] (fun s8 s9 wr => CellR X c P w s8 s9 wr) (fun _ s9 _ => P - (intOf s9).toNat)
  case atStart => exact ⟨0, rfl, by simp [upC], by simp [upC], by omega, rfl⟩
  case round =>
    obtain ⟨a, rfl, rfl, hn, ha, rfl⟩ := hrel
    have hX := HX.out; have hc := HC.out; have hp := HP.out; have hl := HL.out
    have hlt : a < P := by
      by_cases h : a = P
      · subst h; unfold upC at hn; rw [if_neg (by omega)] at hn; omega
      · omega
    have d0 : decide ((a : Int) < (P : Int)) = true := by simpa using hlt
    have d0' : decide (a < P) = true := by simpa using hlt
    have s4 : IntKind.i64.wrap ((a : Int) + 1) = ((a + 1 : Nat) : Int) := Go.IntWalk.i64_in _ (by omega)
    obtain ⟨n, hN⟩ : ∃ n, upC X a = n := ⟨_, rfl⟩
    rw [hN] at hn ⊢
    by_cases hax : a < X
    · have d1 : decide ((a : Int) < (X : Int)) = true := by simpa using hax
      have d1' : decide (a < X) = true := by simpa using hax
      have hn2 : n = 2 * a := by rw [← hN]; unfold upC; rw [if_pos (by omega)]
      by_cases hcn : c = n ∨ c = n + 1
      · have hD := HD.out
        have hA := HA.out
        unfold dep at hD; unfold adr at hA
        rw [if_pos (by omega)] at hD hA
        have s5 : IntKind.i64.wrap ((L : Int) + 1) = (D : Int) := by rw [show (L : Int) + 1 = (D : Int) by omega]; exact Go.IntWalk.i64_in _ (by omega)
        have s6 : IntKind.i64.wrap (2 * (a : Int)) = (n : Int) := by rw [show 2 * (a : Int) = (n : Int) by omega]; exact Go.IntWalk.i64_in _ (by omega)
        have s7 : IntKind.i64.wrap ((n : Int) + (c : Int)) = (n : Int) + (c : Int) := Go.IntWalk.i64_in _ (by omega)
        have s8 : IntKind.i64.wrap ((n : Int) + (c : Int) - (n : Int)) = (A : Int) := by rw [show (n : Int) + (c : Int) - (n : Int) = (A : Int) by omega]; exact Go.IntWalk.i64_in _ (by omega)
        by_cases h0 : c = n
        · have e1 : ((c : Int) == (n : Int)) = true := by rw [beq_iff_eq]; omega
          clear hX hc hp hl hlt hN hn ha hax hn2 hcn hD hA h0
          go_wp2_with fail
          go_ret2
          exact ⟨rfl, rfl⟩
        · have e1 : ((c : Int) == (n : Int)) = false := by rw [beq_eq_false_iff_ne]; omega
          have s9 : IntKind.i64.wrap ((n : Int) + 1) = (n : Int) + 1 := Go.IntWalk.i64_in _ (by omega)
          have e2 : ((c : Int) == (n : Int) + 1) = true := by rw [beq_iff_eq]; omega
          clear hX hc hp hl hlt hN hn ha hax hn2 hcn hD hA h0
          go_wp2_with fail
          go_ret2
          exact ⟨rfl, rfl⟩
      · have e1 : ((c : Int) == (n : Int)) = false := by rw [beq_eq_false_iff_ne]; omega
        have s9 : IntKind.i64.wrap ((n : Int) + 1) = (n : Int) + 1 := Go.IntWalk.i64_in _ (by omega)
        have e2 : ((c : Int) == (n : Int) + 1) = false := by rw [beq_eq_false_iff_ne]; omega
        have s5 : IntKind.i64.wrap ((n : Int) + 2) = ((upC X (a + 1) : Nat) : Int) := by rw [show (n : Int) + 2 = ((upC X (a + 1) : Nat) : Int) by unfold upC; rw [if_pos (by omega)]; omega]; exact Go.IntWalk.i64_in _ (by unfold upC; rw [if_pos (by omega)]; omega)
        have HU := hid (show upC X (a + 1) ≤ c by unfold upC; rw [if_pos (by omega)]; omega)
        have HLT := hid hlt
        clear hX hc hp hl hlt hN hn ha hax hn2 hcn
        go_wp2_with fail
        go_roundw
        case rel => exact ⟨a + 1, rfl, rfl, HU.out, HLT.out, rfl⟩
        case measure => simp [intOf]; have := HLT.out; omega
    · have d1 : decide ((a : Int) < (X : Int)) = false := by simpa using hax
      have d1' : decide (a < X) = false := by simpa using hax
      have hn2 : n = a + X := by rw [← hN]; unfold upC; split <;> omega
      by_cases h0 : c = n
      · have hD := HD.out
        have hA := HA.out
        unfold dep at hD; unfold adr at hA
        rw [if_neg (by omega)] at hD hA
        have e1 : ((c : Int) == (n : Int)) = true := by rw [beq_iff_eq]; omega
        obtain rfl : a = A := by omega
        subst hD
        clear hX hc hp hl hlt hN hn ha hax hn2 hA h0 HA HD
        go_wp2_with fail
        go_ret2
        exact ⟨rfl, rfl⟩
      · have e1 : ((c : Int) == (n : Int)) = false := by rw [beq_eq_false_iff_ne]; omega
        have s5 : IntKind.i64.wrap ((n : Int) + 1) = ((upC X (a + 1) : Nat) : Int) := by rw [show (n : Int) + 1 = ((upC X (a + 1) : Nat) : Int) by unfold upC; split <;> omega]; exact Go.IntWalk.i64_in _ (by unfold upC; split <;> omega)
        have HU := hid (show upC X (a + 1) ≤ c by unfold upC; split <;> omega)
        have HLT := hid hlt
        clear hX hc hp hl hlt hN hn ha hax hn2 h0
        go_wp2_with fail
        go_roundw
        case rel => exact ⟨a + 1, rfl, rfl, HU.out, HLT.out, rfl⟩
        case measure => simp [intOf]; have := HLT.out; omega
end Go.Proofs.Ytalohakibpjmmaa.Ln
