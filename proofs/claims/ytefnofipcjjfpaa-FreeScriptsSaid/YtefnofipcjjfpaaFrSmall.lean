/- The small calls of free: what each returns, and what the map is behind it. -/
import Derived.Test.YtefnofipcjjfpaaFrBase
import Derived.Deep.RegionLaw
import Derived.Deep.RegionHeld3
import Derived.StillTailTactics
namespace Go.Proofs.Ytefnofipcjjfpaa.Fr
open Go.RowKit
open Go.Lib (hid)

set_option maxHeartbeats 400000 in
theorem has_ok (d : Ptrs) (B : List Bool) (n : Int) (w : World) (h : Mp w d B) :
    Calls Try.prog 28 #[.pointer (some ⟨d.M, 0, none⟩), .int .i64 n] w fun e w' => e = .returned (.bool (decide (0 ≤ n ∧ n < B.length))) ∧ w = w' := by
  have c := h.cells.1
  clear h
  by_cases h0 : 0 ≤ n
  · have e2 : decide (0 ≤ n ∧ n < (B.length : Int)) = decide (n < (B.length : Int)) := by simp [h0]
    rw [e2]
    clear e2
    go_enter Try.func28, Try.ntmps28
    go_wp2_with fail
    go_ret
    exact ⟨rfl, rfl⟩
  · have e1 : decide (0 ≤ n) = false := by simpa using h0
    have e2 : decide (0 ≤ n ∧ n < (B.length : Int)) = false := by simp; omega
    rw [e2]
    clear e2 h0
    go_enter Try.func28, Try.ntmps28
    go_wp2_with fail
    go_ret
    exact ⟨rfl, rfl⟩
theorem has_out (d : Ptrs) (B : List Bool) (n : Int) (w : World) (h : Mp w d B) (hn : n < 0 ∨ B.length ≤ n) :
    Calls Try.prog 28 #[.pointer (some ⟨d.M, 0, none⟩), .int .i64 n] w fun e w' => e = .returned (.bool false) ∧ w = w' := by
  have e1 : decide (0 ≤ n ∧ n < (B.length : Int)) = false := by simp; omega
  have := has_ok d B n w h
  rw [e1] at this
  exact this
theorem has_in (d : Ptrs) (B : List Bool) (n : Nat) (w : World) (h : Mp w d B) (hn : n < B.length) :
    Calls Try.prog 28 #[.pointer (some ⟨d.M, 0, none⟩), .int .i64 (n : Int)] w fun e w' => e = .returned (.bool true) ∧ w = w' := by
  have e1 : decide (0 ≤ (n : Int) ∧ (n : Int) < (B.length : Int)) = true := by simp; omega
  have := has_ok d B n w h
  rw [e1] at this
  exact this
set_option maxHeartbeats 400000 in
theorem has_nil (n : Int) (w : World) :
    Calls Try.prog 28 #[.pointer none, .int .i64 n] w fun e w' => e = .returned (.bool false) ∧ w = w' := by
  go_enter Try.func28, Try.ntmps28
  go_wp2_with fail
  go_ret
  exact ⟨rfl, rfl⟩
theorem bit_eq (k : Nat) (h : k < 64) : (9223372036854775808 : Int) / 2 ^ k = ((2 ^ (63 - k) : Nat) : Int) := by
  have e : (9223372036854775808 : Nat) = 2 ^ (63 - k) * 2 ^ k := by rw [← Nat.pow_add, show 63 - k + k = 63 by omega]
  have e2 : (9223372036854775808 : Nat) / 2 ^ k = 2 ^ (63 - k) := by rw [e]; exact Nat.mul_div_cancel _ (Nat.two_pow_pos k)
  rw [← e2]; simp
set_option maxHeartbeats 400000 in
theorem bit_ok (n q : Nat) (w : World) (hq : 2 ^ (63 - n % 64) = q) :
    Calls Try.prog 30 #[.int .i64 (n : Int)] w fun e w' => e = .returned (.int .u64 (q : Int)) ∧ w = w' := by
  obtain ⟨k, hk⟩ : ∃ k, n % 64 = k := ⟨_, rfl⟩
  have h1 : k < 64 := by omega
  have e1 : (n : Int) % 64 = (k : Int) := by omega
  have h2 : (k : Int) ≤ 64 := by omega
  have e2 := bit_eq k h1
  rw [hk] at hq
  rw [hq] at e2
  have E2 := hid e2
  clear hk hq e2
  go_enter Try.func30, Try.ntmps30
  go_wp2_with fail
  go_ret
  exact ⟨by rw [← E2.out]; rfl, rfl⟩
theorem is_eq (B : List Bool) (n : Nat) : bits .and .u64 (word B (n / 64) : Int) ((2 ^ (63 - n % 64) : Nat) : Int) = (((bitAt B n).toNat * 2 ^ (63 - n % 64) : Nat) : Int) := by
  have h : 2 ^ (63 - n % 64) < 18446744073709551616 := Nat.lt_of_le_of_lt (Nat.pow_le_pow_right (by omega) (show 63 - n % 64 ≤ 63 by omega)) (by decide)
  have h2 := word_lt B (n / 64)
  have hq : ∀ q : Nat, q < 18446744073709551616 → (0 : Int) ≤ ((q : Nat) : Int) ∧ ((q : Nat) : Int) < 18446744073709551616 := fun q hq => by omega
  rw [u64_and _ _ (hq _ h2).1 (hq _ h2).2 (hq _ h).1 (hq _ h).2]
  simp only [Int.toNat_natCast]
  rw [word_is]
theorem is_ne (b : Bool) (n : Nat) : (((b.toNat * 2 ^ n : Nat) : Int) != 0) = b := by
  have h : 0 < 2 ^ n := Nat.two_pow_pos _
  generalize 2 ^ n = q at h ⊢
  cases b
  · simp
  · simp; omega
/-- the page's word, its bit, and what both have -/
theorem is_all (B : List Bool) (n : Nat) : ∃ q r : Nat, 2 ^ (63 - n % 64) = q ∧ bits .and .u64 (word B (n / 64) : Int) (q : Int) = (r : Int) ∧ ((r : Int) != 0) = bitAt B n :=
  ⟨_, _, rfl, is_eq B n, is_ne _ _⟩
set_option maxHeartbeats 400000 in
theorem is_ok (d : Ptrs) (B : List Bool) (n : Nat) (w : World) (h : Mp w d B) (hn : n < B.length) :
    Calls Try.prog 21 #[.pointer (some ⟨d.M, 0, none⟩), .int .i64 (n : Int)] w fun e w' => e = .returned (.bool (bitAt B n)) ∧ ∃ m, w' = w.drewN m := by
  have c := h.cells.2
  have hk : n / 64 < nw B := by unfold nw; omega
  have cw := h.word (n / 64) hk
  have HN := hid hn
  obtain ⟨q, r, hq, e2, e3⟩ := is_all B n
  have h2 := h.n2
  have H := hid h; have HQ := hid hq; clear h hq
  generalize word B (n / 64) = x at cw e2
  obtain ⟨k, hkk⟩ : ∃ k, n / 64 = k := ⟨_, rfl⟩
  rw [hkk] at cw hk
  have e4 : (n : Int) / 64 = (k : Int) := by omega
  have e5 : IntKind.i64.wrap (k : Int) = (k : Int) := Go.IntWalk.i64_in _ (by omega)
  clear hkk
  go_enter Try.func21, Try.ntmps21
  go_wp2_with fail
  go_quiet ((first
    | (go_at_call 28; exact quiet_eq (has_in d B n _ (H.out.drewN _) HN.out))
    | (go_at_call 30; exact quiet_eq (bit_ok n q _ HQ.out))))
  go_wp2_with fail
  go_ret
  exact ⟨rfl, _, rfl⟩
set_option maxHeartbeats 400000 in
theorem is_out (d : Ptrs) (B : List Bool) (n : Int) (w : World) (h : Mp w d B) (hn : n < 0 ∨ B.length ≤ n) :
    Calls Try.prog 21 #[.pointer (some ⟨d.M, 0, none⟩), .int .i64 n] w fun e w' => e = .returned (.bool false) ∧ ∃ m, w' = w.drewN m := by
  have H := hid h; have HN := hid hn; clear h hn
  go_enter Try.func21, Try.ntmps21
  go_wp2_with fail
  go_quiet ((first
    | (go_at_call 28; exact quiet_eq (has_out d B n _ (H.out.drewN _) HN.out))))
  go_wp2_with fail
  go_ret
  exact ⟨rfl, _, rfl⟩
set_option maxHeartbeats 400000 in
theorem is_nil (n : Int) (w : World) :
    Calls Try.prog 21 #[.pointer none, .int .i64 n] w fun e w' => e = .returned (.bool false) ∧ ∃ m, w' = w.drewN m := by
  go_enter Try.func21, Try.ntmps21
  go_wp2_with fail
  go_quiet ((first
    | (go_at_call 28; exact quiet_eq (has_nil n _))))
  go_wp2_with fail
  go_ret
  exact ⟨rfl, _, rfl⟩
/-- turn: a page that is taken is free, and one that is free is taken -/
def turnB (B : List Bool) (n : Nat) : List Bool := B.set n (!bitAt B n)
theorem xor_all (B : List Bool) (n : Nat) : ∃ q r : Nat, 2 ^ (63 - n % 64) = q ∧ bits .xor .u64 (word B (n / 64) : Int) (q : Int) = (r : Int) ∧ (r : Int) = ((word B (n / 64) ^^^ 2 ^ (63 - n % 64) : Nat) : Int) := by
  refine ⟨_, _, rfl, ?_, rfl⟩
  have h : 2 ^ (63 - n % 64) < 18446744073709551616 := Nat.lt_of_le_of_lt (Nat.pow_le_pow_right (by omega) (show 63 - n % 64 ≤ 63 by omega)) (by decide)
  have h2 := word_lt B (n / 64)
  have hq : ∀ q : Nat, q < 18446744073709551616 → (0 : Int) ≤ ((q : Nat) : Int) ∧ ((q : Nat) : Int) < 18446744073709551616 := fun q hq => by omega
  rw [u64_xor _ _ (hq _ h2).1 (hq _ h2).2 (hq _ h).1 (hq _ h).2]
  simp only [Int.toNat_natCast]
set_option maxHeartbeats 400000 in
theorem turn_ok (d : Ptrs) (B : List Bool) (n : Nat) (w : World) (h : Mp w d B) (hn : n < B.length) :
    Calls Try.prog 26 #[.pointer (some ⟨d.M, 0, none⟩), .int .i64 (n : Int)] w fun e w' => e = .returned (.tuple #[]) ∧ Mp w' d (turnB B n) ∧ Only d.W w w' := by
  have c := h.cells.2
  have f := h.wfree (n / 64)
  have hk : n / 64 < nw B := by unfold nw; omega
  have cw := h.word (n / 64) hk
  obtain ⟨q, r, hq, e2, hr⟩ := xor_all B n
  have h2 := h.n2
  have hd := h.drew.turned n hn _ hr
  have HD := hid hd; have HQ := hid hq; clear hd hq hr
  have HO := hid ((Only.refl d.W w).drew.setCell (n / 64) (.int .u64 (r : Int))); clear h
  generalize word B (n / 64) = x at cw e2
  obtain ⟨k, hkk⟩ : ∃ k, n / 64 = k := ⟨_, rfl⟩
  rw [hkk] at cw hk f HD HO
  have e4 : (n : Int) / 64 = (k : Int) := by omega
  have e5 : IntKind.i64.wrap (k : Int) = (k : Int) := Go.IntWalk.i64_in _ (by omega)
  clear hkk
  go_enter Try.func26, Try.ntmps26
  go_region_law (go_simp; go_at_call 30; refine (bit_ok n q _ HQ.out).mono ?_; rintro e w' ⟨rfl, rfl⟩)
  all_goals
    refine bodyPost_end (v := .tuple #[]) (by simp [results, Try.results26, go_sem]) rfl ⟨rfl, ?_⟩
    exact ⟨HD.out, HO.out⟩
set_option maxHeartbeats 400000 in
theorem mark_ok (d : Ptrs) (B : List Bool) (n : Nat) (w : World) (h : Mp w d B) (hn : n < B.length) (hb : bitAt B n = false) :
    Calls Try.prog 14 #[.pointer (some ⟨d.M, 0, none⟩), .int .i64 (n : Int)] w fun e w' => e = .returned (.int .i64 0) ∧ Mp w' d (turnB B n) ∧ Only d.W w w' := by
  have H := hid h; have HN := hid hn; clear h hn
  have HI : Hid (∀ w', Mp w' d B → Calls Try.prog 21 #[.pointer (some ⟨d.M, 0, none⟩), .int .i64 (n : Int)] w' fun e w2 => e = .returned (.bool false) ∧ ∃ m, w2 = w'.drewN m) := hid fun w' h' => hb ▸ is_ok d B n w' h' HN.out
  clear hb
  go_enter Try.func14, Try.ntmps14
  go_wp2_with (first
    | (go_at_call 28; refine (has_in d B n _ H.out HN.out).mono ?_; rintro e w' ⟨rfl, rfl⟩)
    | (go_at_call 21; refine (HI.out _ H.out).mono ?_; rintro e w' ⟨rfl, m, rfl⟩)
    | (go_at_call 26; refine (turn_ok d B n _ (H.out.drewN m) HN.out).mono ?_; rintro e w3 ⟨rfl, hm, ho⟩; have HM := hid (And.intro hm ho); clear hm ho))
  go_ret
  exact ⟨rfl, HM.out.1, ⟨HM.out.2.os, HM.out.2.tape, HM.out.2.output, HM.out.2.size, HM.out.2.block⟩⟩
end Go.Proofs.Ytefnofipcjjfpaa.Fr
