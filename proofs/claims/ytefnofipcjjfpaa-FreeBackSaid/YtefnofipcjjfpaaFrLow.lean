/- lowest and Take of free. -/
import Derived.Test.YtefnofipcjjfpaaFrTake
namespace Go.Proofs.Ytefnofipcjjfpaa.Fr
open Go.RowKit
open Go.Lib (hid)

/-- the first page of a word that is free: where it is -/
def freeAt (B : List Bool) (k : Nat) : Nat := firstB (fun j => !bitAt B (64 * k + j)) 64
theorem word_not (B : List Bool) (k : Nat) : 18446744073709551615 - word B k = wordN (fun j => !bitAt B (64 * k + j)) 64 := by
  have := wordN_not (fun j => bitAt B (64 * k + j)) 64
  unfold word; omega
theorem lead_eq (B : List Bool) (k : Nat) : (64 : Int) - (Lib.bitLen (18446744073709551615 - word B k) : Int) = (freeAt B k : Int) := by
  rw [word_not]
  have h := len_word (fun j => !bitAt B (64 * k + j)) 64 64 (Nat.le_refl _)
  have h2 := firstB_le (fun j => !bitAt B (64 * k + j)) 64
  unfold Lib.bitLen freeAt
  rw [h]; omega
theorem full_iff (B : List Bool) (k : Nat) : word B k = 18446744073709551615 ↔ freeAt B k = 64 := by
  have h1 := word_zero (fun j => !bitAt B (64 * k + j)) 64
  have h2 := word_not B k
  have h3 := word_lt B k
  unfold freeAt
  rw [← h1, ← h2]; omega
theorem free_before (B : List Bool) (k j : Nat) (h : j < freeAt B k) : bitAt B (64 * k + j) = true := by
  have := firstB_before _ _ _ h
  simpa using this
theorem free_there (B : List Bool) (k : Nat) (h : freeAt B k < 64) : bitAt B (64 * k + freeAt B k) = false := by
  have := firstB_at _ _ h
  simpa [freeAt] using this
theorem com_eq (x : Nat) (h : x < 18446744073709551616) : bits .xor .u64 (if IntKind.u64.signed = true then -1 else IntKind.u64.max) (x : Int) = ((18446744073709551615 - x : Nat) : Int) := by
  have e : (if IntKind.u64.signed = true then -1 else IntKind.u64.max) = (18446744073709551615 : Int) := by decide
  rw [e, u64_xor _ _ (by omega) (by omega) (by omega) (by omega)]
  congr 1
  simp only [Int.toNat_natCast]
  apply Nat.eq_of_testBit_eq
  intro j
  have h1 := Nat.testBit_two_pow_sub_succ (n := 64) h j
  have h2 := Nat.testBit_two_pow_sub_one 64 j
  have e1 : (18446744073709551615 : Int).toNat = 2 ^ 64 - 1 := by decide
  have e2 : 18446744073709551615 - x = 2 ^ 64 - (x + 1) := by omega
  rw [Nat.testBit_xor, e1, e2, h1, h2]
  by_cases hj : j < 64
  · simp [hj]
  · have : x.testBit j = false := Nat.testBit_lt_two_pow (Nat.lt_of_lt_of_le h (by rw [show (18446744073709551616 : Nat) = 2 ^ 64 from rfl]; exact Nat.pow_le_pow_right (by omega) (by omega)))
    simp [hj, this]
theorem lead_ok (B : List Bool) (k x y : Nat) (w : World) (hx : word B k = x) (hy : freeAt B k = y) :
    Calls Try.prog 31 #[.int .u64 ((18446744073709551615 - x : Nat) : Int)] w fun e w' => e = .returned (.int .i64 (y : Int)) ∧ w = w' := by
  have hlt := word_lt B k
  have he := lead_eq B k
  rw [hx] at hlt he
  rw [hy] at he
  refine (Try.bits_LeadingZeros64 _ w (by omega) (by omega)).mono ?_
  rintro e w' ⟨rfl, rfl⟩
  rw [Int.toNat_natCast, he]
  exact ⟨rfl, rfl⟩
set_option maxRecDepth 100000 in
set_option maxHeartbeats 1000000 in
theorem lowest_ok (d : Ptrs) (B : List Bool) (w : World) (h : Mp w d B) :
    Calls Try.prog 27 #[.pointer (some ⟨d.M, 0, none⟩)] w fun e w' => ∃ x : Nat, e = .returned (.int .i64 (x : Int)) ∧ x ≤ 2000 ∧ bitAt B x = false ∧ (∀ j, j < x → j < B.length → bitAt B j = true) ∧ w' = w := by
  have c := h.cells
  have h2 := h.n2
  have hw : nw B ≤ 16 := by unfold nw; omega
  have HW : Hid (∀ i, i < nw B → w.cell? ⟨d.W, i, none⟩ = some (.int .u64 (word B i : Int))) := hid fun i hi => h.word i hi
  have HL : Hid (B.length ≤ 64 * nw B) := hid (by unfold nw; omega)
  clear h
  go_enter Try.func27, Try.ntmps27
  go_wp2_with fail
  go_loopw [10] (fun i wr => ∃ k : Nat, k ≤ nw B ∧ i = .int .i64 k ∧ (∀ j, j < 64 * k → bitAt B j = true) ∧ wr = w) (fun i _ => nw B - (intOf i).toNat)
  case atStart => exact ⟨0, by omega, rfl, fun j hj => by omega, rfl⟩
  case round =>
    obtain ⟨k, hk, rfl, hall, rfl⟩ := hrel
    have HA := hid hall; clear hall
    by_cases hlt : k < nw B
    · have cw := HW.out k hlt
      by_cases hf : freeAt B k = 64
      · have e1 := (full_iff B k).2 hf
        rw [e1] at cw
        have HM : Hid (∀ j, j < 64 * (k + 1) → bitAt B j = true) := hid fun j hj => by
          by_cases h3 : j < 64 * k
          · exact HA.out j h3
          · have := free_before B k (j - 64 * k) (by omega)
            rwa [show 64 * k + (j - 64 * k) = j by omega] at this
        clear hf e1
        go_wp2_with fail
        go_roundw
        case rel => exact ⟨k + 1, by omega, by go_num, HM.out, trivial⟩
        case measure => simp [intOf]; omega
      · have hne : word B k ≠ 18446744073709551615 := fun e => hf ((full_iff B k).1 e)
        have hlt2 : freeAt B k < 64 := by have := firstB_le (fun j => !bitAt B (64 * k + j)) 64; unfold freeAt at hf ⊢; omega
        have HF : Hid (bitAt B (64 * k + freeAt B k) = false ∧ ∀ j, j < 64 * k + freeAt B k → j < B.length → bitAt B j = true) := hid ⟨free_there B k hlt2, fun j hj _ => by
          by_cases h3 : j < 64 * k
          · exact HA.out j h3
          · have := free_before B k (j - 64 * k) (by omega)
            rwa [show 64 * k + (j - 64 * k) = j by omega] at this⟩
        obtain ⟨x, hx⟩ : ∃ x, word B k = x := ⟨_, rfl⟩
        obtain ⟨y, hy⟩ : ∃ y, freeAt B k = y := ⟨_, rfl⟩
        rw [hx] at cw hne
        rw [hy] at HF hlt2
        have e3 : ((x : Int) != 18446744073709551615) = true := by simp; omega
        have HXL : Hid (x < 18446744073709551616) := hid (by rw [← hx]; exact word_lt B k)
        have HX := hid hx; have HY := hid hy; clear hf hne hx hy
        go_wp2_with (go_at_call 31; rw [com_eq x HXL.out]; generalize hz : ((18446744073709551615 - x : Nat) : Int) = z; refine (hz ▸ lead_ok B k x y _ HX.out HY.out).mono ?_; rintro e w' ⟨rfl, rfl⟩)
        go_ret
        exact ⟨64 * k + y, by simp; omega, by omega, HF.out.1, HF.out.2, rfl⟩
    · obtain rfl : k = nw B := by omega
      go_wp2_with fail
      go_ret
      exact ⟨B.length, rfl, by omega, bitAt_out B _ (Nat.le_refl _), fun j _ hj => HA.out j (by have := HL.out; omega), rfl⟩

/-- what Take does: the page that it gives, or that there is none -/
def takeN (B : List Bool) : Nat := B.findIdx (!·)
theorem takeN_le (B : List Bool) : takeN B ≤ B.length := List.findIdx_le_length
theorem takeN_before (B : List Bool) (j : Nat) (h : j < takeN B) : bitAt B j = true := by
  have hl := takeN_le B
  have := List.not_of_lt_findIdx h
  unfold bitAt
  rw [List.getD_eq_getElem?_getD, List.getElem?_eq_getElem (by omega)]
  simpa using this
theorem takeN_there (B : List Bool) (h : takeN B < B.length) : bitAt B (takeN B) = false := by
  have := List.findIdx_getElem (w := h)
  unfold bitAt
  rw [List.getD_eq_getElem?_getD, List.getElem?_eq_getElem h]
  simp only [Bool.not_eq_eq_eq_not, Bool.not_true] at this
  exact this
theorem takeN_eq (B : List Bool) (x : Nat) (h1 : bitAt B x = false) (h2 : ∀ j, j < x → j < B.length → bitAt B j = true) (hx : x < B.length) : takeN B = x := by
  have hl := takeN_le B
  rcases Nat.lt_trichotomy (takeN B) x with h | h | h
  · have h3 := takeN_there B (by omega)
    rw [h2 _ h (by omega)] at h3; cases h3
  · exact h
  · have := takeN_before B x h
    rw [h1] at this; cases this
theorem takeN_full (B : List Bool) (x : Nat) (h2 : ∀ j, j < x → j < B.length → bitAt B j = true) (hx : B.length ≤ x) : takeN B = B.length := by
  have hl := takeN_le B
  by_cases h : takeN B < B.length
  · have h3 := takeN_there B h
    rw [h2 _ (by omega) h] at h3; cases h3
  · omega
theorem takeN_low (B : List Bool) (x : Nat) (h1 : bitAt B x = false) (h2 : ∀ j, j < x → j < B.length → bitAt B j = true) (h : takeN B < B.length) : takeN B = x := by
  by_cases hx : x < B.length
  · exact takeN_eq B x h1 h2 hx
  · exact absurd (takeN_full B x h2 (by omega)) (by omega)
theorem takeN_none (B : List Bool) (x : Nat) (h1 : bitAt B x = false) (h2 : ∀ j, j < x → j < B.length → bitAt B j = true) (h : takeN B = B.length) : (x : Int) < 0 ∨ (B.length : Int) ≤ (x : Int) := by
  by_cases hx : x < B.length
  · exact absurd (takeN_eq B x h1 h2 hx) (by omega)
  · omega
set_option maxHeartbeats 400000 in
theorem take_ok (d : Ptrs) (B : List Bool) (w : World) (h : Mp w d B) (ht : takeN B < B.length) :
    Calls Try.prog 12 #[.pointer (some ⟨d.M, 0, none⟩)] w fun e w' => e = .returned (.tuple #[.int .i64 (takeN B : Int), .int .i64 0]) ∧ Mp w' d (turnB B (takeN B)) ∧ Only d.W w w' := by
  have H := hid h; clear h
  have HT := hid ht; clear ht
  go_enter Try.func12, Try.ntmps12
  go_wp2_with (first
    | (go_at_call 27; refine (lowest_ok d B _ H.out).mono ?_; rintro e w' ⟨x, rfl, hx1, hx2, hx3, rfl⟩; obtain rfl : takeN B = x := takeN_low B x hx2 hx3 HT.out; have HB := hid hx2; clear hx2 hx3)
    | (go_at_call 14; refine (mark_ok d B (takeN B) _ H.out HT.out HB.out).mono ?_; rintro e w3 ⟨rfl, hm, ho⟩; have HM := hid (And.intro hm ho); clear hm ho))
  go_ret2
  exact ⟨rfl, HM.out.1, HM.out.2⟩
set_option maxHeartbeats 400000 in
theorem take_full (d : Ptrs) (B : List Bool) (w : World) (h : Mp w d B) (ht : takeN B = B.length) :
    Calls Try.prog 12 #[.pointer (some ⟨d.M, 0, none⟩)] w fun e w' => e = .returned (.tuple #[.int .i64 0, .int .i64 2]) ∧ ∃ m, w' = w.drewN m := by
  have H := hid h; clear h
  have HT := hid ht; clear ht
  go_enter Try.func12, Try.ntmps12
  go_wp2_with (first
    | (go_at_call 27; refine (lowest_ok d B _ H.out).mono ?_; rintro e w' ⟨x, rfl, hx1, hx2, hx3, rfl⟩; have HX : Hid ((x : Int) < 0 ∨ (B.length : Int) ≤ (x : Int)) := hid (takeN_none B x hx2 hx3 HT.out); clear hx2 hx3)
    | (go_at_call 14; refine (mark_out d B (x : Int) _ H.out HX.out).mono ?_; rintro e w3 ⟨rfl, m, rfl⟩))
  go_ret2
  exact ⟨rfl, m, rfl⟩
set_option maxHeartbeats 400000 in
theorem take_nil (w : World) :
    Calls Try.prog 12 #[.pointer none] w fun e w' => e = .returned (.tuple #[.int .i64 0, .int .i64 1]) ∧ w = w' := by
  go_enter Try.func12, Try.ntmps12
  go_wp2_with fail
  go_ret2
  exact ⟨rfl, rfl⟩
end Go.Proofs.Ytefnofipcjjfpaa.Fr
