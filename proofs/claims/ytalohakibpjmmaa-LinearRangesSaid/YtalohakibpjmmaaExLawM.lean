/- What the laws of excell ask of the plain lists. -/
import Derived.Test.YtalohakibpjmmaaExMath
import Derived.Test.YtalohakibpjmmaaExSmall
namespace Go.Proofs.Ytalohakibpjmmaa.Ex
open Go.Proofs.Ytalohakibpjmmaa.Ky
open Go.Proofs.Ytalohakibpjmmaa.Pt

theorem bits_lt (k : List Nat) (d : Nat) : bitsK k d < 2 ^ d := by
  induction d with
  | zero => simp [bitsK]
  | succ d ih =>
    have := bitK_lt k d
    rw [show bitsK k (d + 1) = 2 * bitsK k d + bitK k d from rfl, Nat.pow_succ]
    omega
theorem bits_half (k : List Nat) (d : Nat) : bitsK k (d + 1) / 2 = bitsK k d := by
  have := bitK_lt k d
  rw [show bitsK k (d + 1) = 2 * bitsK k d + bitK k d from rfl]
  omega
theorem flip_ne (x : Nat) : flip1 x ≠ x := by unfold flip1; split <;> omega
theorem flip_flip (x : Nat) : flip1 (flip1 x) = x := by unfold flip1; split <;> split <;> omega
theorem buddy_div (D A B : Nat) : buddyN D A B / 2 ^ (D - B) = flip1 (A / 2 ^ (D - B)) := by
  unfold buddyN; exact Nat.mul_div_cancel _ (Nat.two_pow_pos _)
theorem buddy_ne (D A B : Nat) : buddyN D A B ≠ A := fun h => by
  have := buddy_div D A B
  rw [h] at this
  exact flip_ne _ this.symm
theorem buddy_twice (D A B : Nat) : buddyN D (buddyN D A B) B = A / 2 ^ (D - B) * 2 ^ (D - B) := by
  rw [show buddyN D (buddyN D A B) B = flip1 (buddyN D A B / 2 ^ (D - B)) * 2 ^ (D - B) from rfl, buddy_div, flip_flip]
theorem meet_whole {n : Nat} (hn : 1 ≤ n ∧ n ≤ 6) {d a : Nat} (hd : d ≤ 32) : met n d (lowW n) (highW n) a = true := by
  have hC := cell_cel hn d a hd
  have e1 := hC.l1
  have e2 := hC.l2
  unfold met
  refine meetB_iff.2 ⟨by rw [e1]; exact mayN_of hn, by omega, by simp [lowW, e1], by simp [highW, e1], fun j h1 h2 h3 h4 => ?_⟩
  obtain ⟨w1, w2, w3⟩ := hC.w j (by omega)
  have := Nat.two_pow_pos (ex n d j)
  simp only [lowW, highW, List.getElem_replicate]
  omega
theorem meet_point {n : Nat} (hn : 1 ≤ n ∧ n ≤ 6) {k : List Nat} (hk : k.length = n) {d a : Nat} (hd : d ≤ 32) : met n d k k a = inB k (cell n d a).1 (cell n d a).2 := by
  have hC := cell_cel hn d a hd
  have e1 := hC.l1
  have e2 := hC.l2
  unfold met
  rw [Bool.eq_iff_iff, meetB_iff]
  unfold inB
  rw [Bool.and_eq_true, leAll_iff, leAll_iff]
  constructor
  · rintro ⟨_, _, _, _, h⟩
    refine ⟨⟨by omega, fun j h1 h2 => ?_⟩, by omega, fun j h1 h2 => ?_⟩
    · have := h j h1 (by omega) h2 h2; omega
    · have := h j (by omega) h2 h1 h1; omega
  · rintro ⟨⟨_, h1⟩, _, h2⟩
    refine ⟨by rw [e1]; exact mayN_of hn, by omega, by omega, by omega, fun j g1 g2 g3 g4 => ?_⟩
    have x := h1 j g1 g3
    have y := h2 j g3 g2
    obtain ⟨_, w2, _⟩ := hC.w j (by omega)
    have := Nat.two_pow_pos (ex n d j)
    omega
theorem range_whole {n : Nat} (hn : 1 ≤ n ∧ n ≤ 6) {d : Nat} (hd : d ≤ 32) : rangeL n d (lowW n) (highW n) = List.range (2 ^ d) := by
  unfold rangeL
  rw [List.filter_eq_self]
  exact fun a _ => meet_whole hn hd
theorem filter_one (n b : Nat) (h : b < n) : (List.range n).filter (fun a => decide (a = b)) = [b] := by
  induction n with
  | zero => omega
  | succ n ih =>
    rw [List.range_succ, List.filter_append]
    by_cases e : b = n
    · subst e
      have : (List.range b).filter (fun a => decide (a = b)) = [] := by
        rw [List.filter_eq_nil_iff]
        intro a ha
        have := List.mem_range.1 ha
        simp; omega
      rw [this]
      simp
    · rw [ih (by omega)]
      have : ¬ n = b := by omega
      simp [this]
theorem range_point {n : Nat} (hn : 1 ≤ n ∧ n ≤ 6) {k : List Nat} (hk : k.length = n) (hf : ∀ x ∈ k, x < 4294967296) {d : Nat} (hd : d ≤ 32) : rangeL n d k k = [bitsK k d] := by
  unfold rangeL
  rw [← filter_one _ _ (bits_lt k d)]
  apply List.filter_congr
  intro a ha
  rw [meet_point hn hk hd, in_cell hn hk hf d a hd (List.mem_range.1 ha)]
/-- a deeper cell meets its upper one in itself -/
theorem hi_max {l m : List Nat} (h : leAll l m = true) : hiOf l m = m := by
  obtain ⟨h1, h2⟩ := leAll_iff.1 h
  unfold hiOf
  refine List.ext_getElem (by simp; omega) fun j g1 g2 => ?_
  have := h2 j (by omega) g2
  rw [List.getElem_zipWith]
  omega
theorem lo_min {l m : List Nat} (h : leAll m l = true) : loOf l m = m := by
  obtain ⟨h1, h2⟩ := leAll_iff.1 h
  unfold loOf
  refine List.ext_getElem (by simp; omega) fun j g1 g2 => ?_
  have := h2 j g2 (by omega)
  rw [List.getElem_zipWith]
  omega
theorem cell_in {n : Nat} (hn : 1 ≤ n ∧ n ≤ 6) {d b : Nat} (hd : d < 32) : leAll (cell n d (b / 2)).1 (cell n (d + 1) b).1 = true ∧ leAll (cell n (d + 1) b).2 (cell n d (b / 2)).2 = true := half_le (cell_half hn d (b / 2) hd) (b % 2)
theorem meet_deeper {n : Nat} (hn : 1 ≤ n ∧ n ≤ 6) {d b : Nat} (hd : d < 32) : meetB (cell n d (b / 2)).1 (cell n d (b / 2)).2 (cell n (d + 1) b).1 (cell n (d + 1) b).2 = true ∧ meetLo (cell n d (b / 2)).1 (cell n d (b / 2)).2 (cell n (d + 1) b).1 (cell n (d + 1) b).2 = (cell n (d + 1) b).1 ∧ meetHi (cell n d (b / 2)).1 (cell n d (b / 2)).2 (cell n (d + 1) b).1 (cell n (d + 1) b).2 = (cell n (d + 1) b).2 := by
  obtain ⟨h1, h2⟩ := cell_in (b := b) hn hd
  have hC := cell_cel hn (d + 1) b (by omega)
  have e1 := hC.l1
  have e2 := hC.l2
  have hm : meetB (cell n d (b / 2)).1 (cell n d (b / 2)).2 (cell n (d + 1) b).1 (cell n (d + 1) b).2 = true := by
    refine meet_mono h1 h2 ?_
    refine meetB_iff.2 ⟨by rw [e1]; exact mayN_of hn, by omega, rfl, by omega, fun j g1 g2 g3 g4 => ?_⟩
    obtain ⟨w1, w2, w3⟩ := hC.w j (by omega)
    have := Nat.two_pow_pos (ex n (d + 1) j)
    omega
  refine ⟨hm, ?_, ?_⟩
  · unfold meetLo; rw [if_pos hm]; exact hi_max h1
  · unfold meetHi; rw [if_pos hm]; exact lo_min h2
end Go.Proofs.Ytalohakibpjmmaa.Ex
