/- Plain facts about bounds: what an insertion leaves, and what the laws ask of cells and boxes. -/
import Derived.Test.YtmhjoeegghnlhaaScBox2
import Derived.Test.YtmhjoeegghnlhaaScRem
namespace Go.Proofs.Ytmhjoeegghnlhaa.Sc
open Go.Proofs.Ytmhjoeegghnlhaa.Ky Go.Proofs.Ytmhjoeegghnlhaa.Bk

theorem insB_len (bs : List (List Nat)) (a : Int) (t : Nat) : (insB bs a t).length = bs.length := by unfold insB; split <;> simp
theorem insE_zero {bs : List (List Nat)} {a : Int} {t : Nat} (h : insE bs a t = 0) : hasC bs.length a = true ∧ t ≠ 0 ∧ isU (bs.getD a.toNat []) t = false ∧ (bs.getD a.toNat []).length ≠ 63 := by
  unfold insE at h
  split at h
  · cases h
  · rename_i h1
    split at h
    · cases h
    · rename_i h2
      refine ⟨?_, ?_, ?_, h2⟩
      · cases e : hasC bs.length a
        · exact absurd (.inl e) h1
        · rfl
      · exact fun e => h1 (.inr (.inl e))
      · cases e : isU (bs.getD a.toNat []) t
        · rfl
        · exact absurd (.inr (.inr e)) h1
theorem insE_cases (bs : List (List Nat)) (a : Int) (t : Nat) : insE bs a t = 0 ∨ insE bs a t = 1 ∨ insE bs a t = 4 := by
  unfold insE
  split
  · exact .inr (.inl rfl)
  · split
    · exact .inr (.inr rfl)
    · exact .inl rfl
theorem mem_insN {l : List Nat} {i t x : Nat} (h : x ∈ insN l i t) : x = t ∨ x ∈ l := by
  unfold insN at h
  rcases List.mem_append.1 h with h | h
  · rcases List.mem_append.1 h with h | h
    · exact .inr (List.mem_of_mem_take h)
    · exact .inl (by simpa using h)
  · exact .inr (List.mem_of_mem_drop h)
theorem isU_mem {l : List Nat} {t : Nat} (h : up l) (ht : t ∈ l) : isU l t = true := by
  obtain ⟨j, hj, rfl⟩ := List.getElem_of_mem ht
  have h1 : ¬ j < posU l l[j] := fun h2 => Nat.lt_irrefl _ ((posU_lo h hj).1 h2)
  have h3 : ¬ posU l l[j] < j := fun h2 => by
    have hp : posU l l[j] < l.length := by omega
    exact Nat.lt_irrefl _ ((posU_lo h hp).2 (up_lt h hp hj h2))
  have e : posU l l[j] = j := by omega
  unfold isU
  rw [e, List.getElem?_eq_getElem hj]; simp
theorem up_insN {l : List Nat} {t : Nat} (h : up l) (hi : isU l t = false) : up (insN l (posU l t) t) := by
  have hle := posU_le l t
  have hne : ∀ x ∈ l, x ≠ t := fun x hx e => by
    subst e
    have := isU_mem h hx
    rw [hi] at this; cases this
  unfold insN up
  rw [List.pairwise_append, List.pairwise_append]
  refine ⟨⟨List.Pairwise.sublist (List.take_sublist _ _) h, by simp, fun x hx y hy => ?_⟩, List.Pairwise.sublist (List.drop_sublist _ _) h, fun x hx y hy => ?_⟩
  · obtain rfl : y = t := by simpa using hy
    obtain ⟨j, hj, rfl⟩ := List.getElem_of_mem hx
    rw [List.length_take] at hj
    rw [List.getElem_take]
    exact (posU_lo h (by omega)).1 (by omega)
  · obtain ⟨j, hj, rfl⟩ := List.getElem_of_mem hy
    rw [List.length_drop] at hj
    rw [List.getElem_drop]
    have h2 : ¬ l[posU l t + j] < t := fun h3 => by
      have := (posU_lo h (t := t) (j := posU l t + j) (by omega)).2 h3
      omega
    rcases List.mem_append.1 hx with hx | hx
    · obtain ⟨i, hi2, rfl⟩ := List.getElem_of_mem hx
      rw [List.length_take] at hi2
      rw [List.getElem_take]
      exact up_lt h (by omega) (by omega) (by omega)
    · obtain rfl : x = t := by simpa using hx
      have := hne l[posU l x + j] (List.getElem_mem _)
      omega
theorem upS_ins {bs : List (List Nat)} {a : Int} {t : Nat} (h : upS bs) : upS (insB bs a t) := by
  unfold insB
  split
  · rename_i he
    obtain ⟨hc, ht, hi, hn⟩ := insE_zero he
    obtain ⟨A, rfl, hA⟩ := hasC_iff.1 hc
    rw [Int.toNat_natCast] at *
    have hl : bs.getD A [] ∈ bs := by
      rw [List.getD_eq_getElem?_getD, List.getElem?_eq_getElem hA]; exact List.getElem_mem hA
    obtain ⟨u1, u2, u3⟩ := h _ hl
    intro m hm
    rcases List.mem_or_eq_of_mem_set hm with hm | rfl
    · exact h m hm
    · refine ⟨up_insN u1 hi, fun x hx => ?_, ?_⟩
      · rcases mem_insN hx with rfl | hx
        · omega
        · exact u2 x hx
      · rw [insN_length _ _ _ (posU_le _ _)]; omega
  · exact h
theorem erase_insN (l : List Nat) (i t : Nat) (h : i ≤ l.length) : (insN l i t).eraseIdx i = l := by
  unfold insN
  rw [List.append_assoc, List.eraseIdx_append_of_length_le (by rw [List.length_take]; omega)]
  rw [show i - (l.take i).length = 0 by rw [List.length_take]; omega]
  simp
theorem ins_rem {bs : List (List Nat)} {a : Int} {t : Nat} (h : insE bs a t = 0) : remB (insB bs a t) a (insV bs a t) = true ∧ remS (insB bs a t) a (insV bs a t) = bs ∧ (insB bs a t).getD a.toNat [] = insN (bs.getD a.toNat []) (posU (bs.getD a.toNat []) t) t ∧ insV bs a t = (posU (bs.getD a.toNat []) t : Nat) := by
  obtain ⟨hc, ht, hi, hn⟩ := insE_zero h
  have hv : insV bs a t = (posU (bs.getD a.toNat []) t : Nat) := by unfold insV; rw [if_pos h]
  have hb : insB bs a t = bs.set a.toNat (insN (bs.getD a.toNat []) (posU (bs.getD a.toNat []) t) t) := by unfold insB; rw [if_pos h]
  obtain ⟨A, rfl, hA⟩ := hasC_iff.1 hc
  rw [Int.toNat_natCast] at *
  have hg : (insB bs (A : Int) t).getD A [] = insN (bs.getD A []) (posU (bs.getD A []) t) t := by
    rw [hb, List.getD_eq_getElem?_getD, List.getElem?_set_self hA]; rfl
  have hp := posU_le (bs.getD A []) t
  have hr : remB (insB bs (A : Int) t) A (insV bs (A : Int) t) = true := by
    unfold remB
    rw [Int.toNat_natCast, hg, insB_len, hc, hv, insN_length _ _ _ hp]
    simp only [Bool.true_and, Bool.and_eq_true, decide_eq_true_eq]
    omega
  refine ⟨hr, ?_, hg, hv⟩
  unfold remS
  rw [if_pos hr, Int.toNat_natCast, hg, hv, Int.toNat_natCast, erase_insN _ _ _ hp, hb, List.set_set]
  apply List.ext_getElem?
  intro j
  by_cases e : A = j
  · subst e
    rw [List.getElem?_set_self hA, List.getD_eq_getElem?_getD, List.getElem?_eq_getElem hA]; rfl
  · rw [List.getElem?_set_ne e]
theorem sizes_ins {bs : List (List Nat)} {a : Int} {t : Nat} (h : insE bs a t = 0) : ∃ A : Nat, a = (A : Int) ∧ A < bs.length ∧ (insB bs a t).getD A [] = insN (bs.getD A []) (posU (bs.getD A []) t) t ∧ ((insB bs a t).getD A []).length = (bs.getD A []).length + 1 := by
  obtain ⟨hc, _, _, _⟩ := insE_zero h
  obtain ⟨A, rfl, hA⟩ := hasC_iff.1 hc
  have h2 := (ins_rem h).2.2.1
  rw [Int.toNat_natCast] at h2
  exact ⟨A, rfl, hA, h2, by rw [h2, insN_length _ _ _ (posU_le _ _)]⟩
/-- a number stands between its interval's bounds -/
theorem itv_le (l : List Nat) (x : Nat) : itv l x ≤ l.length := posU_le l _
theorem low_le {l : List Nat} (h : up l) (x : Nat) : lowN l (itv l x : Nat) ≤ x := by
  unfold lowN
  split
  · rename_i h0
    have hle := itv_le l x
    rw [Int.toNat_natCast]
    have hj : itv l x - 1 < l.length := by omega
    rw [List.getD_eq_getElem?_getD, List.getElem?_eq_getElem hj, Option.getD_some]
    have := (posU_lo h (t := x + 1) hj).1 (by unfold itv at *; omega)
    omega
  · omega
theorem le_high {l : List Nat} (h : up l) {x : Nat} (hx : x < 4294967296) : x ≤ highN l (itv l x : Nat) := by
  unfold highN
  split
  · rename_i h0
    rw [Int.toNat_natCast]
    have hj : itv l x < l.length := by omega
    rw [List.getD_eq_getElem?_getD, List.getElem?_eq_getElem hj, Option.getD_some]
    have : ¬ l[itv l x] < x + 1 := fun h2 => by
      have := (posU_lo h (t := x + 1) hj).2 h2
      unfold itv at this; omega
    omega
  · omega
/-- the interval above begins where this one ends -/
theorem low_next {l : List Nat} (h0 : ∀ y ∈ l, 0 < y) {p : Nat} (hp : p < l.length) : lowN l ((p + 1 : Nat) : Int) = highN l (p : Nat) + 1 := by
  unfold lowN highN
  rw [if_pos (by omega), if_pos (by omega), Int.toNat_natCast, Int.toNat_natCast, Nat.add_sub_cancel]
  rw [List.getD_eq_getElem?_getD, List.getElem?_eq_getElem hp, Option.getD_some]
  have := h0 _ (List.getElem_mem hp)
  omega
theorem itv_mono {l : List Nat} (h : up l) {x y : Nat} (hxy : x ≤ y) : itv l x ≤ itv l y := by
  rcases Nat.lt_or_ge (itv l y) (itv l x) with h2 | h2
  · have hle := itv_le l x
    have hj : itv l y < l.length := by omega
    have h3 := (posU_lo h (t := x + 1) hj).1 (by unfold itv at h2 ⊢; exact h2)
    have h4 : ¬ l[itv l y] < y + 1 := fun h5 => by
      have := (posU_lo h (t := y + 1) hj).2 h5
      unfold itv at this; omega
    omega
  · exact h2
end Go.Proofs.Ytmhjoeegghnlhaa.Sc
