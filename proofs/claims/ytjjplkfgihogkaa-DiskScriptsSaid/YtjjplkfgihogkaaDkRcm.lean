/- The document's crash and the program's: the same writes come, with the same bytes. -/
import Derived.Test.YtjjplkfgihogkaaDkCrashNo
namespace Go.Proofs.Ytjjplkfgihogkaa.Dk
open Go.RowKit
open Go.Lib (hid)

theorem textAt_full {s : St} (h : Good s) (j : Nat) (hj : j < s.waits.length) : (textAt s j).toList.isEmpty = false := by
  rw [textAt_of s j hj]
  have h1 := (h.wait _ (List.getElem_mem hj)).2
  have h2 : (s.waits[j].2).toList.length = 256 := by rw [Go.ByteArray.toList_eq]; simpa using h1
  cases e : (s.waits[j].2).toList with
  | nil => rw [e] at h2; simp at h2
  | cons => rfl
/-- what stands there when the first k of the kept ones have come -/
def Ag (s : St) (ks : List Int) (k : Nat) (o : List ByteArray) : Prop :=
  o.length = s.waits.length ∧ ∀ j, j < s.waits.length → o.getD j emptyB = if (j : Int) ∈ ks.take k then textAt s j else emptyB
theorem free_ag {s : St} (h : Good s) {ks : List Int} {k : Nat} {o : List ByteArray} (hA : Ag s ks k o) (x : Int) : freeB o x = true ↔ 0 ≤ x ∧ x < (s.waits.length : Int) ∧ x ∉ ks.take k := by
  unfold freeB
  simp only [Bool.and_eq_true, decide_eq_true_eq, hA.1]
  constructor
  · rintro ⟨h1, h2, h3⟩
    refine ⟨h1, h2, fun hm => ?_⟩
    have hx : ((x.toNat : Nat) : Int) = x := by omega
    rw [hA.2 x.toNat (by omega), hx, if_pos hm, textAt_full h x.toNat (by omega)] at h3
    cases h3
  · rintro ⟨h1, h2, h3⟩
    have hx : ((x.toNat : Nat) : Int) = x := by omega
    refine ⟨h1, h2, ?_⟩
    rw [hA.2 x.toNat (by omega), hx, if_neg h3]
    exact emptyB_nil
theorem ag_zero (s : St) (ks : List Int) : Ag s ks 0 (none0 s) := by
  refine ⟨by simp [none0], fun j hj => ?_⟩
  rw [List.take_zero, if_neg List.not_mem_nil]
  unfold none0
  rw [List.getD_eq_getElem?_getD, List.getElem?_replicate]
  split <;> rfl
theorem ag_step {s : St} {ks : List Int} {k : Nat} {o : List ByteArray} (hA : Ag s ks k o) (hk : k < ks.length) (h0 : 0 ≤ ks[k]) : Ag s ks (k + 1) (o.set ks[k].toNat (textAt s ks[k].toNat)) := by
  refine ⟨by rw [List.length_set]; exact hA.1, fun j hj => ?_⟩
  rw [List.take_succ_eq_append_getElem hk]
  by_cases e : j = ks[k].toNat
  · have hx : (j : Int) = ks[k] := by omega
    rw [if_pos (by rw [hx]; exact List.mem_append_right _ (List.mem_singleton.2 rfl)), ← e, List.getD_eq_getElem?_getD, List.getElem?_set_self (by rw [hA.1]; exact hj)]; rfl
  · have hx : (j : Int) ≠ ks[k] := by omega
    rw [List.getD_eq_getElem?_getD, List.getElem?_set_ne (Ne.symm e), ← List.getD_eq_getElem?_getD, hA.2 j hj]
    simp only [List.mem_append, List.mem_singleton, hx, or_false]
/-- may the i-th one be kept? -/
def kOk (s : St) (ks : List Int) (i : Nat) : Prop := ∀ h : i < ks.length, 0 ≤ ks[i] ∧ ks[i] < (s.waits.length : Int) ∧ ks[i] ∉ ks.take i
theorem keep_ok {s : St} (h : Good s) (ks : List Int) (k : Nat) (hk : k ≤ ks.length) (hv : ∀ i, i < k → kOk s ks i) : ∃ o, keepL s (ks.take k) (none0 s) = some o ∧ Ag s ks k o := by
  induction k with
  | zero => exact ⟨_, by rw [List.take_zero]; rfl, ag_zero s ks⟩
  | succ k ih =>
    obtain ⟨o, h1, h2⟩ := ih (by omega) fun i hi => hv i (by omega)
    obtain ⟨g1, g2, g3⟩ := hv k (by omega) (by omega)
    exact ⟨_, keepL_more s ks k _ o (by omega) h1 ((free_ag h h2 _).2 ⟨g1, g2, g3⟩), ag_step h2 (by omega) g1⟩
theorem keep_no {s : St} (h : Good s) (ks : List Int) (k : Nat) (hk : k < ks.length) (hv : ∀ i, i < k → kOk s ks i) (hb : ¬ kOk s ks k) : keepL s ks (none0 s) = none := by
  obtain ⟨o, h1, h2⟩ := keep_ok h ks k (by omega) hv
  refine keepL_stop s ks k _ o hk h1 ?_
  cases hf : freeB o ks[k] with
  | false => rfl
  | true => exact absurd (fun _ => (free_ag h h2 _).1 hf) hb
theorem keep_valid {s : St} (h : Good s) (ks : List Int) (o : List ByteArray) (hk : keepL s ks (none0 s) = some o) : ∀ k, k ≤ ks.length → ∀ i, i < k → kOk s ks i := by
  intro k
  induction k with
  | zero => intro _ i hi; omega
  | succ k ih =>
    intro hl i hi
    by_cases e : i = k
    · subst e
      refine Classical.byContradiction fun hb => ?_
      rw [keep_no h ks i (by omega) (ih (by omega)) hb] at hk
      cases hk
    · exact ih (by omega) i (by omega)
/-- what comes of the write at j -/
def rOut (s : St) (ks : List Int) (torn a : Int) (j : Nat) : ByteArray := if (j : Int) ∈ ks then textAt s j else if (j : Int) = torn then tornB (textAt s j) a.toNat else emptyB
theorem come_yes {s : St} (h : Good s) (ks : List Int) (torn a : Int) (hv : ∀ i, i < ks.length → kOk s ks i ∧ ∀ hi : i < ks.length, ks[i] ≠ torn) (ht : -1 ≤ torn) (ht2 : torn < (s.waits.length : Int)) (ha : 0 ≤ torn → 0 ≤ a ∧ a ≤ 256) :
    ∃ o, comeS s ks torn a = some o ∧ o.length = s.waits.length ∧ ∀ j, j < s.waits.length → o.getD j emptyB = rOut s ks torn a j := by
  obtain ⟨o, h1, h2⟩ := keep_ok h ks ks.length (Nat.le_refl _) fun i hi => (hv i hi).1
  have h2' := h2
  rw [List.take_length] at h1
  unfold Ag at h2
  rw [List.take_length] at h2
  have hnm : torn ∉ ks := fun hm => by
    obtain ⟨i, hi, e⟩ := List.getElem_of_mem hm
    exact (hv i hi).2 hi e
  unfold comeS rOut
  rw [h1]
  by_cases hn : torn = -1
  · refine ⟨o, by simp only [hn, if_true], h2.1, fun j hj => ?_⟩
    rw [h2.2 j hj]
    by_cases hm : (j : Int) ∈ ks
    · rw [if_pos hm, if_pos hm]
    · rw [if_neg hm, if_neg hm, if_neg (by omega)]
  · have hf : freeB o torn = true := (free_ag h h2' torn).2 ⟨by omega, ht2, by rw [List.take_length]; exact hnm⟩
    refine ⟨o.set torn.toNat (tornB (textAt s torn.toNat) a.toNat), by simp only [hn, if_false, hf, if_true]; rw [if_pos (ha (by omega))], by rw [List.length_set]; exact h2.1, fun j hj => ?_⟩
    by_cases e : j = torn.toNat
    · have hx : (j : Int) = torn := by omega
      rw [← e, List.getD_eq_getElem?_getD, List.getElem?_set_self (by rw [h2.1]; exact hj), if_neg (by rw [hx]; exact hnm), if_pos hx]; rfl
    · rw [List.getD_eq_getElem?_getD, List.getElem?_set_ne (Ne.symm e), ← List.getD_eq_getElem?_getD, h2.2 j hj]
      by_cases hm : (j : Int) ∈ ks
      · rw [if_pos hm, if_pos hm]
      · rw [if_neg hm, if_neg hm, if_neg (by omega)]
theorem come_no_kept {s : St} (h : Good s) (ks : List Int) (torn a : Int) (k : Nat) (hk : k < ks.length) (hb : ¬ kOk s ks k ∨ ks[k] = torn) : comeS s ks torn a = none := by
  unfold comeS
  cases he : keepL s ks (none0 s) with
  | none => rfl
  | some o =>
    have hval := keep_valid h ks o he ks.length (Nat.le_refl _)
    rcases hb with hb | hb
    · exact absurd (hval k hk) hb
    · obtain ⟨o', h1, h2⟩ := keep_ok h ks ks.length (Nat.le_refl _) hval
      rw [List.take_length, he] at h1
      injection h1 with h1
      subst h1
      obtain ⟨g1, _, _⟩ := hval k hk hk
      have hf : freeB o torn = false := by
        cases hf : freeB o torn with
        | false => rfl
        | true =>
          have h3 := ((free_ag h h2 torn).1 hf).2.2
          rw [List.take_length, ← hb] at h3
          exact absurd (List.getElem_mem hk) h3
      simp only [hf, Bool.false_eq_true, if_false]
      rw [if_neg (by omega)]
theorem come_no_torn {s : St} (h : Good s) (ks : List Int) (torn a : Int) (hv : ∀ i, i < ks.length → kOk s ks i) (hb : torn < -1 ∨ (s.waits.length : Int) ≤ torn ∨ (0 ≤ torn ∧ (a < 0 ∨ 256 < a))) : comeS s ks torn a = none := by
  obtain ⟨o, h1, h2⟩ := keep_ok h ks ks.length (Nat.le_refl _) hv
  rw [List.take_length] at h1
  unfold comeS
  rw [h1]
  simp only
  rw [if_neg (by omega)]
  cases hf : freeB o torn with
  | false => rfl
  | true =>
    have h3 := (free_ag h h2 torn).1 hf
    rw [if_pos rfl, if_neg (by omega)]
theorem tornB_size (t : ByteArray) (a : Nat) (h : t.size = 256) (ha : a ≤ 256) : (tornB t a).size = 256 := by
  show (Pg.tornL t.data.toList a).toArray.size = 256
  rw [List.size_toArray]
  exact Pg.torn_length _ _ (by simpa using h) ha
theorem full_of_size (t : ByteArray) (h : t.size = 256) : t.toList.isEmpty = false := by
  have h2 : t.toList.length = 256 := by rw [Go.ByteArray.toList_eq]; simpa using h
  cases e : t.toList with
  | nil => rw [e] at h2; simp at h2
  | cons => rfl
theorem come_set {s : St} {o : List ByteArray} {j : Nat} {t : ByteArray} (hl : o.length = s.waits.length) (hj : j < s.waits.length) (he : o.getD j emptyB = t) (ht : t.toList.isEmpty = false) : (comeK s o (j + 1)).pages = (comeK s o j).pages.set s.waits[j].1 t := by
  have hlo : j < o.length := by omega
  have e : o[j] = t := by rw [← he, List.getD_eq_getElem?_getD, List.getElem?_eq_getElem hlo]; rfl
  rw [crashP_some s o j hlo hj (by rw [e]; exact ht), e]
theorem come_skip {s : St} {o : List ByteArray} {j : Nat} (hl : o.length = s.waits.length) (hj : j < s.waits.length) (he : o.getD j emptyB = emptyB) : comeK s o (j + 1) = comeK s o j := by
  have hlo : j < o.length := by omega
  have e : o[j] = emptyB := by rw [← he, List.getD_eq_getElem?_getD, List.getElem?_eq_getElem hlo]; rfl
  exact crashP_none s o j hlo (by rw [e]; exact emptyB_nil)
theorem rOut_kept {s : St} {ks : List Int} {torn a : Int} {j : Nat} (h : (j : Int) ∈ ks) : rOut s ks torn a j = textAt s j := if_pos h
theorem rOut_torn {s : St} {ks : List Int} {torn a : Int} {j : Nat} (h : (j : Int) ∉ ks) (h2 : (j : Int) = torn) : rOut s ks torn a j = tornB (textAt s j) a.toNat := by
  unfold rOut; rw [if_neg h, if_pos h2]
theorem rOut_none {s : St} {ks : List Int} {torn a : Int} {j : Nat} (h : (j : Int) ∉ ks) (h2 : ¬ (j : Int) = torn) : rOut s ks torn a j = emptyB := by
  unfold rOut; rw [if_neg h, if_neg h2]
end Go.Proofs.Ytjjplkfgihogkaa.Dk
