/- Merged out of DkRcm, JnWpl, DkRk, DkRop, DkRrd, JnRc. -/
import Derived.Test.YtpobhdhfhnnajaaDoorW05
import Derived.Test.YtpobhdhfhnnajaaDoorW15
import Derived.Test.YtpobhdhfhnnajaaDoorW17
import Derived.Test.YtpobhdhfhnnajaaDoorW06
import Derived.Test.YtpobhdhfhnnajaaDoorW14
/- The document's crash and the program's: the same writes come, with the same bytes. -/
namespace Go.Proofs.YtpobhdhfhnnajaaDoor.Dk
open Go.RowKit
open Go.Lib (hid)

theorem textAt_full {s : St} (h : Good s) (j : Nat) (hj : j < s.waits.length) : (textAt s j).toList.isEmpty = false := by
  rw [textAt_of s j hj]
  have h1 := (h.wait _ (List.getElem_mem hj)).2
  have h2 : (s.waits[j].2).toList.length = 256 := by rw [Go.ByteArray.toList_eq]; simpa using h1
  cases e : (s.waits[j].2).toList with
  | nil => rw [e] at h2; simp at h2
  | cons => rfl
/-- what stands there when the first k of the kept ones have come -/
def Ag (s : St) (ks : List Int) (k : Nat) (o : List ByteArray) : Prop :=
  o.length = s.waits.length ∧ ∀ j, j < s.waits.length → o.getD j emptyB = if (j : Int) ∈ ks.take k then textAt s j else emptyB
theorem free_ag {s : St} (h : Good s) {ks : List Int} {k : Nat} {o : List ByteArray} (hA : Ag s ks k o) (x : Int) : freeB o x = true ↔ 0 ≤ x ∧ x < (s.waits.length : Int) ∧ x ∉ ks.take k := by
  unfold freeB
  simp only [Bool.and_eq_true, decide_eq_true_eq, hA.1]
  constructor
  · rintro ⟨h1, h2, h3⟩
    refine ⟨h1, h2, fun hm => ?_⟩
    have hx : ((x.toNat : Nat) : Int) = x := by omega
    rw [hA.2 x.toNat (by omega), hx, if_pos hm, textAt_full h x.toNat (by omega)] at h3
    cases h3
  · rintro ⟨h1, h2, h3⟩
    have hx : ((x.toNat : Nat) : Int) = x := by omega
    refine ⟨h1, h2, ?_⟩
    rw [hA.2 x.toNat (by omega), hx, if_neg h3]
    exact emptyB_nil
theorem ag_zero (s : St) (ks : List Int) : Ag s ks 0 (none0 s) := by
  refine ⟨by simp [none0], fun j hj => ?_⟩
  rw [List.take_zero, if_neg List.not_mem_nil]
  unfold none0
  rw [List.getD_eq_getElem?_getD, List.getElem?_replicate]
  split <;> rfl
theorem ag_step {s : St} {ks : List Int} {k : Nat} {o : List ByteArray} (hA : Ag s ks k o) (hk : k < ks.length) (h0 : 0 ≤ ks[k]) : Ag s ks (k + 1) (o.set ks[k].toNat (textAt s ks[k].toNat)) := by
  refine ⟨by rw [List.length_set]; exact hA.1, fun j hj => ?_⟩
  rw [List.take_succ_eq_append_getElem hk]
  by_cases e : j = ks[k].toNat
  · have hx : (j : Int) = ks[k] := by omega
    rw [if_pos (by rw [hx]; exact List.mem_append_right _ (List.mem_singleton.2 rfl)), ← e, List.getD_eq_getElem?_getD, List.getElem?_set_self (by rw [hA.1]; exact hj)]; rfl
  · have hx : (j : Int) ≠ ks[k] := by omega
    rw [List.getD_eq_getElem?_getD, List.getElem?_set_ne (Ne.symm e), ← List.getD_eq_getElem?_getD, hA.2 j hj]
    simp only [List.mem_append, List.mem_singleton, hx, or_false]
/-- may the i-th one be kept? -/
def kOk (s : St) (ks : List Int) (i : Nat) : Prop := ∀ h : i < ks.length, 0 ≤ ks[i] ∧ ks[i] < (s.waits.length : Int) ∧ ks[i] ∉ ks.take i
theorem keep_ok {s : St} (h : Good s) (ks : List Int) (k : Nat) (hk : k ≤ ks.length) (hv : ∀ i, i < k → kOk s ks i) : ∃ o, keepL s (ks.take k) (none0 s) = some o ∧ Ag s ks k o := by
  induction k with
  | zero => exact ⟨_, by rw [List.take_zero]; rfl, ag_zero s ks⟩
  | succ k ih =>
    obtain ⟨o, h1, h2⟩ := ih (by omega) fun i hi => hv i (by omega)
    obtain ⟨g1, g2, g3⟩ := hv k (by omega) (by omega)
    exact ⟨_, keepL_more s ks k _ o (by omega) h1 ((free_ag h h2 _).2 ⟨g1, g2, g3⟩), ag_step h2 (by omega) g1⟩
theorem keep_no {s : St} (h : Good s) (ks : List Int) (k : Nat) (hk : k < ks.length) (hv : ∀ i, i < k → kOk s ks i) (hb : ¬ kOk s ks k) : keepL s ks (none0 s) = none := by
  obtain ⟨o, h1, h2⟩ := keep_ok h ks k (by omega) hv
  refine keepL_stop s ks k _ o hk h1 ?_
  cases hf : freeB o ks[k] with
  | false => rfl
  | true => exact absurd (fun _ => (free_ag h h2 _).1 hf) hb
theorem keep_valid {s : St} (h : Good s) (ks : List Int) (o : List ByteArray) (hk : keepL s ks (none0 s) = some o) : ∀ k, k ≤ ks.length → ∀ i, i < k → kOk s ks i := by
  intro k
  induction k with
  | zero => intro _ i hi; omega
  | succ k ih =>
    intro hl i hi
    by_cases e : i = k
    · subst e
      refine Classical.byContradiction fun hb => ?_
      rw [keep_no h ks i (by omega) (ih (by omega)) hb] at hk
      cases hk
    · exact ih (by omega) i (by omega)
/-- what comes of the write at j -/
def rOut (s : St) (ks : List Int) (torn a : Int) (j : Nat) : ByteArray := if (j : Int) ∈ ks then textAt s j else if (j : Int) = torn then tornB (textAt s j) a.toNat else emptyB
theorem come_yes {s : St} (h : Good s) (ks : List Int) (torn a : Int) (hv : ∀ i, i < ks.length → kOk s ks i ∧ ∀ hi : i < ks.length, ks[i] ≠ torn) (ht : -1 ≤ torn) (ht2 : torn < (s.waits.length : Int)) (ha : 0 ≤ torn → 0 ≤ a ∧ a ≤ 256) :
    ∃ o, comeS s ks torn a = some o ∧ o.length = s.waits.length ∧ ∀ j, j < s.waits.length → o.getD j emptyB = rOut s ks torn a j := by
  obtain ⟨o, h1, h2⟩ := keep_ok h ks ks.length (Nat.le_refl _) fun i hi => (hv i hi).1
  have h2' := h2
  rw [List.take_length] at h1
  unfold Ag at h2
  rw [List.take_length] at h2
  have hnm : torn ∉ ks := fun hm => by
    obtain ⟨i, hi, e⟩ := List.getElem_of_mem hm
    exact (hv i hi).2 hi e
  unfold comeS rOut
  rw [h1]
  by_cases hn : torn = -1
  · refine ⟨o, by simp only [hn, if_true], h2.1, fun j hj => ?_⟩
    rw [h2.2 j hj]
    by_cases hm : (j : Int) ∈ ks
    · rw [if_pos hm, if_pos hm]
    · rw [if_neg hm, if_neg hm, if_neg (by omega)]
  · have hf : freeB o torn = true := (free_ag h h2' torn).2 ⟨by omega, ht2, by rw [List.take_length]; exact hnm⟩
    refine ⟨o.set torn.toNat (tornB (textAt s torn.toNat) a.toNat), by simp only [hn, if_false, hf, if_true]; rw [if_pos (ha (by omega))], by rw [List.length_set]; exact h2.1, fun j hj => ?_⟩
    by_cases e : j = torn.toNat
    · have hx : (j : Int) = torn := by omega
      rw [← e, List.getD_eq_getElem?_getD, List.getElem?_set_self (by rw [h2.1]; exact hj), if_neg (by rw [hx]; exact hnm), if_pos hx]; rfl
    · rw [List.getD_eq_getElem?_getD, List.getElem?_set_ne (Ne.symm e), ← List.getD_eq_getElem?_getD, h2.2 j hj]
      by_cases hm : (j : Int) ∈ ks
      · rw [if_pos hm, if_pos hm]
      · rw [if_neg hm, if_neg hm, if_neg (by omega)]
theorem come_no_kept {s : St} (h : Good s) (ks : List Int) (torn a : Int) (k : Nat) (hk : k < ks.length) (hb : ¬ kOk s ks k ∨ ks[k] = torn) : comeS s ks torn a = none := by
  unfold comeS
  cases he : keepL s ks (none0 s) with
  | none => rfl
  | some o =>
    have hval := keep_valid h ks o he ks.length (Nat.le_refl _)
    rcases hb with hb | hb
    · exact absurd (hval k hk) hb
    · obtain ⟨o', h1, h2⟩ := keep_ok h ks ks.length (Nat.le_refl _) hval
      rw [List.take_length, he] at h1
      injection h1 with h1
      subst h1
      obtain ⟨g1, _, _⟩ := hval k hk hk
      have hf : freeB o torn = false := by
        cases hf : freeB o torn with
        | false => rfl
        | true =>
          have h3 := ((free_ag h h2 torn).1 hf).2.2
          rw [List.take_length, ← hb] at h3
          exact absurd (List.getElem_mem hk) h3
      simp only [hf, Bool.false_eq_true, if_false]
      rw [if_neg (by omega)]
theorem come_no_torn {s : St} (h : Good s) (ks : List Int) (torn a : Int) (hv : ∀ i, i < ks.length → kOk s ks i) (hb : torn < -1 ∨ (s.waits.length : Int) ≤ torn ∨ (0 ≤ torn ∧ (a < 0 ∨ 256 < a))) : comeS s ks torn a = none := by
  obtain ⟨o, h1, h2⟩ := keep_ok h ks ks.length (Nat.le_refl _) hv
  rw [List.take_length] at h1
  unfold comeS
  rw [h1]
  simp only
  rw [if_neg (by omega)]
  cases hf : freeB o torn with
  | false => rfl
  | true =>
    have h3 := (free_ag h h2 torn).1 hf
    rw [if_pos rfl, if_neg (by omega)]
theorem tornB_size (t : ByteArray) (a : Nat) (h : t.size = 256) (ha : a ≤ 256) : (tornB t a).size = 256 := by
  show (Pg.tornL t.data.toList a).toArray.size = 256
  rw [List.size_toArray]
  exact Pg.torn_length _ _ (by simpa using h) ha
theorem full_of_size (t : ByteArray) (h : t.size = 256) : t.toList.isEmpty = false := by
  have h2 : t.toList.length = 256 := by rw [Go.ByteArray.toList_eq]; simpa using h
  cases e : t.toList with
  | nil => rw [e] at h2; simp at h2
  | cons => rfl
theorem come_set {s : St} {o : List ByteArray} {j : Nat} {t : ByteArray} (hl : o.length = s.waits.length) (hj : j < s.waits.length) (he : o.getD j emptyB = t) (ht : t.toList.isEmpty = false) : (comeK s o (j + 1)).pages = (comeK s o j).pages.set s.waits[j].1 t := by
  have hlo : j < o.length := by omega
  have e : o[j] = t := by rw [← he, List.getD_eq_getElem?_getD, List.getElem?_eq_getElem hlo]; rfl
  rw [crashP_some s o j hlo hj (by rw [e]; exact ht), e]
theorem come_skip {s : St} {o : List ByteArray} {j : Nat} (hl : o.length = s.waits.length) (hj : j < s.waits.length) (he : o.getD j emptyB = emptyB) : comeK s o (j + 1) = comeK s o j := by
  have hlo : j < o.length := by omega
  have e : o[j] = emptyB := by rw [← he, List.getD_eq_getElem?_getD, List.getElem?_eq_getElem hlo]; rfl
  exact crashP_none s o j hlo (by rw [e]; exact emptyB_nil)
theorem rOut_kept {s : St} {ks : List Int} {torn a : Int} {j : Nat} (h : (j : Int) ∈ ks) : rOut s ks torn a j = textAt s j := if_pos h
theorem rOut_torn {s : St} {ks : List Int} {torn a : Int} {j : Nat} (h : (j : Int) ∉ ks) (h2 : (j : Int) = torn) : rOut s ks torn a j = tornB (textAt s j) a.toNat := by
  unfold rOut; rw [if_neg h, if_pos h2]
theorem rOut_none {s : St} {ks : List Int} {torn a : Int} {j : Nat} (h : (j : Int) ∉ ks) (h2 : ¬ (j : Int) = torn) : rOut s ks torn a j = emptyB := by
  unfold rOut; rw [if_neg h, if_neg h2]
end Go.Proofs.YtpobhdhfhnnajaaDoor.Dk

/- What stands on a disk behind a crash in a Commit: all of its pages are scanned, or none. Plain. -/
namespace Go.Proofs.YtpobhdhfhnnajaaDoor.Jn
open Go.RowKit
open Go.Lib (hid)
open Go.Proofs.YtpobhdhfhnnajaaDoor.Dk
open Go.Proofs.YtpobhdhfhnnajaaDoor.En (Lst entC encR mayE mayS PageT textS entB Rd)
open Go.Proofs.YtpobhdhfhnnajaaDoor.Pg (sealL openL mayP headL lowL sumN tornL)
open Go.Proofs.YtpobhdhfhnnajaaDoor.Sm (U sumB)
/-- the last byte ahead of the sum is none of the body's, if that is short -/
theorem seal_251 {k n : Nat} {b : List UInt8} (hb : b.length ≤ 243) : (sealL k n b)[251]? = some 0 := by
  have h1 := Pg.headL_length k n b (by omega)
  unfold sealL
  rw [List.getElem?_append_left (by omega)]
  unfold headL
  rw [List.getElem?_append_right (by simp [Fd.be_length]), Fd.be_length, List.getElem?_append_right (by simp [Fd.be_length]), Fd.be_length, List.getElem?_append_right (by simp [Fd.be_length]), Fd.be_length, List.getElem?_append_right (by simp [Fd.be_length]), Fd.be_length, List.getElem?_append_right (by omega)]
  simp [Pg.zs]
  rw [List.getElem?_replicate, if_pos (by omega)]
/-- a torn page that is whole all the same is as it was -/
theorem torn_seal {k n k' n' a : Nat} {b b' : List UInt8} (hb : b.length ≤ 244) (hb' : b'.length ≤ 243) (ha : a ≤ 256) (h : tornL (sealL k n b) a = sealL k' n' b') : tornL (sealL k n b) a = sealL k n b := by
  have hl := Pg.sealL_length k n b hb
  rcases Nat.lt_or_ge a 252 with h1 | h1
  · have h2 := seal_251 (k := k') (n := n') hb'
    rw [← h] at h2
    unfold tornL at h2
    rw [List.getElem?_append_right (by simp; omega), List.getElem?_replicate] at h2
    simp only [List.length_take] at h2
    split at h2
    · simp at h2
    · cases h2
  · have h2 := congrArg (List.take 252) h
    have h3 := congrArg (List.drop 252) h
    have h4 : (tornL (sealL k n b) a).take 252 = (sealL k n b).take 252 := by
      unfold tornL
      rw [List.take_append_of_le_length (by simp; omega), List.take_take, Nat.min_eq_left h1]
    rw [h4, Pg.seal_take k n b hb, Pg.seal_take k' n' b' (by omega)] at h2
    rw [Pg.seal_drop k' n' b' (by omega), ← h2, ← Pg.seal_drop k n b hb] at h3
    rw [← List.take_append_drop 252 (tornL (sealL k n b) a), h3, h4, List.take_append_drop]
/-- an entry's bytes are fewer -/
theorem enc_short {kd tx ix pk pn : Int} {b : ByteArray} {ct sm : Int} (_ : 0 ≤ sm) (h : mayE kd tx ix pk pn b ct sm) : (encR kd tx ix pk pn b ct sm).1.size ≤ 243 := by
  rw [En.encR_yes h]
  have hb : b.data.toList.length = b.size := by simp
  show (En.encE _ _ _ _ _ _ _ _).toArray.size ≤ 243
  rw [List.size_toArray]
  obtain ⟨_, _, _, _, hr⟩ := h
  rcases hr with ⟨rfl, h2, -⟩ | ⟨rfl, -⟩ | ⟨rfl, -⟩
  · have := h2.2.2.2.2.2
    simp [En.encE, En.headE_length, Fd.be_length]; omega
  · simp [En.encE, En.headE_length, Fd.be_length]
  · simp [En.encE, En.headE_length]
theorem isJ_seal {u : ByteArray} {m i t : Nat} {kd pk pn : Int} {bo : ByteArray} {ct sm : Int} (h : IsJ u m i t kd pk pn bo ct sm) : ∃ S : List UInt8, S.length ≤ 243 ∧ u.data.toList = sealL 5 m S := by
  obtain ⟨S, h1, h2, _, h4, h5⟩ := h
  have hz := enc_short h2 h4
  rw [h5] at hz
  refine ⟨S.data.toList, by simpa using hz, ?_⟩
  obtain ⟨_, h6 | ⟨k', n', b', hm, hl, ho⟩⟩ := Pg.open_back u.data.toList (by rw [h1])
  · rw [h6.2] at h1; cases h1
  · rw [ho] at h1
    injection h1 with e1 h1; injection h1 with e2 h1; injection h1 with e3 _
    subst e1 e2 e3
    exact hl.symm
theorem isJ_torn {v : ByteArray} {a m m' i t : Nat} {S : List UInt8} (hv : v.data.toList = sealL 5 m S) (hS : S.length ≤ 244) (ha : a ≤ 256) {kd pk pn : Int} {bo : ByteArray} {ct sm : Int} (h : IsJ (tornB v a) m' i t kd pk pn bo ct sm) : tornB v a = v := by
  obtain ⟨S', h1, h2⟩ := isJ_seal h
  apply text_inj
  show (tornL v.data.toList a).toArray.toList = _
  have h3 : (tornB v a).data.toList = tornL v.data.toList a := List.toList_toArray
  rw [List.toList_toArray, hv]
  rw [h3, hv] at h2
  exact torn_seal hS h1 ha h2
/-- with what each write comes -/
theorem come_out {s : St} (h : Dk.Good s) {ks : List Int} {torn a : Int} {o : List ByteArray} (hc : comeS s ks torn a = some o) : o.length = s.waits.length ∧ ∀ j, j < s.waits.length → o.getD j emptyB = emptyB ∨ o.getD j emptyB = textAt s j ∨ ∃ x ≤ 256, o.getD j emptyB = tornB (textAt s j) x := by
  unfold comeS at hc
  cases he : keepL s ks (none0 s) with
  | none => rw [he] at hc; cases hc
  | some o1 =>
    rw [he] at hc
    have hval := keep_valid h ks o1 he ks.length (Nat.le_refl _)
    obtain ⟨o', h1, h2⟩ := keep_ok h ks ks.length (Nat.le_refl _) hval
    rw [List.take_length, he] at h1
    injection h1 with h1
    subst h1
    have base : ∀ j, j < s.waits.length → o1.getD j emptyB = emptyB ∨ o1.getD j emptyB = textAt s j := fun j hj => by
      rw [h2.2 j hj]; split
      · exact .inr rfl
      · exact .inl rfl
    simp only at hc
    by_cases ht : torn = -1
    · rw [if_pos ht] at hc
      injection hc with hc; subst hc
      exact ⟨h2.1, fun j hj => (base j hj).imp id .inl⟩
    · rw [if_neg ht] at hc
      by_cases hf : freeB o1 torn = true
      · rw [if_pos hf] at hc
        by_cases ha : 0 ≤ a ∧ a ≤ 256
        · rw [if_pos ha] at hc
          injection hc with hc; subst hc
          refine ⟨by rw [List.length_set]; exact h2.1, fun j hj => ?_⟩
          by_cases e : j = torn.toNat
          · subst e
            refine .inr (.inr ⟨a.toNat, by omega, ?_⟩)
            rw [List.getD_eq_getElem?_getD, List.getElem?_set_self (by rw [h2.1]; exact hj)]; rfl
          · rw [List.getD_eq_getElem?_getD, List.getElem?_set_ne (Ne.symm e), ← List.getD_eq_getElem?_getD]
            exact (base j hj).imp id .inl
        · rw [if_neg ha] at hc; cases hc
      · rw [if_neg hf] at hc; cases hc
theorem crashP_at (s : St) (o : List ByteArray) (j : Nat) : ∀ k, k ≤ s.waits.length → (crashP s o k).getD j emptyB = s.pages.getD j emptyB ∨ ∃ i, ∃ h : i < s.waits.length, (s.waits[i]'h).1 = j ∧ (crashP s o k).getD j emptyB = o.getD i emptyB ∧ (o.getD i emptyB).toList.isEmpty = false
  | 0, _ => .inl rfl
  | k + 1, hk => by
    unfold crashP
    have ih := crashP_at s o j k (by omega)
    by_cases he : (o.getD k emptyB).toList.isEmpty = true
    · rw [if_pos he]; exact ih
    · rw [if_neg he]
      have hw : (s.waits.getD k (0, emptyB)) = s.waits[k]'(by omega) := by rw [List.getD_eq_getElem?_getD, List.getElem?_eq_getElem (by omega)]; rfl
      rw [hw]
      by_cases e : (s.waits[k]'(by omega)).1 = j
      · by_cases hl : j < (crashP s o k).length
        · refine .inr ⟨k, by omega, e, ?_, by simpa using he⟩
          rw [e, List.getD_eq_getElem?_getD, List.getElem?_set_self hl]; rfl
        · left
          rw [List.getD_eq_getElem?_getD, List.getElem?_eq_none (by rw [List.length_set]; omega), List.getD_eq_getElem?_getD, List.getElem?_eq_none (by rw [crashP_length] at hl; omega)]
      · rw [List.getD_eq_getElem?_getD, List.getElem?_set_ne e, ← List.getD_eq_getElem?_getD]; exact ih
/-- the disk's pages, and what waits: of the new ones -/
structure Wt (s : St) (OLD NEW : Nat → ByteArray) : Prop where
  old : ∀ j, s.pages.getD j emptyB = OLD j
  wait : ∀ x ∈ s.waits, x.2 = NEW x.1
theorem Wt.wr {s : St} {OLD NEW : Nat → ByteArray} (h : Wt s OLD NEW) (m : Nat) : Wt (wrU s (m : Int) (NEW m)).2 OLD NEW := by
  unfold wrU
  split
  · refine ⟨h.old, fun x hx => ?_⟩
    have hx : x ∈ s.waits ++ [((m : Int).toNat, NEW m)] := hx
    rcases List.mem_append.1 hx with e | e
    · exact h.wait x e
    · rw [List.mem_singleton.1 e, Int.toNat_natCast]
  · exact h
theorem crash_vw (s : St) (o : List ByteArray) : vw (crashS s o) = fun j => (crashP s o s.waits.length).getD j emptyB := rfl
theorem Wt.crash {s : St} {OLD NEW : Nat → ByteArray} (hg : Dk.Good s) (h : Wt s OLD NEW) {ks : List Int} {torn a : Int} {o : List ByteArray} (hc : comeS s ks torn a = some o) (j : Nat) : vw (crashS s o) j = OLD j ∨ vw (crashS s o) j = NEW j ∨ ∃ x ≤ 256, vw (crashS s o) j = tornB (NEW j) x := by
  obtain ⟨hl, ho⟩ := come_out hg hc
  rw [crash_vw]
  rcases crashP_at s o j s.waits.length (Nat.le_refl _) with e | ⟨i, hi, e1, e2, e3⟩
  · exact .inl (e.trans (h.old j))
  · have ht : textAt s i = NEW j := by rw [textAt_of s i hi, h.wait _ (List.getElem_mem hi), e1]
    have h4 := ho i hi
    rw [ht] at h4
    show _ ∨ _ ∨ _
    rcases h4 with h4 | h4 | ⟨x, hx, h4⟩
    · rw [h4, emptyB_nil] at e3; cases e3
    · exact .inr (.inl (e2.trans h4))
    · exact .inr (.inr ⟨x, hx, e2.trans h4⟩)
/-- of a crash's pages all are scanned, or none -/
theorem scan_mixed {V OLD NEW : Nat → ByteArray} {b n t : Nat} (ok : JOk b n t) {L : List PageT} (h0 : 0 < L.length) (hs : AllS L) (hl : L.length < n) (hnew : ∀ i, i < L.length → NEW (b + i) = stg b t L i) (hcm : NEW (b + L.length) = cmt b t L)
    (hv : ∀ j, V j = OLD j ∨ V j = NEW j ∨ ∃ x ≤ 256, V j = tornB (NEW j) x) (hold : ∀ j i kd pk pn bo ct sm, ¬ IsJ (OLD j) j i t kd pk pn bo ct sm) {r : Option (List PageT)} (hr : Scans V b n t 0 [] r) : r = none ∨ r = some L := by
  have hsl : ∀ i, i ≤ L.length → ∃ S : List UInt8, S.length ≤ 244 ∧ (NEW (b + i)).data.toList = sealL 5 (b + i) S := fun i hi => by
    rcases Nat.lt_or_ge i L.length with h | h
    · rw [hnew i h, stg_at h]
      have hz := enc_short (by decide) (may1 t i ok.t1 ok.t2 (by have := ok.n9; omega) (hs i h))
      exact ⟨_, by simpa using Nat.le_succ_of_le hz, List.toList_toArray⟩
    · obtain rfl : i = L.length := by omega
      rw [hcm]
      have hz := enc_short (U_fit (sumB (textS L L.length))).1 (may2 t L.length _ ok.t1 ok.t2 (by have := ok.n9; omega) h0)
      exact ⟨_, by simpa using Nat.le_succ_of_le hz, List.toList_toArray⟩
  have hmust : ∀ i, i ≤ L.length → ∀ kd pk pn bo ct sm, IsJ (V (b + i)) (b + i) i t kd pk pn bo ct sm → V (b + i) = NEW (b + i) := fun i hi kd pk pn bo ct sm hj => by
    rcases hv (b + i) with h | h | ⟨x, hx, h⟩
    · rw [h] at hj; exact absurd hj (hold _ _ _ _ _ _ _ _)
    · exact h
    · obtain ⟨S, g1, g2⟩ := hsl i hi
      rw [h] at hj
      exact h.trans (isJ_torn g2 g1 hx hj)
  have hsg : ∀ i (h : i < L.length), IsJ (NEW (b + i)) (b + i) i t 1 L[i].1 L[i].2.1 L[i].2.2 0 0 := fun i h => by
    rw [hnew i h, stg_at h]
    exact isJ_pgJ (by decide) (by decide) (may1 t i ok.t1 ok.t2 (by have := ok.n9; omega) (hs i h)) (by have := ok.bn; omega)
  have hct : IsJ (NEW (b + L.length)) (b + L.length) L.length t 2 0 0 ⟨#[]⟩ (L.length : Nat) (U (sumB (textS L L.length))) := by
    rw [hcm]
    exact isJ_pgJ (U_fit _).1 (U_fit _).2 (may2 t L.length _ ok.t1 ok.t2 (by have := ok.n9; omega) h0) (by have := ok.bn; omega)
  have all : ∀ i acc r, Scans V b n t i acc r → i ≤ L.length → acc = L.take i → r = none ∨ r = some L := by
    intro i acc r h
    induction h with
    | stop _ => exact fun _ _ => .inl rfl
    | no _ _ => exact fun _ _ => .inl rfl
    | other _ _ _ _ => exact fun _ _ => .inl rfl
    | @page i acc pk pn bo ct sm r h hj _ ih =>
      intro hi hacc
      have hV := hmust i hi _ _ _ _ _ _ hj
      rw [hV] at hj
      rcases Nat.lt_or_ge i L.length with h2 | h2
      · obtain ⟨-, -, -, rfl, rfl, rfl, -, -⟩ := isJ_same hj (hsg i h2)
        refine ih (by omega) ?_
        rw [hacc, List.take_succ_eq_append_getElem h2]
      · obtain rfl : i = L.length := by omega
        exact absurd (isJ_same hj hct).1 (by decide)
    | @done i acc kd pk pn bo ct sm h hj hk he =>
      intro hi hacc
      have hV := hmust i hi _ _ _ _ _ _ hj
      rw [hV] at hj
      rcases Nat.lt_or_ge i L.length with h2 | h2
      · exact absurd (isJ_same hj (hsg i h2)).1 hk
      · obtain rfl : i = L.length := by omega
        rw [hacc, List.take_length]; exact .inr rfl
  exact all 0 [] r hr (Nat.zero_le _) rfl
end Go.Proofs.YtpobhdhfhnnajaaDoor.Jn

/- The document's own disk in memory: as the program's, the fields in another order. -/
namespace Go.Proofs.YtpobhdhfhnnajaaDoor.Dk
open Go.RowKit
open Go.Lib (hid)
structure Rk (w : World) (d : Ptrs) (s : St) : Prop where
  head : w.heap[d.D]? = some (.cells #[.slice (some ⟨d.P, 0, none⟩) s.pages.length d.cp, d.wv, .int .i64 s.reads, .int .i64 s.writes, .int .i64 s.flushes, .int .i64 s.fuse] 76 (0, 0))
  pages : ∃ cur, w.heap[d.P]? = some (.cells cur 9 (0, 0)) ∧ cur.size = d.cp ∧ s.pages.length ≤ d.cp ∧ d.cp ≤ maxLen ∧ cur.toList.take s.pages.length = sv s.pages
  waits : w.ownsRow 0 90 2 d.wv s.waits.length (wcells s.waits)
  dp : d.D ≠ d.P
  dw : d.wv.ownBlock ≠ some d.D
  pw : d.wv.ownBlock ≠ some d.P
  good : Good s
theorem Rk.ltD {w : World} {d : Ptrs} {s : St} (h : Rk w d s) : d.D < w.heap.size := (Array.getElem?_eq_some_iff.1 h.head).1
theorem Rk.ltP {w : World} {d : Ptrs} {s : St} (h : Rk w d s) : d.P < w.heap.size := by
  obtain ⟨cur, hc, _⟩ := h.pages; exact (Array.getElem?_eq_some_iff.1 hc).1
theorem Rk.lt {w : World} {d : Ptrs} {s : St} (h : Rk w d s) : ∀ k, Foot d k → k < w.heap.size := by
  rintro k (rfl | rfl | hk)
  · exact h.ltD
  · exact h.ltP
  · exact (h.waits.lt k hk).2
/-- what leaves a disk's blocks alone leaves the disk -/
theorem Rk.kept {w w' : World} {d : Ptrs} {s : St} (h : Rk w d s) (hb : ∀ k, Foot d k → w'.heap[k]? = w.heap[k]?) : Rk w' d s := by
  refine ⟨by rw [hb _ (.inl rfl)]; exact h.head, ?_, ?_, h.dp, h.dw, h.pw, h.good⟩
  · rw [hb _ (.inr (.inl rfl))]; exact h.pages
  · refine ⟨h.waits.1, ?_⟩
    rcases h.waits.2 with hn | ⟨g, cap, cur, hv, hb0, hg, rest⟩
    · exact .inl hn
    · refine .inr ⟨g, cap, cur, hv, hb0, ?_, rest⟩
      rw [hb g (.inr (.inr (by rw [hv]; rfl)))]; exact hg
theorem Rk.below {w w' : World} {d : Ptrs} {s : St} (h : Rk w d s) (hb : Below w.heap.size w w') : Rk w' d s := h.kept fun k hk => hb.block k (h.lt k hk)
theorem Rk.drew {w : World} {d : Ptrs} {s : St} (h : Rk w d s) : Rk w.drew d s := ⟨h.head, h.pages, h.waits, h.dp, h.dw, h.pw, h.good⟩
theorem Rk.drewN {w : World} {d : Ptrs} {s : St} (h : Rk w d s) (n : Nat) : Rk (w.drewN n) d s := ⟨h.head, h.pages, h.waits, h.dp, h.dw, h.pw, h.good⟩
theorem Rk.other {w w' : World} {d d2 : Ptrs} {s : St} (h : Rk w d s) (ho : Only d2 w w') (hd : ∀ k, Foot d k → ¬ Foot d2 k) : Rk w' d s :=
  h.kept fun k hk => ho.block k (h.lt k hk) (hd k hk)
/-- the struct's cells -/
theorem Rk.cells {w : World} {d : Ptrs} {s : St} (h : Rk w d s) :
    w.cell? ⟨d.D, 0, none⟩ = some (.slice (some ⟨d.P, 0, none⟩) s.pages.length d.cp) ∧ w.cell? ⟨d.D, 1, none⟩ = some d.wv ∧ w.cell? ⟨d.D, 2, none⟩ = some (.int .i64 s.reads) ∧
    w.cell? ⟨d.D, 3, none⟩ = some (.int .i64 s.writes) ∧ w.cell? ⟨d.D, 4, none⟩ = some (.int .i64 s.flushes) ∧ w.cell? ⟨d.D, 5, none⟩ = some (.int .i64 s.fuse) := by
  refine ⟨?_, ?_, ?_, ?_, ?_, ?_⟩ <;> rw [cell_of_row _ _ _ _ _ _ h.head] <;> rfl
theorem Rk.free {w : World} {d : Ptrs} {s : St} (h : Rk w d s) (i : Nat) : w.frozen? ⟨d.D, i, none⟩ = false := frozen_of_row _ _ _ _ _ h.head
/-- a page's cell -/
theorem Rk.page {w : World} {d : Ptrs} {s : St} (h : Rk w d s) (i : Nat) (hi : i < s.pages.length) : w.cell? ⟨d.P, i, none⟩ = some (.string s.pages[i]) := by
  obtain ⟨cur, hc, _, _, _, ht⟩ := h.pages
  rw [cell_of_row _ _ _ _ _ _ hc]
  have e : (cur.toList.take s.pages.length)[i]? = (sv s.pages)[i]? := by rw [ht]
  rw [List.getElem?_take_of_lt hi] at e
  simp [sv, hi] at e
  simpa using e
theorem Rk.pfree {w : World} {d : Ptrs} {s : St} (h : Rk w d s) (i : Nat) : w.frozen? ⟨d.P, i, none⟩ = false := by
  obtain ⟨cur, hc, _⟩ := h.pages
  exact frozen_of_row _ _ _ _ _ hc
/-- a field of the struct is stored -/
theorem Rk.store {w : World} {d : Ptrs} {s : St} (h : Rk w d s) (i : Nat) (v : Value) (s' : St) (hp : s'.pages = s.pages) (hw : s'.waits = s.waits) (hg : Good s')
    (hc : (#[.slice (some ⟨d.P, 0, none⟩) s.pages.length d.cp, d.wv, .int .i64 s.reads, .int .i64 s.writes, .int .i64 s.flushes, .int .i64 s.fuse] : Array Value).setIfInBounds i v =
      #[.slice (some ⟨d.P, 0, none⟩) s.pages.length d.cp, d.wv, .int .i64 s'.reads, .int .i64 s'.writes, .int .i64 s'.flushes, .int .i64 s'.fuse]) :
    Rk (w.setCell ⟨d.D, i, none⟩ v) d s' := by
  have ho : ∀ k, k ≠ d.D → (w.setCell ⟨d.D, i, none⟩ v).heap[k]? = w.heap[k]? := fun k hk => heap_setCell_other _ _ _ _ hk
  refine ⟨?_, ?_, ?_, h.dp, h.dw, h.pw, hg⟩
  · rw [heap_setCell_same _ _ _ _ _ _ h.head, hc, hp]
  · rw [hp, ho _ (Ne.symm h.dp)]; exact h.pages
  · rw [hw]
    refine ⟨h.waits.1, ?_⟩
    rcases h.waits.2 with hn | ⟨g, cap, cur, hv, hb0, hg, rest⟩
    · exact .inl hn
    · refine .inr ⟨g, cap, cur, hv, hb0, ?_, rest⟩
      rw [ho g (fun e => h.dw (by rw [hv, e]; rfl))]; exact hg
/-- what a write that waits reads as -/
theorem Rk.wait {w : World} {d : Ptrs} {s : St} (h : Rk w d s) {g n cap : Nat} (hv : d.wv = .slice (some ⟨g, 0, none⟩) n cap) (k : Nat) (hk : k < s.waits.length) :
    w.cell? ⟨g, k * 2, none⟩ = some (.int .i64 (s.waits[k].1 : Int)) ∧ w.cell? ⟨g, k * 2 + 1, none⟩ = some (.string s.waits[k].2) := by
  have hc := h.waits.cells (g := g) (by rw [hv]; rfl)
  have hat : ∀ (l : List (Nat × ByteArray)) (k : Nat) (hk : k < l.length), (wcells l)[k * 2]? = some (.int .i64 (l[k].1 : Int)) ∧ (wcells l)[k * 2 + 1]? = some (.string l[k].2) := by
    intro l
    induction l with
    | nil => intro k hk; simp at hk
    | cons x l ih =>
      intro k hk
      have e : wcells (x :: l) = .int .i64 (x.1 : Int) :: .string x.2 :: wcells l := rfl
      rw [e]
      cases k with
      | zero => simp
      | succ k =>
        have := ih k (by simpa using hk)
        rw [show (k + 1) * 2 = k * 2 + 1 + 1 by omega, show k * 2 + 1 + 1 + 1 = k * 2 + 1 + 1 + 1 from rfl]
        simpa using this
  have hadd : ∀ j, (⟨g, 0, none⟩ : Addr).add j = ⟨g, j, none⟩ := fun j => by unfold Addr.add; split <;> simp_all
  obtain ⟨h1, h2⟩ := hat s.waits k hk
  have c1 := hc _ _ h1
  have c2 := hc _ _ h2
  rw [hadd] at c1 c2
  exact ⟨c1, c2⟩
/-- a page is stored -/
theorem Rk.putPage {w : World} {d : Ptrs} {s : St} (h : Rk w d s) (i : Nat) (t : ByteArray) (s' : St) (hp : s'.pages = s.pages.set i t) (hw : s'.waits = s.waits) (hf : s'.fuse = s.fuse) (hr : s'.reads = s.reads) (hwr : s'.writes = s.writes) (hfl : s'.flushes = s.flushes) (hg : Good s') :
    Rk (w.setCell ⟨d.P, i, none⟩ (.string t)) d s' := by
  obtain ⟨cur, hc, hsz, hle, hmx, htk⟩ := h.pages
  have hlen : s'.pages.length = s.pages.length := by rw [hp]; simp
  refine ⟨?_, ⟨cur.setIfInBounds i (.string t), ?_, by simpa using hsz, by rw [hlen]; exact hle, hmx, ?_⟩, ?_, h.dp, h.dw, h.pw, hg⟩
  · rw [heap_setCell_other _ _ _ _ h.dp, h.head, hlen, hf, hr, hwr, hfl]
  · exact heap_setCell_same _ _ _ _ _ _ hc
  · rw [hlen, hp]
    rw [Array.toList_setIfInBounds, List.take_set, htk]
    simp [sv, List.map_set]
  · rw [hw]
    refine ⟨h.waits.1, ?_⟩
    rcases h.waits.2 with hn | ⟨g, cap, cur', hv, hb0, hg', rest⟩
    · exact .inl hn
    · refine .inr ⟨g, cap, cur', hv, hb0, ?_, rest⟩
      rw [heap_setCell_other _ _ _ _ (fun e => h.pw (by rw [hv, e]; rfl))]; exact hg'
theorem Rk.alloc {w : World} {d : Ptrs} {s : St} (h : Rk w d s) (o : Obj) : Rk (w.alloc o) d s := h.below ((Below.refl _ _).alloc (Nat.le_refl _) o)
/-- what the disk is when its waits have grown -/
theorem Rk.pushed {w w2 : World} {d : Ptrs} {s : St} (h : Rk w d s) {g cap n : Nat} {t : ByteArray} (hn : n < s.pages.length) (ht : t.size = 256) (hf : s.waits.length < 1000000)
    (ho : w2.ownsRow 0 90 2 (.slice (some ⟨g, 0, none⟩) (s.waits.length + 1) cap) (s.waits.length + 1) (wcells s.waits ++ [.int .i64 n, .string t])) (hg : w.grownBy w2 d.wv.ownBlock) (hat : d.wv.ownBlock = some g ∨ g = w.heap.size) :
    Rk (w2.setCell ⟨d.D, 1, none⟩ (.slice (some ⟨g, 0, none⟩) (s.waits.length + 1) cap)) { d with wv := .slice (some ⟨g, 0, none⟩) (s.waits.length + 1) cap } (pushS s n t) := by
  have hgD : g ≠ d.D := by
    rcases hat with h1 | h1
    · intro e; exact h.dw (by rw [h1, e])
    · have := h.ltD; omega
  have hgP : g ≠ d.P := by
    rcases hat with h1 | h1
    · intro e; exact h.pw (by rw [h1, e])
    · have := h.ltP; omega
  have hD : w2.heap[d.D]? = w.heap[d.D]? := hg.block _ h.ltD (Ne.symm h.dw)
  have hP : w2.heap[d.P]? = w.heap[d.P]? := hg.block _ h.ltP (Ne.symm h.pw)
  refine ⟨?_, ?_, ?_, h.dp, ?_, ?_, push_good h.good hn ht hf⟩
  · rw [heap_setCell_same _ _ _ _ _ _ (by rw [hD]; exact h.head)]; rfl
  · show ∃ cur, (w2.setCell _ _).heap[d.P]? = _ ∧ _
    rw [heap_setCell_other _ _ _ _ (Ne.symm h.dp), hP]; exact h.pages
  · have e1 : (pushS s n t).waits.length = s.waits.length + 1 := by simp [pushS]
    have e2 : wcells (pushS s n t).waits = wcells s.waits ++ [.int .i64 n, .string t] := wcells_push _ _ _
    rw [e1, e2]
    refine ⟨ho.1, ?_⟩
    rcases ho.2 with ⟨hv, _⟩ | ⟨g', cap', cur, hv, hb0, hg', rest⟩
    · cases hv
    · refine .inr ⟨g', cap', cur, hv, hb0, ?_, rest⟩
      have : g' = g := by cases hv; rfl
      rw [this, heap_setCell_other _ _ _ _ hgD, ← this]; exact hg'
  · show some g ≠ some d.D
    intro e; exact hgD (by injection e)
  · show some g ≠ some d.P
    intro e; exact hgP (by injection e)
/-- where the waits stand, if there are any -/
theorem Rk.waitsAt {w : World} {d : Ptrs} {s : St} (h : Rk w d s) : ∃ p cap, d.wv = .slice p s.waits.length cap := by
  rcases h.waits.2 with ⟨hv, h0⟩ | ⟨g, cap, cur, hv, _⟩
  · exact ⟨none, 0, by rw [hv, h0]⟩
  · exact ⟨_, cap, hv⟩
theorem Rk.someAt {w : World} {d : Ptrs} {s : St} (h : Rk w d s) {p : Option Addr} {cap : Nat} (hv : d.wv = .slice p s.waits.length cap) (hn : 0 < s.waits.length) : ∃ gw, p = some ⟨gw, 0, none⟩ := by
  rcases h.waits.2 with ⟨_, h0⟩ | ⟨g, cap', cur, hv', _⟩
  · omega
  · rw [hv] at hv'; injection hv' with h1; exact ⟨g, h1⟩
/-- the waits are let go -/
theorem Rk.gone {w : World} {d : Ptrs} {s : St} (h : Rk w d s) : Rk (w.setCell ⟨d.D, 1, none⟩ (.slice none 0 0)) { d with wv := .slice none 0 0 } (noWaits s) := by
  refine ⟨?_, ?_, World.ownsRow_nil _ _ _ _, h.dp, by simp [Value.ownBlock], by simp [Value.ownBlock], noWaits_good h.good⟩
  · rw [heap_setCell_same _ _ _ _ _ _ h.head]; rfl
  · show ∃ cur, (w.setCell _ _).heap[d.P]? = _ ∧ _
    rw [heap_setCell_other _ _ _ _ (Ne.symm h.dp)]; exact h.pages
end Go.Proofs.YtpobhdhfhnnajaaDoor.Dk

/- The document's own disk: burn, Write, Flush. -/
namespace Go.Proofs.YtpobhdhfhnnajaaDoor.Dk
open Go.RowKit
open Go.Lib (hid)

set_option maxHeartbeats 400000 in
theorem rburn_ok (d : Ptrs) (s : St) (w : World) (h : Rk w d s) :
    Calls Tryd.prog 58 #[.pointer (some ⟨d.D, 0, none⟩)] w fun e w' => e = .returned (.tuple #[]) ∧ Rk w' d (burnS s) ∧ Only d w w' := by
  have c := h.cells
  have f := h.free 5
  have hg := h.good.fuse
  by_cases hf : 0 < s.fuse
  · have hd : Rk (w.setCell ⟨d.D, 5, none⟩ (.int .i64 (s.fuse - 1))) d (burnS s) :=
      h.store 5 _ (burnS s) rfl rfl (burn_good h.good) (by simp [burnS, burnI, hf])
    have HS := hid (And.intro hd ((Only.refl d w).store 5 (.int .i64 (s.fuse - 1)))); clear h hd
    go_enter Tryd.func58, Tryd.ntmps58
    go_wp2_with fail
    refine bodyPost_end (v := .tuple #[]) (by simp [results, Tryd.results58, go_sem]) rfl ⟨rfl, ?_⟩
    exact HS.out
  · have e : burnS s = s := by unfold burnS burnI; rw [if_neg hf]
    have HS := hid h; clear h
    rw [e]
    go_enter Tryd.func58, Tryd.ntmps58
    go_wp2_with fail
    refine bodyPost_end (v := .tuple #[]) (by simp [results, Tryd.results58, go_sem]) rfl ⟨rfl, ?_⟩
    exact ⟨HS.out, Only.refl _ _⟩
theorem rinfo : (Tryd.prog.info? 90).map (fun i => (i.zero, i.size, i.bytes)) = some (some (.agg #[.int .i64 0, .string ⟨#[]⟩]), 2, 24) := by kernel_rfl
set_option maxRecDepth 100000 in
set_option maxHeartbeats 1000000 in
theorem rwrite_ok (d : Ptrs) (s : St) (n : Nat) (t : ByteArray) (w : World) (h : Rk w d s) (hn : n < s.pages.length) (ht : t.size = 256) (hfz : s.fuse ≠ 0) (hf : s.waits.length < 1000000) (hw : s.writes < 1000000) :
    Calls Tryd.prog 57 #[.pointer (some ⟨d.D, 0, none⟩), .int .i64 n, .string t] w fun e w' => e = .returned (.int .i64 0) ∧ ∃ v, Rk w' { d with wv := v } (writeS s n t) ∧ Only d w w' ∧ From d { d with wv := v } w := by
  obtain ⟨i0, hi0, hz0, hz1, hz2⟩ := info_parts rinfo
  have e1 : decide ((n : Int) < 0) = false := by simp
  have e2 : decide ((s.pages.length : Int) ≤ (n : Int)) = false := decide_eq_false (by omega)
  have e2' : decide (s.pages.length ≤ n) = false := decide_eq_false (by omega)
  have e3 : ((t.size : Int) != 256) = false := by simp; omega
  have e4 : (s.fuse == 0) = false := by simpa using hfz
  have hmax : s.waits.length + 1 ≤ maxLen := by unfold maxLen; omega
  have hby : (s.waits.length + 1) * 24 ≤ 140737488355328 := by omega
  have HH := hid h
  obtain ⟨c0, c1, c2, c3, c4, c5⟩ := h.cells
  have HN := hid (And.intro hn (And.intro ht hf))
  have HW := hid hw
  clear h hn ht hf hfz hw
  go_enter Tryd.func57, Tryd.ntmps57
  go_wp2_with fail
  refine (rburn_ok d s _ HH.out).mono ?_
  rintro e w1 ⟨rfl, hd, ho⟩
  have H1 := hid hd; have HO1 := hid ho
  clear e1 e2 e2' e3 e4 c0 c1 c2 c3 c4 c5 ho
  obtain ⟨-, c1, -, -, -, -⟩ := hd.cells
  clear hd
  go_wp2_with (at_builtin; refine wpList_append_lies _ rfl _ _ 74 rfl 0 90 i0 (.agg #[.int .i64 0, .string ⟨#[]⟩]) 2 24 Tryd.underlying74 hi0 hz0 hz1 hz2 rfl (by decide) d.wv s.waits.length (wcells s.waits) rfl (H1.out.waits.alloc _) ⟨w1.heap.size, 0, none⟩ 1 1 [.int .i64 n, .string t] (by rfl) (by rfl) (World.news_of_block (cs := #[.int .i64 n, .string t]) (t := 90) (fr := (0, 0)) (heap_alloc_new w1 _)) (by simp [Value.oneCell']) (by omega) hmax hby (by omega) (w1.heap.size + 1) (by simp) ?_)
  intro gg cap w2 hown hgrow hat hlt
  have hA := H1.out.below ((Below.refl w1.heap.size w1).alloc (Nat.le_refl _) (.cells #[.int .i64 n, .string t] 90))
  have hD := hA.pushed HN.out.1 HN.out.2.1 HN.out.2.2 hown hgrow (by simpa using hat)
  have hon : Only d w (w1.alloc (.cells #[.int .i64 n, .string t] 90)) := HO1.out.alloc _
  have hon2 := Only.pushed hon (v := .slice (some ⟨gg, 0, none⟩) (s.waits.length + 1) cap) hgrow
  have hfr : From d { d with wv := .slice (some ⟨gg, 0, none⟩) (s.waits.length + 1) cap } w := by
    rintro k (rfl | rfl | hk)
    · exact .inl (.inl rfl)
    · exact .inl (.inr (.inl rfl))
    · have : gg = k := by injection hk
      subst this
      rcases hat with h1 | h1
      · exact .inl (.inr (.inr h1))
      · right; have := HO1.out.size; omega
  have q4 : w2.cell? ⟨d.D, 1, none⟩ = some d.wv := by rw [hgrow.cell_far _ (by have := H1.out.ltD; simp; omega) (fun e => H1.out.dw e.symm)]; exact hA.cells.2.1
  have q3 : w2.frozen? ⟨d.D, 1, none⟩ = false := by rw [hgrow.frozen_far _ (by have := H1.out.ltD; simp; omega) (fun e => H1.out.dw e.symm)]; exact hA.free 1
  have HD := hid hD; have HON := hid hon2; have HF := hid hfr
  have hwb := hD.good.writes
  have hwb1 : 0 ≤ s.writes := hwb.1
  have hwb2 : s.writes ≤ 1000000 := hwb.2
  have x3 : (w2.setCell ⟨d.D, 1, none⟩ (.slice (some ⟨gg, 0, none⟩) (s.waits.length + 1) cap)).cell? ⟨d.D, 3, none⟩ = some (.int .i64 s.writes) := hD.cells.2.2.2.1
  have f3 : (w2.setCell ⟨d.D, 1, none⟩ (.slice (some ⟨gg, 0, none⟩) (s.waits.length + 1) cap)).frozen? ⟨d.D, 3, none⟩ = false := hD.free 3
  have hd4 : Rk ((w2.setCell ⟨d.D, 1, none⟩ (.slice (some ⟨gg, 0, none⟩) (s.waits.length + 1) cap)).setCell ⟨d.D, 3, none⟩ (.int .i64 (s.writes + 1))) { d with wv := .slice (some ⟨gg, 0, none⟩) (s.waits.length + 1) cap } (writeS s n t) :=
    hD.store 3 _ (countW (pushS (burnS s) n t)) rfl rfl (countW_good hD.good HW.out) rfl
  have HD4 := hid hd4
  have HON4 := hid (hon2.store 3 (.int .i64 (s.writes + 1)))
  clear hA hD hon hon2 hfr hown hgrow hat hlt hwb hd4 c1
  go_wp2_with fail
  go_ret
  exact ⟨rfl, _, HD4.out, HON4.out, HF.out⟩
set_option maxHeartbeats 1000000 in
theorem rwrite_bad (d : Ptrs) (s : St) (n : Int) (t : ByteArray) (w : World) (h : Rk w d s) (hb : n < 0 ∨ s.pages.length ≤ n ∨ t.size ≠ 256 ∨ s.fuse = 0) :
    Calls Tryd.prog 57 #[.pointer (some ⟨d.D, 0, none⟩), .int .i64 n, .string t] w fun e w' => e = .returned (.int .i64 1) ∧ w = w' := by
  obtain ⟨c0, c1, c2, c3, c4, c5⟩ := h.cells
  clear h
  by_cases h1 : n < 0
  · have e1 : decide (n < 0) = true := decide_eq_true h1
    clear hb h1
    go_enter Tryd.func57, Tryd.ntmps57
    go_wp2_with fail
    go_ret
    exact ⟨rfl, rfl⟩
  · have e1 : decide (n < 0) = false := decide_eq_false h1
    by_cases h2 : (s.pages.length : Int) ≤ n
    · have e2 : decide ((s.pages.length : Int) ≤ n) = true := decide_eq_true h2
      clear hb h1 h2
      go_enter Tryd.func57, Tryd.ntmps57
      go_wp2_with fail
      go_ret
      exact ⟨rfl, rfl⟩
    · have e2 : decide ((s.pages.length : Int) ≤ n) = false := decide_eq_false h2
      by_cases h3 : t.size = 256
      · have e3 : ((t.size : Int) != 256) = false := by simp; omega
        have h4 : s.fuse = 0 := by omega
        have e4 : (s.fuse == 0) = true := by simpa using h4
        clear hb h1 h2 h3 h4
        go_enter Tryd.func57, Tryd.ntmps57
        go_wp2_with fail
        go_ret
        exact ⟨rfl, rfl⟩
      · have e3 : ((t.size : Int) != 256) = true := by simp; omega
        clear hb h1 h2 h3
        go_enter Tryd.func57, Tryd.ntmps57
        go_wp2_with fail
        go_ret
        exact ⟨rfl, rfl⟩
set_option maxHeartbeats 400000 in
theorem rflush_dead (d : Ptrs) (s : St) (w : World) (h : Rk w d s) (hfz : s.fuse = 0) :
    Calls Tryd.prog 38 #[.pointer (some ⟨d.D, 0, none⟩)] w fun e w' => e = .returned (.int .i64 0) ∧ w = w' := by
  have e3 : (s.fuse == 0) = true := by simpa using hfz
  obtain ⟨c0, c1, c2, c3, c4, c5⟩ := h.cells
  clear h hfz
  go_enter Tryd.func38, Tryd.ntmps38
  go_wp2_with fail
  go_ret
  exact ⟨rfl, rfl⟩
set_option maxRecDepth 100000 in
set_option maxHeartbeats 4000000 in
theorem rflush_ok (d : Ptrs) (s : St) (w : World) (h : Rk w d s) (hfz : s.fuse ≠ 0) (hfl : s.flushes < 1000000) :
    Calls Tryd.prog 38 #[.pointer (some ⟨d.D, 0, none⟩)] w fun e w' => e = .returned (.int .i64 (s.waits.length : Int)) ∧ ∃ v, Rk w' { d with wv := v } (flushS s) ∧ Only d w w' ∧ From d { d with wv := v } w := by
  have e3 : (s.fuse == 0) = false := by simpa using hfz
  obtain ⟨c0, c1, c2, c3, c4, c5⟩ := h.cells
  have HH := hid h
  have HFL := hid hfl
  clear h hfz hfl
  go_enter Tryd.func38, Tryd.ntmps38
  go_wp2_with fail
  refine (rburn_ok d s _ HH.out).mono ?_
  rintro e w1 ⟨rfl, hd, ho⟩
  have H1 := hid hd; have HO1 := hid ho
  clear e3 c0 c1 c2 c3 c4 c5 hd ho
  obtain ⟨p, cap, hv⟩ := HH.out.waitsAt
  have HV := hid hv
  go_wp2_with fail
  go_loopw [3] (fun i wr => ∃ k : Nat, k ≤ s.waits.length ∧ i = .int .i64 k ∧ Rk wr d (partS (burnS s) k) ∧ Only d w wr) (fun i _ => s.waits.length - (intOf i).toNat)
  case atStart => exact ⟨0, by omega, rfl, H1.out, HO1.out⟩
  case round =>
    obtain ⟨k, hk, rfl, hD, hO⟩ := hrel
    have HD := hid hD; have HO := hid hO
    obtain ⟨c0, c1, c2, c3, c4, c5⟩ := hD.cells
    rw [hv] at c1
    change wr.cell? _ = some (Value.int .i64 s.flushes) at c4
    have hfew : s.waits.length ≤ 1000000 := HH.out.good.few
    clear hD hO hv
    by_cases hlt : k < s.waits.length
    · have e1 : decide ((k : Int) < (s.waits.length : Int)) = true := by simpa using hlt
      have e1' : decide (k < s.waits.length) = true := by simpa using hlt
      have z0 : (0 : Int) ≤ (k : Int) := by omega
      have z1 : (k : Int) < (s.waits.length : Int) := by omega
      obtain ⟨gw, rfl⟩ := HH.out.someAt HV.out (by omega)
      obtain ⟨x, hx⟩ : ∃ x, s.waits[k].1 = x := ⟨_, rfl⟩
      obtain ⟨t, ht⟩ : ∃ t, s.waits[k].2 = t := ⟨_, rfl⟩
      have cw : wr.cell? ⟨gw, k * 2, none⟩ = some (.int .i64 (x : Int)) ∧ wr.cell? ⟨gw, k * 2 + 1, none⟩ = some (.string t) := by
        have := HD.out.wait HV.out k hlt
        rw [← hx, ← ht]; exact this
      obtain ⟨cw1, cw2⟩ := cw
      have hxl : x < (partS (burnS s) k).pages.length := by
        have := (HH.out.good.wait s.waits[k] (List.getElem_mem hlt)).1
        rw [hx] at this
        show x < (applyW s.pages _).length
        rw [applyW_length]; exact this
      have hmore : (partS (burnS s) (k + 1)).pages = (partS (burnS s) k).pages.set x t := by
        have h := part_more s k hlt
        rw [hx, ht] at h; exact h
      have HM := hid hmore
      have c6 := HD.out.page x hxl
      have f6 := HD.out.pfree x
      have hpl : (partS (burnS s) k).pages.length ≤ 1000 := (part_good (burn_good HH.out.good) k).n2
      have z2 : (x : Int) < ((partS (burnS s) k).pages.length : Int) := by omega
      have z3 : (0 : Int) ≤ (x : Int) := by omega
      have HD2 := hid (HD.out.putPage x t (partS (burnS s) (k + 1)) HM.out rfl rfl rfl rfl rfl (part_good (burn_good HH.out.good) (k + 1)))
      have HO2 := hid (HO.out.putPage x (.string t))
      have HW := hid (show wrap64 ((k : Int) + 1) = ((k + 1 : Nat) : Int) from Go.IntWalk.wrap64_in _ (by omega))
      have HLT := hid hlt
      have n1 : d.D ≠ d.P := HD.out.dp
      have n2 : d.P ≠ d.D := Ne.symm HD.out.dp
      have n3 : gw ≠ d.P := fun e => HD.out.pw (by rw [HV.out, e]; rfl)
      have n4 : d.P ≠ gw := Ne.symm n3
      clear hx ht hmore
      go_wp2_with fail
      go_region_held3 (fun w' => w'.cell? ⟨d.D, 0, none⟩ = some (.slice (some ⟨d.P, 0, none⟩) (partS (burnS s) k).pages.length d.cp) ∧ w'.cell? ⟨d.D, 1, none⟩ = some (.slice (some ⟨gw, 0, none⟩) s.waits.length cap) ∧ w'.cell? ⟨gw, k * 2, none⟩ = some (.int .i64 (x : Int)) ∧ w'.cell? ⟨gw, k * 2 + 1, none⟩ = some (.string t)) (first | exact ⟨c0, c1, cw1, cw2⟩ | go_keep) (fail)
      go_wp2_with fail
      go_roundw
      case rel => exact ⟨k + 1, HLT.out, by go_num, HD2.out.drew, HO2.out.drew⟩
      case measure => simp [intOf]; omega
    · obtain rfl : k = s.waits.length := by omega
      have e1 : decide ((s.waits.length : Int) < (s.waits.length : Int)) = false := by simp
      have f1 := HD.out.free 1
      have hg := HD.out.gone
      have HG := hid hg
      have HGO := hid (HO.out.store 1 (.slice none 0 0))
      have x4 : (wr.setCell ⟨d.D, 1, none⟩ (.slice none 0 0)).cell? ⟨d.D, 4, none⟩ = some (.int .i64 s.flushes) := hg.cells.2.2.2.2.1
      have f4 : (wr.setCell ⟨d.D, 1, none⟩ (.slice none 0 0)).frozen? ⟨d.D, 4, none⟩ = false := hg.free 4
      have hb1 : 0 ≤ s.flushes := HH.out.good.flushes.1
      have hb2 : s.flushes ≤ 1000000 := HH.out.good.flushes.2
      have HG4 := hid (show Rk ((wr.setCell ⟨d.D, 1, none⟩ (.slice none 0 0)).setCell ⟨d.D, 4, none⟩ (.int .i64 (s.flushes + 1))) { d with wv := .slice none 0 0 } (flushS s) from
        hg.store 4 _ (countF (noWaits (partS (burnS s) (burnS s).waits.length))) rfl rfl (countF_good hg.good HFL.out) rfl)
      have HGO4 := hid (HGO.out.store 4 (.int .i64 (s.flushes + 1)))
      clear hg hk hlt
      go_wp2_with fail
      go_ret
      refine ⟨rfl, _, HG4.out, HGO4.out, ?_⟩
      rintro k (rfl | rfl | hk)
      · exact .inl (.inl rfl)
      · exact .inl (.inr (.inl rfl))
      · cases hk
end Go.Proofs.YtpobhdhfhnnajaaDoor.Dk

/- The document's own disk: Read, Waits. -/
namespace Go.Proofs.YtpobhdhfhnnajaaDoor.Dk
open Go.RowKit
open Go.Lib (hid)

set_option maxHeartbeats 400000 in
theorem rread_bad (d : Ptrs) (s : St) (n : Int) (w : World) (h : Rk w d s) (hb : n < 0 ∨ s.pages.length ≤ n) :
    Calls Tryd.prog 22 #[.pointer (some ⟨d.D, 0, none⟩), .int .i64 n] w fun e w' => e = .returned (.tuple #[.string ⟨#[]⟩, .int .i64 1]) ∧ w = w' := by
  obtain ⟨c0, c1, c2, c3, c4, c5⟩ := h.cells
  clear h
  by_cases h1 : n < 0
  · have e1 : decide (n < 0) = true := decide_eq_true h1
    clear hb h1
    go_enter Tryd.func22, Tryd.ntmps22
    go_wp2_with fail
    go_ret2
    exact ⟨rfl, rfl⟩
  · have e1 : decide (n < 0) = false := decide_eq_false h1
    have h2 : (s.pages.length : Int) ≤ n := by omega
    have e2 : decide ((s.pages.length : Int) ≤ n) = true := decide_eq_true h2
    clear hb h1 h2
    go_enter Tryd.func22, Tryd.ntmps22
    go_wp2_with fail
    go_ret2
    exact ⟨rfl, rfl⟩
set_option maxRecDepth 100000 in
set_option maxHeartbeats 1000000 in
theorem rread_ok (d : Ptrs) (s : St) (n : Nat) (w : World) (h : Rk w d s) (hn : n < s.pages.length) (hr : s.reads < 1000000) :
    Calls Tryd.prog 22 #[.pointer (some ⟨d.D, 0, none⟩), .int .i64 (n : Int)] w fun e w' => ∃ t, e = .returned (.tuple #[.string t, .int .i64 0]) ∧ (applyW s.pages s.waits)[n]? = some t ∧ Rk w' d (readS s) ∧ Only d w w' := by
  have HRK := hid (h.store 2 (.int .i64 (s.reads + 1)) (readS s) rfl rfl (readS_good h.good hr) rfl)
  have HON := hid ((Only.refl d w).store 2 (.int .i64 (s.reads + 1)))
  obtain ⟨c0, c1, c2, c3, c4, c5⟩ := h.cells
  have f2 := h.free 2
  have hr1 := h.good.reads.1
  have hr2 := h.good.reads.2
  have hfew := h.good.few
  have hpl := h.good.n2
  obtain ⟨p, cap, hv⟩ := h.waitsAt
  have HH := hid h
  have HV := hid hv
  have HN := hid hn
  have e1 : decide ((n : Int) < 0) = false := by simp
  have e2 : decide ((s.pages.length : Int) ≤ (n : Int)) = false := decide_eq_false (by omega)
  have e2' : decide (s.pages.length ≤ n) = false := decide_eq_false (by omega)
  have z0 : (0 : Int) ≤ (n : Int) := by omega
  have z1 : (n : Int) < (s.pages.length : Int) := by omega
  have x1 : (w.setCell ⟨d.D, 2, none⟩ (.int .i64 (s.reads + 1))).cell? ⟨d.D, 1, none⟩ = some (.slice p s.waits.length cap) := by rw [← hv]; exact HRK.out.cells.2.1
  have x0 : (w.setCell ⟨d.D, 2, none⟩ (.int .i64 (s.reads + 1))).cell? ⟨d.D, 0, none⟩ = some (.slice (some ⟨d.P, 0, none⟩) s.pages.length d.cp) := HRK.out.cells.1
  clear h hn hr
  rw [hv] at c1
  clear hv
  go_enter Tryd.func22, Tryd.ntmps22
  go_wp2_with fail
  clear c0 c1 c2 c3 c4 c5 f2 e1 e2 e2'
  generalize w.setCell ⟨d.D, 2, none⟩ (.int .i64 (s.reads + 1)) = W at *
  go_loopw [6] (fun i wr => ∃ k : Nat, k ≤ s.waits.length ∧ i = .int .i64 ((k : Int) - 1) ∧ wr = W ∧ ∀ q (hq : q < s.waits.length), k ≤ q → s.waits[q].1 ≠ n) (fun i _ => (intOf i + 1).toNat)
  case atStart => exact ⟨s.waits.length, by omega, by go_num, rfl, fun q hq hk => by omega⟩
  case round =>
    obtain ⟨k, hk, hi, rfl, hno⟩ := hrel
    have HNO := hid hno
    clear hno
    cases k with
    | zero =>
      obtain rfl := hi
      have hp := HRK.out.page n HN.out
      have HLAST := hid (last_eq s.pages n HN.out (s.pages[n]'HN.out) _ s.waits rfl (.inr ⟨fun j hj => HNO.out j hj (Nat.zero_le _), List.getElem?_eq_getElem HN.out⟩))
      change wr.cell? _ = some (Value.string (s.pages[n]'HN.out)) at hp
      generalize s.pages[n]'HN.out = t at hp HLAST
      clear hk
      go_wp2_with fail
      go_ret2
      exact ⟨t, rfl, HLAST.out, HRK.out, HON.out⟩
    | succ k =>
      rw [show ((k + 1 : Nat) : Int) - 1 = (k : Int) by omega] at hi
      obtain rfl := hi
      have hlt : k < s.waits.length := by omega
      have z2 : (0 : Int) ≤ (k : Int) := by omega
      have z3 : (k : Int) < (s.waits.length : Int) := by omega
      obtain ⟨gw, rfl⟩ := HH.out.someAt HV.out (by omega)
      obtain ⟨cw1, cw2⟩ := HRK.out.wait HV.out k hlt
      change wr.cell? _ = some (Value.int .i64 ((s.waits[k].1 : Nat) : Int)) at cw1
      change wr.cell? _ = some (Value.string s.waits[k].2) at cw2
      have HLT := hid hlt
      have HLAST := hid (fun (he : s.waits[k].1 = n) => last_eq s.pages n HN.out (s.waits[k].2) _ s.waits rfl (.inl ⟨k, hlt, he, rfl, fun j hj hkj => HNO.out j hj (by omega)⟩))
      have HNX := hid (fun (he : s.waits[k].1 ≠ n) => (show ∀ q (hq : q < s.waits.length), k ≤ q → s.waits[q].1 ≠ n from fun q hq hkq => by
        by_cases e : q = k
        · subst e; exact he
        · exact HNO.out q hq (by omega)))
      generalize s.waits[k].2 = t at cw2 HLAST
      generalize s.waits[k].1 = y at cw1 HLAST HNX
      by_cases he : y = n
      · have HLT2 := hid (HLAST.out he)
        subst he
        have e3 : ((y : Int) == (y : Int)) = true := by simp
        clear HLAST
        clear hk hlt
        go_wp2_with fail
        go_ret2
        exact ⟨t, rfl, HLT2.out, HRK.out, HON.out⟩
      · have e3 : ((y : Int) == (n : Int)) = false := by simp; omega
        have HE := hid he
        clear hk hlt he
        go_wp2_with fail
        go_roundw
        case rel => exact ⟨k, by have := HLT.out; omega, by go_num, by first | trivial | rfl, HNX.out HE.out⟩
        case measure => simp [intOf] <;> omega
theorem wpages_iv (l : List (Nat × ByteArray)) : wpages l = iv (l.map fun p => (p.1 : Int)) := by simp [wpages, iv]
end Go.Proofs.YtpobhdhfhnnajaaDoor.Dk

/- A disk of the document's, apart from blocks that stay: each call, whatever is asked; and beside one of the program's. -/
namespace Go.Proofs.YtpobhdhfhnnajaaDoor.Jn
open Go.RowKit
open Go.Lib (hid)
open Go.Proofs.YtpobhdhfhnnajaaDoor.Dk
/-- the document's disk at R, apart from K's blocks -/
structure Rc (K : Nat → Prop) (R : Nat) (wr : World) (s : St) : Prop where
  ex : ∃ a : Ptrs, a.D = R ∧ Rk wr a s ∧ ∀ k, Foot a k → ¬ K k
  lt : ∀ k, K k → k < wr.heap.size
section
variable {K : Nat → Prop} {R : Nat} {wr w' : World} {s : St}
theorem Rc.good (h : Rc K R wr s) : Dk.Good s := by obtain ⟨a, _, h1, _⟩ := h.ex; exact h1.good
theorem Rc.next (h : Rc K R wr s) (hb : Below wr.heap.size wr w') : Rc K R w' s := by
  obtain ⟨a, h1, h3, h5⟩ := h.ex
  exact ⟨⟨a, h1, h3.below hb, h5⟩, fun k hk => Nat.lt_of_lt_of_le (h.lt k hk) hb.size⟩
theorem Rc.less {K' : Nat → Prop} (h : Rc K R wr s) (hk : ∀ j, K' j → K j) : Rc K' R wr s := by
  obtain ⟨a, h1, h3, h5⟩ := h.ex
  exact ⟨⟨a, h1, h3, fun k hf e => h5 k hf (hk k e)⟩, fun k e => h.lt k (hk k e)⟩
theorem Rc.more {K' : Nat → Prop} (h : Rc K R wr s) (hb : Below wr.heap.size wr w') (hK : ∀ k, K' k → K k ∨ wr.heap.size ≤ k) (hl : ∀ k, K' k → k < w'.heap.size) : Rc K' R w' s := by
  obtain ⟨a, h1, h3, h5⟩ := h.ex
  refine ⟨⟨a, h1, h3.below hb, fun k hf e => ?_⟩, hl⟩
  have := h3.lt k hf
  rcases hK k e with e | e
  · exact h5 k hf e
  · omega
theorem Rc.turn (h : Rc K R wr s) (hs : wr.heap.size ≤ w'.heap.size) (hb : ∀ k, k < wr.heap.size → ¬ K k → w'.heap[k]? = wr.heap[k]?) : Rc K R w' s := by
  obtain ⟨a, h1, h3, h5⟩ := h.ex
  exact ⟨⟨a, h1, h3.kept fun k hk => hb k (h3.lt k hk) (h5 k hk), h5⟩, fun k hk => Nat.lt_of_lt_of_le (h.lt k hk) hs⟩
theorem Rc.code {f : FuncId} {args : Array Value} {Q : Ending → Prop} {s' : St} (h : Rc K R wr s)
    (hc : ∀ a : Ptrs, a.D = R → Rk wr a s → Calls Tryd.prog f args wr fun e w' => Q e ∧ ∃ a' : Ptrs, a'.D = a.D ∧ Rk w' a' s' ∧ Only a wr w' ∧ From a a' wr) :
    Calls Tryd.prog f args wr fun e w' => Q e ∧ Rc K R w' s' ∧ KS K wr w' := by
  obtain ⟨a, h1, h3, h5⟩ := h.ex
  refine (hc a h1 h3).mono fun e w' ⟨r, a', g1, g2, g3, g4⟩ => ⟨r, ⟨⟨a', g1.trans h1, g2, fun k hf hk => ?_⟩, fun k hk => Nat.lt_of_lt_of_le (h.lt k hk) g3.size⟩, KS.only g3 h5⟩
  rcases g4 k hf with e | e
  · exact h5 k e hk
  · have := h.lt k hk; omega
theorem Rc.write (h : Rc K R wr s) {k : Nat} (hf : Few s k) (hk : k < 1000000) (n : Int) (u : ByteArray) :
    Calls Tryd.prog 57 #[.pointer (some ⟨R, 0, none⟩), .int .i64 n, .string u] wr fun e w' => e = .returned (.int .i64 (wrU s n u).1) ∧ Rc K R w' (wrU s n u).2 ∧ KS K wr w' := by
  refine h.code (Q := fun e => e = .returned (.int .i64 (wrU s n u).1)) fun a ha hd => ?_
  subst ha
  unfold wrU
  by_cases hc : 0 ≤ n ∧ n < (s.pages.length : Int) ∧ u.size = 256 ∧ s.fuse ≠ 0
  · rw [if_pos hc]
    obtain ⟨m, rfl⟩ : ∃ m : Nat, n = (m : Int) := ⟨n.toNat, by omega⟩
    exact (rwrite_ok a s m u wr hd (by omega) hc.2.2.1 hc.2.2.2 (by have := hf.waits; omega) (by have := hf.writes; omega)).mono fun _ _ ⟨h1, v, h2, h3, h4⟩ => ⟨h1, { a with wv := v }, rfl, h2, h3, h4⟩
  · rw [if_neg hc]
    refine (rwrite_bad a s n u wr hd (by omega)).mono ?_
    rintro e w' ⟨rfl, rfl⟩
    exact ⟨rfl, a, rfl, hd, Only.refl _ _, From.refl _ _⟩
theorem Rc.read (h : Rc K R wr s) {k : Nat} (hf : Few s k) (hk : k < 1000000) (n : Int) :
    Calls Tryd.prog 22 #[.pointer (some ⟨R, 0, none⟩), .int .i64 n] wr fun e w' => e = .returned (.tuple #[.string (rdU s n).1, .int .i64 (rdU s n).2.1]) ∧ Rc K R w' (rdU s n).2.2 ∧ KS K wr w' := by
  refine h.code (Q := fun e => e = .returned (.tuple #[.string (rdU s n).1, .int .i64 (rdU s n).2.1])) fun a ha hd => ?_
  subst ha
  unfold rdU
  by_cases hc : 0 ≤ n ∧ n < (s.pages.length : Int)
  · rw [if_pos hc]
    obtain ⟨m, rfl⟩ : ∃ m : Nat, n = (m : Int) := ⟨n.toNat, by omega⟩
    refine (rread_ok a s m wr hd (by omega) (by have := hf.reads; omega)).mono ?_
    rintro e w' ⟨u, rfl, hu, h2, h3⟩
    exact ⟨by rw [Int.toNat_natCast, got_at hu], a, rfl, h2, h3, From.refl _ _⟩
  · rw [if_neg hc]
    refine (rread_bad a s n wr hd (by omega)).mono ?_
    rintro e w' ⟨rfl, rfl⟩
    exact ⟨rfl, a, rfl, hd, Only.refl _ _, From.refl _ _⟩
theorem Rc.flush (h : Rc K R wr s) {k : Nat} (hf : Few s k) (hk : k < 1000000) :
    Calls Tryd.prog 38 #[.pointer (some ⟨R, 0, none⟩)] wr fun e w' => e = .returned (.int .i64 (flU s).1) ∧ Rc K R w' (flU s).2 ∧ KS K wr w' := by
  refine h.code (Q := fun e => e = .returned (.int .i64 (flU s).1)) fun a ha hd => ?_
  subst ha
  unfold flU
  by_cases hc : s.fuse = 0
  · rw [if_pos hc]
    refine (rflush_dead a s wr hd hc).mono ?_
    rintro e w' ⟨rfl, rfl⟩
    exact ⟨rfl, a, rfl, hd, Only.refl _ _, From.refl _ _⟩
  · rw [if_neg hc]
    exact (rflush_ok a s wr hd hc (by have := hf.flushes; omega)).mono fun _ _ ⟨h1, v, h2, h3, h4⟩ => ⟨h1, { a with wv := v }, rfl, h2, h3, h4⟩
end
/-- both disks, apart from one another and from K's blocks -/
structure Bd (K : Nat → Prop) (D R : Nat) (w : World) (s t : St) : Prop where
  ex : ∃ a b : Ptrs, a.D = D ∧ b.D = R ∧ Dsk w a s ∧ Rk w b t ∧ (∀ k, Foot a k → ¬ K k) ∧ (∀ k, Foot b k → ¬ K k) ∧ (∀ k, Foot a k → ¬ Foot b k)
  lt : ∀ k, K k → k < w.heap.size
section
variable {K : Nat → Prop} {D R : Nat} {w w' : World} {s t : St}
theorem Bd.next (h : Bd K D R w s t) (hb : Below w.heap.size w w') : Bd K D R w' s t := by
  obtain ⟨a, b, h1, h2, h3, h4, h5⟩ := h.ex
  exact ⟨⟨a, b, h1, h2, h3.below hb, h4.below hb, h5⟩, fun k hk => Nat.lt_of_lt_of_le (h.lt k hk) hb.size⟩
theorem Bd.less {K' : Nat → Prop} (h : Bd K D R w s t) (hk : ∀ j, K' j → K j) : Bd K' D R w s t := by
  obtain ⟨a, b, h1, h2, h3, h4, h5, h6, h7⟩ := h.ex
  exact ⟨⟨a, b, h1, h2, h3, h4, fun k hf e => h5 k hf (hk k e), fun k hf e => h6 k hf (hk k e), h7⟩, fun k e => h.lt k (hk k e)⟩
theorem Bd.more {K' : Nat → Prop} (h : Bd K D R w s t) (hb : Below w.heap.size w w') (hK : ∀ k, K' k → K k ∨ w.heap.size ≤ k) (hl : ∀ k, K' k → k < w'.heap.size) : Bd K' D R w' s t := by
  obtain ⟨a, b, h1, h2, h3, h4, h5, h6, h7⟩ := h.ex
  refine ⟨⟨a, b, h1, h2, h3.below hb, h4.below hb, fun k hf e => ?_, fun k hf e => ?_, h7⟩, hl⟩
  · have := h3.lt k hf
    rcases hK k e with e | e
    · exact h5 k hf e
    · omega
  · have := h4.lt k hf
    rcases hK k e with e | e
    · exact h6 k hf e
    · omega
theorem Bd.turn (h : Bd K D R w s t) (hs : w.heap.size ≤ w'.heap.size) (hb : ∀ k, k < w.heap.size → ¬ K k → w'.heap[k]? = w.heap[k]?) : Bd K D R w' s t := by
  obtain ⟨a, b, h1, h2, h3, h4, h5, h6, h7⟩ := h.ex
  exact ⟨⟨a, b, h1, h2, h3.kept fun k hk => hb k (h3.lt k hk) (h5 k hk), h4.kept fun k hk => hb k (h4.lt k hk) (h6 k hk), h5, h6, h7⟩, fun k hk => Nat.lt_of_lt_of_le (h.lt k hk) hs⟩
/-- the program's disk alone: the document's blocks are others' -/
theorem Bd.code (h : Bd K D R w s t) : ∃ KB : Nat → Prop, (∀ j, K j → KB j) ∧ Cd KB D w s ∧ ∀ w' s', Cd KB D w' s' → KS KB w w' → Bd K D R w' s' t ∧ KS K w w' := by
  obtain ⟨a, b, h1, h2, h3, h4, h5, h6, h7⟩ := h.ex
  refine ⟨fun j => K j ∨ Foot b j, fun j e => .inl e, ⟨⟨a, h1, h3, fun k hf e => e.elim (h5 k hf) (h7 k hf)⟩, fun k e => e.elim (h.lt k) (h4.lt k)⟩, fun w' s' hc hk => ?_⟩
  obtain ⟨a', g1, g3, g5⟩ := hc.ex
  exact ⟨⟨⟨a', b, g1, h2, g3, h4.kept fun k hf => hk.block k (h4.lt k hf) (.inr hf), fun k hf e => g5 k hf (.inl e), h6, fun k hf e => g5 k hf (.inr e)⟩, fun k e => hc.lt k (.inl e)⟩, KS.less hk (fun j e => .inl e)⟩
/-- the document's disk alone -/
theorem Bd.ref (h : Bd K D R w s t) : ∃ KA : Nat → Prop, (∀ j, K j → KA j) ∧ Rc KA R w t ∧ ∀ w' t', Rc KA R w' t' → KS KA w w' → Bd K D R w' s t' ∧ KS K w w' := by
  obtain ⟨a, b, h1, h2, h3, h4, h5, h6, h7⟩ := h.ex
  refine ⟨fun j => K j ∨ Foot a j, fun j e => .inl e, ⟨⟨b, h2, h4, fun k hf e => e.elim (h6 k hf) (fun e => h7 k e hf)⟩, fun k e => e.elim (h.lt k) (h3.lt k)⟩, fun w' t' hc hk => ?_⟩
  obtain ⟨b', g1, g3, g5⟩ := hc.ex
  exact ⟨⟨⟨a, b', h1, g1, h3.kept fun k hf => hk.block k (h3.lt k hf) (.inr hf), g3, h5, fun k hf e => g5 k hf (.inl e), fun k hf e => g5 k e (.inr hf)⟩, fun k e => hc.lt k (.inl e)⟩, KS.less hk (fun j e => .inl e)⟩
end
end Go.Proofs.YtpobhdhfhnnajaaDoor.Jn
