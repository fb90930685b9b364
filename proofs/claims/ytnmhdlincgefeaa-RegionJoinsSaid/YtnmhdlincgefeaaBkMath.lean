/- Lists of records, plainly: in order, how many are less, put in, taken out, how many bytes. -/
import Derived.Test.YtnmhdlincgefeaaKyMath
namespace Go.Proofs.Ytnmhdlincgefeaa.Bk
open Go.Proofs.Ytnmhdlincgefeaa.Ky

/-- a record: its point, its bytes -/
abbrev Rec := List Nat × ByteArray
/-- rising, each point once -/
def upL (L : List Rec) : Prop := L.Pairwise fun a b => cmp a.1 b.1 < 0
theorem cmp_lt_trans {a b c : List Nat} (h : cmp a b < 0) (h' : cmp b c < 0) : cmp a c < 0 := by
  have h1 := cmp_trans (Int.le_of_lt h) (Int.le_of_lt h')
  rcases cmp_cases a c with e | e | e
  · omega
  · have e2 := cmp_zero e
    subst e2
    have := cmp_flip a b
    omega
  · omega
theorem cmp_le_lt {a b c : List Nat} (h : cmp a b ≤ 0) (h' : cmp b c < 0) : cmp a c < 0 := by
  rcases cmp_cases a b with e | e | e
  · exact cmp_lt_trans (by omega) h'
  · have := cmp_zero e; subst this; exact h'
  · omega
theorem cmp_lt_le {a b c : List Nat} (h : cmp a b < 0) (h' : cmp b c ≤ 0) : cmp a c < 0 := by
  rcases cmp_cases b c with e | e | e
  · exact cmp_lt_trans h (by omega)
  · have := cmp_zero e; subst this; exact h
  · omega
/-- are neighbours rising? (up to the place n) -/
def upTo (L : List Rec) (n : Nat) : Prop := ∀ i, (h : i + 1 < L.length) → i + 1 < n → cmp (L[i]'(by omega)).1 L[i + 1].1 < 0
theorem upTo_all {L : List Rec} (h : upTo L L.length) : upL L := by
  have key : ∀ i j, (hj : j < L.length) → (hi : i < j) → cmp (L[i]'(by omega)).1 L[j].1 < 0 := by
    intro i j
    induction j with
    | zero => intro _ hi; omega
    | succ j ih =>
      intro hj hi
      have h1 := h j hj (by omega)
      by_cases e : i = j
      · subst e; exact h1
      · exact cmp_lt_trans (ih (by omega) (by omega)) h1
  exact List.pairwise_iff_getElem.2 fun i j hi hj hij => key i j hj hij
theorem all_upTo {L : List Rec} (h : upL L) (n : Nat) : upTo L n := fun i hi _ => List.pairwise_iff_getElem.1 h i (i + 1) (by omega) hi (by omega)
theorem upTo_succ {L : List Rec} {n : Nat} (h : upTo L n) (h1 : 1 ≤ n) (hn : n < L.length) (hc : cmp (L[n - 1]'(by omega)).1 L[n].1 < 0) : upTo L (n + 1) := by
  intro i hi hin
  by_cases e : i + 1 = n
  · subst e; exact hc
  · exact h i hi (by omega)
/-- how many points are less than k -/
def lessN (L : List Rec) (k : List Nat) : Nat := (L.takeWhile fun r => decide (cmp r.1 k < 0)).length
theorem lessN_le (L : List Rec) (k : List Nat) : lessN L k ≤ L.length := by
  unfold lessN
  induction L with
  | nil => simp
  | cons a l ih => rw [List.takeWhile_cons]; split <;> simp <;> omega
/-- the place is told by what stands ahead of it and at it -/
theorem lessN_at {L : List Rec} {k : List Nat} (n : Nat) (hn : n ≤ L.length) (h1 : ∀ i, (h : i < L.length) → i < n → cmp L[i].1 k < 0) (h2 : (h : n < L.length) → ¬ cmp L[n].1 k < 0) : lessN L k = n := by
  unfold lessN
  induction L generalizing n with
  | nil => simp at hn ⊢; omega
  | cons a l ih =>
    rw [List.takeWhile_cons]
    cases n with
    | zero =>
      have := h2 (by simp)
      simp at this
      rw [if_neg (by simp; omega)]
      rfl
    | succ n =>
      have := h1 0 (by simp) (by omega)
      simp at this
      rw [if_pos (by simpa using this)]
      simp only [List.length_cons, Nat.add_right_cancel_iff]
      exact ih n (by simpa using hn) (fun i h hi => by have := h1 (i + 1) (by simpa using h) (by omega); simpa using this) (fun h => by have := h2 (by simpa using h); simpa using this)
theorem lessN_spec (L : List Rec) (k : List Nat) : (∀ i, (h : i < L.length) → i < lessN L k → cmp L[i].1 k < 0) ∧ ((h : lessN L k < L.length) → ¬ cmp L[lessN L k].1 k < 0) := by
  induction L with
  | nil => exact ⟨fun i h => absurd h (by simp), fun h => absurd h (by simp)⟩
  | cons a l ih =>
    by_cases hp : cmp a.1 k < 0
    · have e : lessN (a :: l) k = lessN l k + 1 := by unfold lessN; rw [List.takeWhile_cons, if_pos (by simpa using hp)]; rfl
      refine ⟨fun i h hi => ?_, fun h => ?_⟩
      · cases i with
        | zero => exact hp
        | succ i => exact ih.1 i (by simpa using h) (by omega)
      · simp only [e] at h ⊢
        exact ih.2 (by simpa using h)
    · have e : lessN (a :: l) k = 0 := by unfold lessN; rw [List.takeWhile_cons, if_neg (by simpa using hp)]; rfl
      refine ⟨fun i h hi => by omega, fun h => ?_⟩
      simp only [e]
      exact hp
/-- is there one of the point k, at its place? -/
def hasN (L : List Rec) (k : List Nat) : Bool := match L[lessN L k]? with | some r => cmp r.1 k == 0 | none => false
theorem hasN_iff {L : List Rec} {k : List Nat} : hasN L k = true ↔ ∃ h : lessN L k < L.length, L[lessN L k].1 = k := by
  unfold hasN
  by_cases h : lessN L k < L.length
  · rw [List.getElem?_eq_getElem h]
    simp only [beq_iff_eq]
    exact ⟨fun e => ⟨h, cmp_zero e⟩, fun ⟨_, e⟩ => by rw [e]; exact cmp_self _⟩
  · rw [List.getElem?_eq_none (by omega)]
    exact ⟨fun e => absurd e (by simp), fun ⟨h', _⟩ => absurd h' h⟩
/-- of a rising list: what stands at the place or behind it is not less -/
theorem up_behind {L : List Rec} {k : List Nat} (hu : upL L) {i : Nat} (hi : i < L.length) (h : lessN L k ≤ i) : ¬ cmp L[i].1 k < 0 := by
  have hn : lessN L k < L.length := by omega
  have h2 := (lessN_spec L k).2 hn
  by_cases e : lessN L k = i
  · subst e; exact h2
  · have h3 := List.pairwise_iff_getElem.1 hu (lessN L k) i hn hi (by omega)
    intro h4
    exact h2 (cmp_lt_trans h3 h4)
/-- of a rising list: it has the point, at some place, just if at its place -/
theorem up_at {L : List Rec} {k : List Nat} (hu : upL L) {i : Nat} (hi : i < L.length) (h : L[i].1 = k) : lessN L k = i := by
  refine lessN_at i (by omega) (fun j hj hji => ?_) (fun _ => by rw [h, cmp_self]; omega)
  rw [← h]
  exact List.pairwise_iff_getElem.1 hu j i hj hi hji
theorem getElem_same {α : Type} {L : List α} {a b : Nat} (ha : a < L.length) (hb : b < L.length) (h : a = b) : L[a] = L[b] := by subst h; rfl
/-- a record put in -/
def putR (L : List Rec) (r : Rec) : List Rec := L.take (lessN L r.1) ++ r :: L.drop (if hasN L r.1 then lessN L r.1 + 1 else lessN L r.1)
/-- a record taken out -/
def cutR (L : List Rec) (k : List Nat) : List Rec := if hasN L k then L.take (lessN L k) ++ L.drop (lessN L k + 1) else L
theorem putR_length (L : List Rec) (r : Rec) : (putR L r).length = if hasN L r.1 then L.length else L.length + 1 := by
  unfold putR
  have h1 := lessN_le L r.1
  cases h : hasN L r.1 with
  | true =>
    obtain ⟨h2, _⟩ := hasN_iff.1 h
    simp; omega
  | false => simp; omega
theorem cutR_length (L : List Rec) (k : List Nat) : (cutR L k).length = if hasN L k then L.length - 1 else L.length := by
  unfold cutR
  cases h : hasN L k with
  | true =>
    obtain ⟨h2, _⟩ := hasN_iff.1 h
    simp; omega
  | false => simp
theorem up_put {L : List Rec} (hu : upL L) (r : Rec) : upL (putR L r) := by
  unfold putR
  have hs := lessN_spec L r.1
  refine List.pairwise_append.2 ⟨hu.sublist (List.take_sublist _ _), List.pairwise_cons.2 ⟨fun b hb => ?_, hu.sublist (List.drop_sublist _ _)⟩, fun a ha b hb => ?_⟩
  · obtain ⟨i, hi, rfl⟩ := List.getElem_of_mem hb
    rw [List.getElem_drop]
    rw [List.length_drop] at hi
    have hge := up_behind hu (k := r.1) (i := (if hasN L r.1 = true then lessN L r.1 + 1 else lessN L r.1) + i) (by omega) (by split <;> omega)
    have hne : cmp (L[(if hasN L r.1 = true then lessN L r.1 + 1 else lessN L r.1) + i]'(by omega)).1 r.1 ≠ 0 := by
      intro e
      have e2 := up_at hu (by omega) (cmp_zero e)
      have hlt : lessN L r.1 < L.length := by omega
      have hh : hasN L r.1 = true := hasN_iff.2 ⟨hlt, (congrArg Prod.fst (getElem_same hlt (by omega) e2)).trans (cmp_zero e)⟩
      rw [hh] at e2
      simp at e2
      omega
    have hf := cmp_flip r.1 (L[(if hasN L r.1 = true then lessN L r.1 + 1 else lessN L r.1) + i]'(by omega)).1
    rcases cmp_cases (L[(if hasN L r.1 = true then lessN L r.1 + 1 else lessN L r.1) + i]'(by omega)).1 r.1 with e | e | e <;> omega
  · obtain ⟨i, hi, rfl⟩ := List.getElem_of_mem ha
    rw [List.length_take] at hi
    have hl : cmp (L[i]'(by omega)).1 r.1 < 0 := hs.1 i (by omega) (by omega)
    rw [List.getElem_take]
    rcases List.mem_cons.1 hb with rfl | hb
    · exact hl
    · obtain ⟨j, hj, rfl⟩ := List.getElem_of_mem hb
      rw [List.length_drop] at hj
      rw [List.getElem_drop]
      exact List.pairwise_iff_getElem.1 hu i _ (by omega) (by omega) (by split <;> omega)
theorem up_cut {L : List Rec} (hu : upL L) (k : List Nat) : upL (cutR L k) := by
  unfold cutR
  split
  · refine List.pairwise_append.2 ⟨hu.sublist (List.take_sublist _ _), hu.sublist (List.drop_sublist _ _), fun a ha b hb => ?_⟩
    obtain ⟨i, hi, rfl⟩ := List.getElem_of_mem ha
    obtain ⟨j, hj, rfl⟩ := List.getElem_of_mem hb
    rw [List.length_take] at hi
    rw [List.length_drop] at hj
    rw [List.getElem_take, List.getElem_drop]
    exact List.pairwise_iff_getElem.1 hu i _ (by omega) (by omega) (by omega)
  · exact hu
/-- the place of what was put -/
theorem put_place {L : List Rec} (r : Rec) : lessN (putR L r) r.1 = lessN L r.1 ∧ hasN (putR L r) r.1 = true ∧ (putR L r)[lessN L r.1]? = some r := by
  have hs := lessN_spec L r.1
  have hl := lessN_le L r.1
  have ht : (L.take (lessN L r.1)).length = lessN L r.1 := by rw [List.length_take]; omega
  have hg : (putR L r)[lessN L r.1]? = some r := by
    unfold putR
    rw [List.getElem?_append_right (by omega), ht, Nat.sub_self]; rfl
  obtain ⟨hlt, he⟩ := List.getElem?_eq_some_iff.1 hg
  have e1 : lessN (putR L r) r.1 = lessN L r.1 := by
    refine lessN_at _ (by omega) (fun i hi hin => ?_) (fun _ => by rw [he, cmp_self]; omega)
    have h1 : (putR L r)[i]? = L[i]? := by
      unfold putR
      rw [List.getElem?_append_left (by omega), List.getElem?_take_of_lt hin]
    have h2 : i < L.length := by omega
    rw [List.getElem?_eq_getElem hi, List.getElem?_eq_getElem h2] at h1
    rw [Option.some.inj h1]
    exact hs.1 i (by omega) hin
  refine ⟨e1, hasN_iff.2 ⟨by omega, ?_⟩, hg⟩
  simp only [e1, he]
/-- what was put is cut again -/
theorem cut_put {L : List Rec} (r : Rec) (h : hasN L r.1 = false) : cutR (putR L r) r.1 = L := by
  obtain ⟨h1, h2, _⟩ := put_place (L := L) r
  have hl := lessN_le L r.1
  have ht : (L.take (lessN L r.1)).length = lessN L r.1 := by rw [List.length_take]; omega
  unfold cutR
  rw [if_pos h2, h1]
  have e : (L.take (lessN L r.1) ++ r :: L.drop (lessN L r.1)).drop (lessN L r.1 + 1) = L.drop (lessN L r.1) := by
    rw [List.drop_append, ht, List.drop_eq_nil_of_le (by omega), show lessN L r.1 + 1 - lessN L r.1 = 1 by omega]; rfl
  unfold putR
  rw [h]
  simp only [Bool.false_eq_true, if_false]
  rw [e, List.take_append_of_le_length (by omega), List.take_of_length_le (by omega), List.take_append_drop]
/-- how many bytes records take -/
def sizeR (L : List Rec) : Nat := 1 + (L.map fun r => 4 * r.1.length + 1 + r.2.size).sum
theorem sizeR_snoc (L : List Rec) (r : Rec) : sizeR (L ++ [r]) = sizeR L + (4 * r.1.length + 1 + r.2.size) := by
  unfold sizeR; simp; omega
theorem sizeR_take (L : List Rec) (k : Nat) (h : k < L.length) : sizeR (L.take (k + 1)) = sizeR (L.take k) + (4 * L[k].1.length + 1 + L[k].2.size) := by
  rw [List.take_succ_eq_append_getElem h, sizeR_snoc]
theorem sizeR_mono (L : List Rec) (k : Nat) : sizeR (L.take k) ≤ sizeR L := by
  have : sizeR L = sizeR (L.take k) + ((L.drop k).map fun r => 4 * r.1.length + 1 + r.2.size).sum := by
    have e : L.map (fun r => 4 * r.1.length + 1 + r.2.size) = (L.take k).map (fun r => 4 * r.1.length + 1 + r.2.size) ++ (L.drop k).map (fun r => 4 * r.1.length + 1 + r.2.size) := by rw [← List.map_append, List.take_append_drop]
    unfold sizeR
    rw [e, List.sum_append]; omega
  omega
/-- may a record be, of dim coordinates? -/
def mayR (r : Rec) (dim : Int) : Bool := decide (1 ≤ dim ∧ dim ≤ 6) && (decide ((r.1.length : Int) = dim) && decide (r.2.size ≤ 40))
/-- a bucket, of dim coordinates -/
def isB (L : List Rec) (dim : Int) : Prop := (∀ r ∈ L, mayR r dim = true) ∧ upL L
/-- few records -/
def fewR (L : List Rec) : Prop := L.length ≤ 60 ∧ ∀ r ∈ L, r.1.length ≤ 20 ∧ r.2.size ≤ 100
end Go.Proofs.Ytnmhdlincgefeaa.Bk
