/- Sorted, and Merge of the reference. -/
import Derived.Test.YtkjcbfdplhcjpaaPtRSplit
import Derived.Test.YtkjcbfdplhcjpaaPtMrgW
namespace Go.Proofs.Ytkjcbfdplhcjpaa.Pt
open Go.RowKit
open Go.Lib (hid)
open Go.Proofs.Ytkjcbfdplhcjpaa.Ky
open Go.Proofs.Ytkjcbfdplhcjpaa.Bk

/-- where a record is put in, from the end on -/
def posF (out : List Rec) (k : List Nat) : Nat → Nat
  | 0 => 0
  | n + 1 => if 0 < cmp (out.getD n ([], ⟨#[]⟩)).1 k then posF out k n else n + 1
def posR (out : List Rec) (k : List Nat) : Nat := posF out k out.length
def insR (out : List Rec) (r : Rec) : List Rec := out.take (posR out r.1) ++ r :: out.drop (posR out r.1)
def sortR (L : List Rec) : List Rec := L.foldl insR []
theorem posF_spec (out : List Rec) (k : List Nat) (n : Nat) (hn : n ≤ out.length) : posF out k n ≤ n ∧ (∀ j, (h : j < out.length) → posF out k n ≤ j → j < n → 0 < cmp out[j].1 k) ∧ (∀ h : posF out k n - 1 < out.length, 0 < posF out k n → ¬ 0 < cmp out[posF out k n - 1].1 k) := by
  induction n with
  | zero => exact ⟨Nat.le_refl _, fun j _ _ h => absurd h (by omega), fun _ h => absurd h (by simp [posF])⟩
  | succ n ih =>
    obtain ⟨i1, i2, i3⟩ := ih (by omega)
    have hg : (out.getD n ([], ⟨#[]⟩)).1 = (out[n]'(by omega)).1 := by rw [List.getD_eq_getElem?_getD, List.getElem?_eq_getElem (by omega)]; rfl
    have he : posF out k (n + 1) = if 0 < cmp (out[n]'(by omega)).1 k then posF out k n else n + 1 := by rw [← hg]; rfl
    by_cases h : 0 < cmp (out[n]'(by omega)).1 k
    · rw [if_pos h] at he
      rw [he]
      refine ⟨by omega, fun j hj h1 h2 => ?_, i3⟩
      by_cases e : j = n
      · subst e; exact h
      · exact i2 j hj h1 (by omega)
    · rw [if_neg h] at he
      rw [he]
      exact ⟨Nat.le_refl _, fun j _ h1 h2 => absurd h1 (by omega), fun _ _ => h⟩
theorem pos_le (out : List Rec) (k : List Nat) : posR out k ≤ out.length := (posF_spec out k out.length (Nat.le_refl _)).1
theorem mem_ins {out : List Rec} {r x : Rec} : x ∈ insR out r ↔ x = r ∨ x ∈ out := by
  unfold insR
  rw [List.mem_append, List.mem_cons]
  have h : x ∈ out ↔ x ∈ out.take (posR out r.1) ∨ x ∈ out.drop (posR out r.1) := by rw [← List.mem_append, List.take_append_drop]
  rw [h]
  constructor
  · rintro (h | h | h)
    · exact .inr (.inl h)
    · exact .inl h
    · exact .inr (.inr h)
  · rintro (h | h | h)
    · exact .inr (.inl h)
    · exact .inl h
    · exact .inr (.inr h)
theorem up_ins {out : List Rec} {r : Rec} (hu : upL out) (hk : ∀ x ∈ out, x.1 ≠ r.1) : upL (insR out r) := by
  obtain ⟨h1, h2, h3⟩ := posF_spec out r.1 out.length (Nat.le_refl _)
  have hu' := hu
  unfold upL at hu'
  rw [← List.take_append_drop (posR out r.1) out, List.pairwise_append] at hu'
  obtain ⟨u1, u2, u3⟩ := hu'
  have hlo : ∀ x ∈ out.take (posR out r.1), cmp x.1 r.1 < 0 := fun x hx => by
    obtain ⟨i, hi, rfl⟩ := List.getElem_of_mem hx
    rw [List.length_take] at hi
    have hi2 : i < posR out r.1 := by omega
    have hm : posR out r.1 - 1 < out.length := by have := pos_le out r.1; omega
    have h4 := h3 hm (by show 0 < posR out r.1; omega)
    have h5 : out[posR out r.1 - 1].1 ≠ r.1 := hk _ (List.getElem_mem hm)
    have h6 : cmp out[posR out r.1 - 1].1 r.1 < 0 := by
      rcases Int.lt_trichotomy (cmp out[posR out r.1 - 1].1 r.1) 0 with h | h | h
      · exact h
      · exact absurd (cmp_zero h) h5
      · exact absurd h h4
    rw [List.getElem_take]
    by_cases e : i = posR out r.1 - 1
    · rw [getElem_same (by omega) hm e]; exact h6
    · exact cmp_lt_trans (List.pairwise_iff_getElem.1 hu i (posR out r.1 - 1) (by omega) hm (by omega)) h6
  have hhi : ∀ x ∈ out.drop (posR out r.1), cmp r.1 x.1 < 0 := fun x hx => by
    obtain ⟨i, hi, rfl⟩ := List.getElem_of_mem hx
    rw [List.length_drop] at hi
    rw [List.getElem_drop]
    have := h2 (posR out r.1 + i) (by omega) (Nat.le_add_right _ _) (by omega)
    have h7 := cmp_flip out[posR out r.1 + i].1 r.1
    omega
  unfold insR upL
  refine List.pairwise_append.2 ⟨u1, List.pairwise_cons.2 ⟨hhi, u2⟩, fun x hx y hy => ?_⟩
  rcases List.mem_cons.1 hy with rfl | hy
  · exact hlo x hx
  · exact u3 x hx y hy
theorem sort_from (L : List Rec) : ∀ acc, upL acc → (∀ x ∈ acc, ∀ y ∈ L, x.1 ≠ y.1) → L.Pairwise (fun a b => a.1 ≠ b.1) → upL (L.foldl insR acc) ∧ ∀ x, x ∈ L.foldl insR acc ↔ x ∈ acc ∨ x ∈ L := by
  induction L with
  | nil => exact fun acc h _ _ => ⟨h, fun x => by simp⟩
  | cons r L ih =>
    intro acc hu hd hp
    obtain ⟨p1, p2⟩ := List.pairwise_cons.1 hp
    obtain ⟨i1, i2⟩ := ih (insR acc r) (up_ins hu fun x hx => hd x hx r (List.mem_cons_self ..)) (fun x hx y hy => by
      rcases mem_ins.1 hx with rfl | hx
      · exact p1 y hy
      · exact hd x hx y (List.mem_cons_of_mem _ hy)) p2
    refine ⟨i1, fun x => ?_⟩
    rw [List.foldl_cons, i2, mem_ins, List.mem_cons]
    constructor
    · rintro ((h | h) | h)
      · exact .inr (.inl h)
      · exact .inl h
      · exact .inr (.inr h)
    · rintro (h | h | h)
      · exact .inl (.inr h)
      · exact .inl (.inl h)
      · exact .inr h
theorem up_key {a : List Rec} (hu : upL a) {x y : Rec} (hx : x ∈ a) (hy : y ∈ a) (h : x.1 = y.1) : x = y := by
  obtain ⟨i, hi, rfl⟩ := List.getElem_of_mem hx
  obtain ⟨j, hj, rfl⟩ := List.getElem_of_mem hy
  rcases Nat.lt_trichotomy i j with e | e | e
  · exact absurd h (cmp_irr (List.pairwise_iff_getElem.1 hu i j hi hj e))
  · exact getElem_same hi hj e
  · exact absurd h.symm (cmp_irr (List.pairwise_iff_getElem.1 hu j i hj hi e))
theorem up_same {a b : List Rec} (ha : upL a) (hb : upL b) (h : ∀ x, x ∈ a ↔ x ∈ b) : a = b := by
  induction a generalizing b with
  | nil =>
    cases b with
    | nil => rfl
    | cons y b => exact absurd ((h y).2 (List.mem_cons_self ..)) (by simp)
  | cons x a ih =>
    cases b with
    | nil => exact absurd ((h x).1 (List.mem_cons_self ..)) (by simp)
    | cons y b =>
      obtain ⟨a1, a2⟩ := List.pairwise_cons.1 ha
      obtain ⟨b1, b2⟩ := List.pairwise_cons.1 hb
      have hxy : x = y := by
        rcases List.mem_cons.1 ((h x).1 (List.mem_cons_self ..)) with e | e
        · exact e
        · rcases List.mem_cons.1 ((h y).2 (List.mem_cons_self ..)) with e' | e'
          · exact e'.symm
          · have h1 := b1 x e
            have h2 := a1 y e'
            have h3 := cmp_flip x.1 y.1
            omega
      subst hxy
      rw [ih a2 b2 fun z => ?_]
      constructor
      · intro hz
        rcases List.mem_cons.1 ((h z).1 (List.mem_cons_of_mem _ hz)) with e | e
        · subst e; exact absurd rfl (cmp_irr (a1 _ hz))
        · exact e
      · intro hz
        rcases List.mem_cons.1 ((h z).2 (List.mem_cons_of_mem _ hz)) with e | e
        · subst e; exact absurd rfl (cmp_irr (b1 _ hz))
        · exact e
/-- is there a record of that Key? -/
def twiceB (r : Rec) (M : List Rec) : Bool := M.any fun s => sameB r.1 s.1
def restR (L M : List Rec) : List Rec := L.filter fun r => !twiceB r M
theorem merge_sort {l m : List Rec} (hl : upL l) (hm : upL m) : mergeR l m = sortR (restR l m ++ m) := by
  have hno : ∀ r ∈ restR l m, ∀ s ∈ m, r.1 ≠ s.1 := fun r hr s hs e => by
    have := (List.mem_filter.1 hr).2
    simp only [Bool.not_eq_true'] at this
    have h2 : twiceB r m = true := List.any_eq_true.2 ⟨s, hs, by simp [sameB, e]⟩
    rw [this] at h2; cases h2
  have hne : ∀ {a : List Rec}, upL a → a.Pairwise fun x y => x.1 ≠ y.1 := fun h => List.Pairwise.imp (fun h => cmp_irr h) h
  obtain ⟨s1, s2⟩ := sort_from (restR l m ++ m) [] List.Pairwise.nil (fun x hx => absurd hx (by simp)) (List.pairwise_append.2 ⟨(hne hl).filter _, hne hm, hno⟩)
  refine up_same (up_merge hl hm) s1 fun x => ?_
  rw [show sortR (restR l m ++ m) = (restR l m ++ m).foldl insR [] from rfl, s2, List.mem_append]
  constructor
  · intro hx
    by_cases hxm : x ∈ m
    · exact .inr (.inr hxm)
    · rcases merge_mem hx with h | h
      · refine .inr (.inl (List.mem_filter.2 ⟨h, ?_⟩))
        rw [Bool.not_eq_true']
        cases e : twiceB x m with
        | false => rfl
        | true =>
          obtain ⟨s, hs, e2⟩ := List.any_eq_true.1 e
          have e3 : x.1 = s.1 := by simpa [sameB] using e2
          have := up_key (up_merge hl hm) hx (mem_right hs) e3
          subst this
          exact absurd hs hxm
      · exact absurd h hxm
  · rintro (h | h | h)
    · simp at h
    · have hxl := (List.mem_filter.1 h).1
      obtain ⟨y, hy, e⟩ := key_left (b := m) hxl
      rcases merge_mem hy with h1 | h1
      · have := up_key hl h1 hxl e
        subst this; exact hy
      · exact absurd e.symm (hno x h y h1)
    · exact mem_right h
theorem sort_snoc (L : List Rec) (k : Nat) (h : k < L.length) : sortR (L.take (k + 1)) = insR (sortR (L.take k)) L[k] := by
  unfold sortR; rw [List.take_succ_eq_append_getElem h, List.foldl_append]; rfl
theorem ins_len (out : List Rec) (r : Rec) : (insR out r).length = out.length + 1 := by
  unfold insR; have := pos_le out r.1; simp; omega
theorem sort_len (L : List Rec) : (sortR L).length = L.length := by
  have : ∀ (M acc : List Rec), (M.foldl insR acc).length = acc.length + M.length := fun M => by
    induction M with
    | nil => intro acc; simp
    | cons r M ih => intro acc; rw [List.foldl_cons, ih, ins_len]; simp; omega
  have := this L []
  simpa [sortR] using this
theorem rest_len (L M : List Rec) : (restR L M).length ≤ L.length := List.length_filter_le _ _
theorem rest_snoc (L M : List Rec) (k : Nat) (h : k < L.length) : restR (L.take (k + 1)) M = restR (L.take k) M ++ (if twiceB L[k] M then [] else [L[k]]) := by
  unfold restR; rw [List.take_succ_eq_append_getElem h, List.filter_append]; congr 1
  cases e : twiceB L[k] M <;> simp [e]
theorem twice_snoc (r : Rec) (M : List Rec) (k : Nat) (h : k < M.length) : twiceB r (M.take (k + 1)) = (twiceB r (M.take k) || sameB r.1 M[k].1) := by
  unfold twiceB; rw [List.take_succ_eq_append_getElem h, List.any_append]; simp
end Go.Proofs.Ytkjcbfdplhcjpaa.Pt
