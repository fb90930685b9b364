/- What was filled, is found. -/
import Derived.Test.YtnmhdlincgefeaaRgMath
import Derived.Test.YtnmhdlincgefeaaSlUniR
namespace Go.Proofs.Ytnmhdlincgefeaa.Rg
open Go.Proofs.Ytnmhdlincgefeaa.Sl
theorem zz_in {l h c : List Nat} (hl : l.length = c.length) (hh : h.length = c.length) (hw : withinL c l h = true) : zmin l c = l ∧ zmax h c = h ∧ zmax c h = h := by
  unfold zmin zmax
  induction c generalizing l h with
  | nil =>
    cases l with
    | nil => cases h with
      | nil => exact ⟨rfl, rfl, rfl⟩
      | cons y h => simp at hh
    | cons x l => simp at hl
  | cons z c ih =>
    cases l with
    | nil => simp at hl
    | cons x l => cases h with
      | nil => simp at hh
      | cons y h =>
        simp only [withinL, Bool.and_eq_true, decide_eq_true_eq] at hw
        obtain ⟨i1, i2, i3⟩ := ih (by simpa using hl) (by simpa using hh) hw.2
        simp only [List.zipWith_cons_cons, i1, i2, i3, List.cons.injEq, and_true]
        omega
theorem within_top {l h : List Nat} (e : l.length = h.length) (hw : withinL l l h = true) : withinL h l h = true := by
  induction l generalizing h with
  | nil => cases h with
    | nil => rfl
    | cons y h => simp at e
  | cons x l ih => cases h with
    | nil => simp at e
    | cons y h =>
      simp only [withinL, Bool.and_eq_true, decide_eq_true_eq] at hw ⊢
      exact ⟨by omega, ih (by simpa using e) hw.2⟩
theorem within_max {l h c d : List Nat} (hl : l.length = c.length) (hh : h.length = c.length) (hd : d.length = c.length) (h1 : withinL c l h = true) (h2 : withinL d l h = true) : withinL (zmax c d) l h = true := by
  unfold zmax
  induction c generalizing l h d with
  | nil => cases d with
    | nil => exact h1
    | cons x d => simp at hd
  | cons z c ih =>
    cases l with
    | nil => simp at hl
    | cons x l => cases h with
      | nil => simp at hh
      | cons y h => cases d with
        | nil => simp at hd
        | cons a d =>
          simp only [withinL, Bool.and_eq_true, decide_eq_true_eq, List.zipWith_cons_cons] at h1 h2 ⊢
          exact ⟨by omega, ih (by simpa using hl) (by simpa using hh) (by simpa using hd) h1.2 h2.2⟩
theorem lo_stay (S l : List Nat) : ∀ (ps : List Nat), (∀ p ∈ ps, zmin l (cellL S p) = l) → loF S l ps = l := by
  intro ps
  induction ps with
  | nil => intro _; rfl
  | cons p ps ih =>
    intro h
    show loF S (zmin l (cellL S p)) ps = l
    rw [h p (List.mem_cons_self ..)]
    exact ih fun q hq => h q (List.mem_cons_of_mem _ hq)
theorem hi_stay (S l : List Nat) : ∀ (ps : List Nat), (∀ p ∈ ps, zmax l (cellL S p) = l) → hiF S l ps = l := by
  intro ps
  induction ps with
  | nil => intro _; rfl
  | cons p ps ih =>
    intro h
    show hiF S (zmax l (cellL S p)) ps = l
    rw [h p (List.mem_cons_self ..)]
    exact ih fun q hq => h q (List.mem_cons_of_mem _ hq)
theorem hi_get (S l h : List Nat) (e1 : l.length = S.length) (e2 : h.length = S.length) : ∀ (ps : List Nat) (c : List Nat), c.length = S.length → withinL c l h = true → (∀ p ∈ ps, withinL (cellL S p) l h = true) → (c = h ∨ ∃ p ∈ ps, cellL S p = h) → hiF S c ps = h := by
  intro ps
  induction ps with
  | nil =>
    intro c _ _ _ hm
    rcases hm with rfl | ⟨p, hp, _⟩
    · rfl
    · simp at hp
  | cons p ps ih =>
    intro c hc hw hp hm
    have hq := hp p (List.mem_cons_self ..)
    have hl := cellL_length S p
    show hiF S (zmax c (cellL S p)) ps = h
    refine ih _ ?_ (within_max (by omega) (by omega) (by omega) hw hq) (fun q hq => hp q (List.mem_cons_of_mem _ hq)) ?_
    · rw [zmax_len (by omega)]; exact hc
    · rcases hm with rfl | ⟨q, hq', e⟩
      · exact .inl (zz_in (l := l) (by omega) (by omega) hq).2.1
      · rcases List.mem_cons.1 hq' with rfl | hq'
        · left; rw [e]; exact (zz_in (l := l) (by omega) (by omega) hw).2.2
        · exact .inr ⟨q, hq', e⟩
theorem mem_range {S L H : List Nat} (h1 : okC S L = true) (h2 : okC S H = true) (hS : ∀ s ∈ S, 0 < s) {c : List Nat} : c ∈ rangeL L H ↔ okC S c = true ∧ withinL c L H = true := by
  rw [← filter_within S L H h1 h2 hS, List.mem_filter]
  constructor
  · rintro ⟨h, hw⟩
    obtain ⟨k, _, rfl⟩ := List.mem_map.1 h
    exact ⟨cellL_ok S k hS, hw⟩
  · rintro ⟨h, hw⟩
    exact ⟨List.mem_map.2 ⟨placeL S c, List.mem_range.2 (placeL_lt S c h), cellL_place S c h⟩, hw⟩
/-- the cells of a range, as places, have that range -/
theorem box_range {S L H : List Nat} (h1 : okC S L = true) (h2 : okC S H = true) (hS : ∀ s ∈ S, 0 < s) (hw : withinL L L H = true) : filledL S ((rangeL L H).map (placeL S)) = some (L, H) := by
  have el := okC_len h1
  have eh := okC_len h2
  have hall : ∀ c ∈ rangeL L H, cellL S (placeL S c) = c ∧ withinL c L H = true := fun c hc => by
    obtain ⟨a, b⟩ := (mem_range h1 h2 hS).1 hc
    exact ⟨cellL_place S c a, b⟩
  have htop : H ∈ rangeL L H := (mem_range h1 h2 hS).2 ⟨h2, within_top (by omega) hw⟩
  have hcnt := rangeL_length L H
  have hhead := rangeL_head L H hw (by omega)
  have hb : boxF S ((rangeL L H).map (placeL S)) = (L, H) := by
    cases hr : rangeL L H with
    | nil => rw [hr] at hhead; simp at hhead
    | cons c T =>
      rw [hr] at hhead hall htop
      obtain rfl : c = L := by simpa using hhead
      have hps : ∀ p ∈ T.map (placeL S), withinL (cellL S p) c H = true := fun p hp => by
        obtain ⟨d, hd, rfl⟩ := List.mem_map.1 hp
        obtain ⟨a, b⟩ := hall d (List.mem_cons_of_mem _ hd)
        rw [a]; exact b
      show (loF S (cellL S (placeL S c)) (T.map (placeL S)), hiF S (cellL S (placeL S c)) (T.map (placeL S))) = (c, H)
      rw [(hall c (List.mem_cons_self ..)).1]
      rw [lo_stay S c _ fun p hp => (zz_in (h := H) (by rw [cellL_length]; omega) (by rw [cellL_length]; omega) (hps p hp)).1]
      rw [hi_get S c H (by omega) (by omega) _ c (by omega) hw hps]
      rcases List.mem_cons.1 htop with e | e
      · exact .inl e.symm
      · exact .inr ⟨placeL S H, List.mem_map.2 ⟨H, e, rfl⟩, cellL_place S H h2⟩
  unfold filledL
  rw [hb, if_pos]
  refine ⟨?_, ?_⟩
  · intro e
    exact rangeL_ne L H hw (List.map_eq_nil_iff.1 e)
  · rw [List.length_map]; exact hcnt.symm
theorem plc_fill {S L H : List Nat} {C : List Int} {n : Int} (h1 : okC S L = true) (h2 : okC S H = true) (hS : ∀ s ∈ S, 0 < s) (hC : C.length = prodL S) (hn : n ∉ C) :
    plc (fillL n ((rangeL L H).map (placeL S)) C) C.length n = (rangeL L H).map (placeL S) := by
  have hp := places_eq S L H h1 h2 hS
  unfold plc
  rw [hp, hC]
  apply List.filter_congr
  intro i hi
  have hi' := List.mem_range.1 hi
  rw [Bool.eq_iff_iff, beq_iff_eq, List.getD_eq_getElem?_getD]
  unfold fillL
  rw [set_all]
  constructor
  · intro h
    split at h
    · rename_i hm
      exact (List.mem_filter.1 hm.1).2
    · exfalso
      rw [List.getElem?_eq_getElem (by omega)] at h
      exact hn (h ▸ List.getElem_mem (by omega))
  · intro h
    rw [if_pos ⟨List.mem_filter.2 ⟨hi, h⟩, by omega⟩]
    rfl
/-- filled: found -/
theorem found_yes {S : List Nat} {C lo hi : List Int} {n : Int} (F : Fits S C) (hn : n ∉ C) (hr : rangeB (zs S) lo hi = true) :
    ∃ (L H : List Nat) (C' : List Int), lo = zs L ∧ hi = zs H ∧ fillU S C lo hi n = (0, C') ∧ filledL S (plc C' C'.length n) = some (L, H) := by
  obtain ⟨L, H, rfl, rfl, h1, h2⟩ := range_nat S lo hi hr
  have hw := range_within S L H h1 h2 hr
  refine ⟨L, H, fillL n ((rangeL L H).map (placeL S)) C, rfl, rfl, ?_, ?_⟩
  · unfold fillU; rw [if_pos hr, zs_nat, zs_nat]
  · rw [fillL_length, plc_fill h1 h2 F.pos F.len hn, box_range h1 h2 F.pos hw]
/-- refused: there is no such number -/
theorem found_no {S : List Nat} {C lo hi : List Int} {n : Int} (hn : n ∉ C) (hr : rangeB (zs S) lo hi = false) :
    fillU S C lo hi n = (1, C) ∧ filledL S (plc C C.length n) = none := by
  refine ⟨by unfold fillU; rw [if_neg (by rw [hr]; simp)], ?_⟩
  have e : plc C C.length n = [] := (plc_mem (Nat.le_refl _)).2 (by rw [List.take_length]; exact hn)
  rw [e]; rfl
end Go.Proofs.Ytnmhdlincgefeaa.Rg
