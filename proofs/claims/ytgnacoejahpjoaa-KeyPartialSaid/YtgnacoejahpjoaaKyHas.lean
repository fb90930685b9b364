/- A point is in the box of some coordinates, if it has these. -/
import Derived.Test.YtgnacoejahpjoaaKyPart
namespace Go.Proofs.Ytgnacoejahpjoaa.Ky
open Go.RowKit

/-- has a point these coordinates? -/
def hasL (p : List Nat) : List Int → List Nat → Bool
  | c :: at_, x :: k => (p.getD c.toNat 0 == x) && hasL p at_ k
  | _, _ => true
theorem hasL_snoc (p : List Nat) (at_ : List Int) (k : List Nat) (c : Int) (x : Nat) (h : at_.length = k.length) : hasL p (at_ ++ [c]) (k ++ [x]) = (hasL p at_ k && (p.getD c.toNat 0 == x)) := by
  induction at_ generalizing k with
  | nil => cases k with
    | nil => simp [hasL]
    | cons _ _ => simp at h
  | cons a l ih => cases k with
    | nil => simp at h
    | cons y m => simp only [List.cons_append, hasL]; rw [ih m (by simpa using h), Bool.and_assoc]
theorem hasL_more (p : List Nat) (at_ : List Int) (k : List Nat) (j : Nat) (h : at_.length = k.length) (h1 : j < at_.length) (h2 : j < k.length) :
    hasL p (at_.take (j + 1)) (k.take (j + 1)) = (hasL p (at_.take j) (k.take j) && (p.getD at_[j].toNat 0 == k[j])) := by
  rw [List.take_succ_eq_append_getElem h1, List.take_succ_eq_append_getElem h2, hasL_snoc _ _ _ _ _ (by simp; omega)]
def two (b1 b2 p : List Nat) : Bool := leAll b1 p && leAll p b2
theorem two_iff {b1 b2 p : List Nat} : two b1 b2 p = true ↔ b1.length = p.length ∧ p.length = b2.length ∧ ∀ i, i < p.length → b1.getD i 0 ≤ p.getD i 0 ∧ p.getD i 0 ≤ b2.getD i 0 := by
  unfold two
  rw [Bool.and_eq_true, leAll_iff, leAll_iff]
  constructor
  · rintro ⟨⟨h1, h2⟩, h3, h4⟩
    refine ⟨h1, h3, fun i hi => ?_⟩
    have a1 := h2 i (by omega) hi
    have a2 := h4 i hi (by omega)
    simp only [List.getD_eq_getElem?_getD, List.getElem?_eq_getElem hi, List.getElem?_eq_getElem (show i < b1.length by omega), List.getElem?_eq_getElem (show i < b2.length by omega), Option.getD_some]
    exact ⟨a1, a2⟩
  · rintro ⟨h1, h3, h⟩
    refine ⟨⟨h1, fun i hi hi' => ?_⟩, h3, fun i hi hi' => ?_⟩
    · have := (h i hi').1
      simpa only [List.getD_eq_getElem?_getD, List.getElem?_eq_getElem hi, List.getElem?_eq_getElem hi', Option.getD_some] using this
    · have := (h i hi).2
      simpa only [List.getD_eq_getElem?_getD, List.getElem?_eq_getElem hi, List.getElem?_eq_getElem hi', Option.getD_some] using this
theorem getD_set (l : List Nat) (c x i : Nat) (h : c < l.length) : (l.set c x).getD i 0 = if c = i then x else l.getD i 0 := by
  simp only [List.getD_eq_getElem?_getD, List.getElem?_set]
  by_cases e : c = i
  · subst e; simp [h]
  · simp [e]
theorem two_set {b1 b2 p : List Nat} {c x : Nat} (h1 : c < b1.length) (h2 : c < b2.length) (hz : b1.getD c 0 = 0) (hm : b2.getD c 0 = 4294967295) (hf : ∀ i, p.getD i 0 < 4294967296) :
    two (b1.set c x) (b2.set c x) p = (two b1 b2 p && (p.getD c 0 == x)) := by
  rw [Bool.eq_iff_iff, Bool.and_eq_true, two_iff, two_iff, beq_iff_eq, List.length_set, List.length_set]
  constructor
  · rintro ⟨a, b, h⟩
    have hc := h c (by omega)
    rw [getD_set _ _ _ _ h1, getD_set _ _ _ _ h2, if_pos rfl, if_pos rfl] at hc
    refine ⟨⟨a, b, fun i hi => ?_⟩, by omega⟩
    by_cases e : c = i
    · subst e; have := hf c; omega
    · have := h i hi
      rw [getD_set _ _ _ _ h1, getD_set _ _ _ _ h2, if_neg e, if_neg e] at this
      exact this
  · rintro ⟨⟨a, b, h⟩, hx⟩
    refine ⟨a, b, fun i hi => ?_⟩
    rw [getD_set _ _ _ _ h1, getD_set _ _ _ _ h2]
    by_cases e : c = i
    · subst e; rw [if_pos rfl, if_pos rfl]; omega
    · rw [if_neg e, if_neg e]; exact h i hi
theorem two_puts (dim : Nat) (p : List Nat) (hf : ∀ i, p.getD i 0 < 4294967296) (at_ : List Int) : ∀ (k : List Nat) (b1 b2 : List Nat) (least : Int), 0 ≤ least → at_.length = k.length → rises dim least at_ = true → b1.length = dim → b2.length = dim →
    (∀ i : Nat, least ≤ (i : Int) → i < dim → b1.getD i 0 = 0 ∧ b2.getD i 0 = 4294967295) → two (puts b1 at_ k) (puts b2 at_ k) p = (two b1 b2 p && hasL p at_ k) := by
  induction at_ with
  | nil => intro k b1 b2 least _ _ _ _ _ _; cases k <;> simp [puts, hasL]
  | cons c l ih =>
    intro k b1 b2 least h0 hlen hr e1 e2 hz
    cases k with
    | nil => simp at hlen
    | cons x m =>
      simp only [rises, Bool.and_eq_true, decide_eq_true_eq] at hr
      obtain ⟨r1, r2, r3⟩ := hr
      obtain ⟨C, rfl⟩ : ∃ C : Nat, c = (C : Int) := ⟨c.toNat, by omega⟩
      simp only [puts, hasL, Int.toNat_natCast]
      have hC : C < dim := by omega
      have hzc := hz C r1 hC
      rw [ih m (b1.set C x) (b2.set C x) ((C : Int) + 1) (by omega) (by simpa using hlen) r3 (by simp [e1]) (by simp [e2]) (fun i hi hd => by
        rw [getD_set _ _ _ _ (by omega), getD_set _ _ _ _ (by omega), if_neg (by omega), if_neg (by omega)]
        exact hz i (by omega) hd), two_set (by omega) (by omega) hzc.1 hzc.2 hf, Bool.and_assoc]
theorem rep_getD (n x i : Nat) (h : i < n) : (List.replicate n x).getD i 0 = x := by simp [List.getD_eq_getElem?_getD, h]
theorem in_partial {D : Nat} {at_ : List Int} {k p : List Nat} (h : partOk (D : Int) at_ k = true) (hp : p.length = D) (hf : ∀ x ∈ p, x < 4294967296) : inB p (partLo D at_ k) (partHi D at_ k) = hasL p at_ k := by
  have h' := h
  simp only [partOk, Bool.and_eq_true, decide_eq_true_eq, Int.toNat_natCast] at h'
  have e1 : partLo D at_ k = puts (List.replicate D 0) at_ k := by simp [partLo, h, lowW]
  have e2 : partHi D at_ k = puts (List.replicate D 4294967295) at_ k := by simp [partHi, h, highW]
  have hfd : ∀ i, p.getD i 0 < 4294967296 := fun i => by
    rw [List.getD_eq_getElem?_getD]
    by_cases hi : i < p.length
    · rw [List.getElem?_eq_getElem hi]; exact hf _ (List.getElem_mem hi)
    · rw [List.getElem?_eq_none (by omega)]; simp
  have := two_puts D p hfd at_ k (List.replicate D 0) (List.replicate D 4294967295) 0 (by omega) h'.2.1 h'.2.2 (by simp) (by simp) (fun i _ hi => ⟨rep_getD _ _ _ hi, rep_getD _ _ _ hi⟩)
  rw [e1, e2]
  show two _ _ p = _
  rw [this]
  have ht : two (List.replicate D 0) (List.replicate D 4294967295) p = true := by
    rw [two_iff]
    refine ⟨by simp [hp], by simp [hp], fun i hi => ?_⟩
    rw [rep_getD _ _ _ (by omega), rep_getD _ _ _ (by omega)]
    have := hfd i
    omega
  rw [ht, Bool.true_and]
end Go.Proofs.Ytgnacoejahpjoaa.Ky
