/- Points and boxes as plain lists of numbers. -/
namespace Go.Proofs.Ytnmhdlincgefeaa.Ky

/-- how two points stand -/
def cmp : List Nat → List Nat → Int
  | [], [] => 0
  | [], _ :: _ => -1
  | _ :: _, [] => 1
  | a :: l, b :: m => if a < b then -1 else if b < a then 1 else cmp l m
theorem cmp_self (l : List Nat) : cmp l l = 0 := by
  induction l with
  | nil => rfl
  | cons a l ih => simp [cmp, ih]
theorem cmp_zero {a b : List Nat} (h : cmp a b = 0) : a = b := by
  induction a generalizing b with
  | nil => cases b <;> simp_all [cmp]
  | cons x l ih =>
    cases b with
    | nil => simp [cmp] at h
    | cons y m =>
      simp only [cmp] at h
      split at h
      · simp at h
      · split at h
        · simp at h
        · have := ih h; subst this
          have : x = y := by omega
          rw [this]
theorem cmp_flip (a b : List Nat) : cmp a b = -cmp b a := by
  induction a generalizing b with
  | nil => cases b <;> simp [cmp]
  | cons x l ih =>
    cases b with
    | nil => simp [cmp]
    | cons y m =>
      simp only [cmp]
      by_cases h : x < y
      · have : ¬ y < x := by omega
        simp [h, this]
      · by_cases h' : y < x
        · simp [h, h']
        · simp [h, h', ih m]
theorem cmp_trans {a b c : List Nat} (h : cmp a b ≤ 0) (h' : cmp b c ≤ 0) : cmp a c ≤ 0 := by
  induction a generalizing b c with
  | nil => cases c <;> simp [cmp]
  | cons x l ih =>
    cases b with
    | nil => simp [cmp] at h
    | cons y m =>
      cases c with
      | nil => simp [cmp] at h'
      | cons z n =>
        simp only [cmp] at h h' ⊢
        by_cases h1 : x < y
        · by_cases h2 : y < z
          · rw [if_pos (by omega)]; omega
          · by_cases h3 : z < y
            · rw [if_neg h2, if_pos h3] at h'; simp at h'
            · rw [if_pos (by omega)]; omega
        · by_cases h2 : y < x
          · rw [if_neg h1, if_pos h2] at h; simp at h
          · rw [if_neg h1, if_neg h2] at h
            by_cases h3 : y < z
            · rw [if_pos (by omega)]; omega
            · by_cases h4 : z < y
              · rw [if_neg h3, if_pos h4] at h'; simp at h'
              · rw [if_neg h3, if_neg h4] at h'
                rw [if_neg (by omega), if_neg (by omega)]
                exact ih h h'
theorem cmp_cases (a b : List Nat) : cmp a b = -1 ∨ cmp a b = 0 ∨ cmp a b = 1 := by
  induction a generalizing b with
  | nil => cases b <;> simp [cmp]
  | cons x l ih =>
    cases b with
    | nil => simp [cmp]
    | cons y m =>
      simp only [cmp]
      split
      · simp
      · split
        · simp
        · exact ih m
/-- one step of it, at the k-th coordinates -/
theorem cmp_drop (a b : List Nat) (k : Nat) (h : k < a.length) (h' : k < b.length) :
    cmp (a.drop k) (b.drop k) = if a[k] < b[k] then -1 else if b[k] < a[k] then 1 else cmp (a.drop (k + 1)) (b.drop (k + 1)) := by
  rw [List.drop_eq_getElem_cons h, List.drop_eq_getElem_cons h']; rfl
theorem cmp_left (a b : List Nat) (k : Nat) (h : k < a.length) (h' : b.length ≤ k) : cmp (a.drop k) (b.drop k) = 1 := by
  rw [List.drop_eq_getElem_cons h, List.drop_eq_nil_of_le h']; rfl
theorem cmp_right (a b : List Nat) (k : Nat) (h : a.length ≤ k) (h' : k < b.length) : cmp (a.drop k) (b.drop k) = -1 := by
  rw [List.drop_eq_getElem_cons h', List.drop_eq_nil_of_le h]; rfl
theorem cmp_end (a b : List Nat) (k : Nat) (h : a.length ≤ k) (h' : b.length ≤ k) : cmp (a.drop k) (b.drop k) = 0 := by
  rw [List.drop_eq_nil_of_le h, List.drop_eq_nil_of_le h']; rfl

/-- as many coordinates, and none above -/
def leAll : List Nat → List Nat → Bool
  | [], [] => true
  | a :: l, b :: m => decide (a ≤ b) && leAll l m
  | _, _ => false
theorem leAll_len {a b : List Nat} (h : leAll a b = true) : a.length = b.length := by
  induction a generalizing b with
  | nil => cases b <;> simp_all [leAll]
  | cons x l ih =>
    cases b with
    | nil => simp [leAll] at h
    | cons y m => simp only [leAll, Bool.and_eq_true] at h; simp [ih h.2]
theorem leAll_ne {a b : List Nat} (h : a.length ≠ b.length) : leAll a b = false := by
  cases e : leAll a b with
  | false => rfl
  | true => exact absurd (leAll_len e) h
theorem leAll_iff {a b : List Nat} : leAll a b = true ↔ a.length = b.length ∧ ∀ i (h : i < a.length) (h' : i < b.length), a[i] ≤ b[i] := by
  induction a generalizing b with
  | nil => cases b <;> simp [leAll]
  | cons x l ih =>
    cases b with
    | nil => simp [leAll]
    | cons y m =>
      simp only [leAll, Bool.and_eq_true, decide_eq_true_eq, ih, List.length_cons, Nat.add_right_cancel_iff]
      constructor
      · rintro ⟨h1, h2, h3⟩
        refine ⟨h2, fun i hi hi' => ?_⟩
        cases i with
        | zero => exact h1
        | succ i => exact h3 i (by omega) (by omega)
      · rintro ⟨h1, h2⟩
        exact ⟨h2 0 (by omega) (by omega), h1, fun i hi hi' => h2 (i + 1) (by omega) (by omega)⟩
theorem leAll_refl (a : List Nat) : leAll a a = true := leAll_iff.2 ⟨rfl, fun _ _ _ => Nat.le_refl _⟩
theorem leAll_no {a b : List Nat} (k : Nat) (h : k < a.length) (h' : k < b.length) (hk : b[k] < a[k]) : leAll a b = false := by
  cases e : leAll a b with
  | false => rfl
  | true => have := (leAll_iff.1 e).2 k h h'; omega
theorem leAll_drop (a b : List Nat) (k : Nat) (h : k < a.length) (h' : k < b.length) :
    leAll (a.drop k) (b.drop k) = (decide (a[k] ≤ b[k]) && leAll (a.drop (k + 1)) (b.drop (k + 1))) := by
  rw [List.drop_eq_getElem_cons h, List.drop_eq_getElem_cons h']; rfl
theorem leAll_end (a b : List Nat) (k : Nat) (h : a.length ≤ k) (h' : b.length ≤ k) : leAll (a.drop k) (b.drop k) = true := by
  rw [List.drop_eq_nil_of_le h, List.drop_eq_nil_of_le h']; rfl

def mayN (n : Nat) : Bool := decide (1 ≤ n) && decide (n ≤ 6)
/-- may a box be, of so many coordinates? -/
def boxN (lo hi : List Nat) (n : Nat) : Bool := mayN n && (decide (lo.length = n) && leAll lo hi)
/-- is a point in a box? -/
def inB (k lo hi : List Nat) : Bool := leAll lo k && leAll k hi
def hiOf (a b : List Nat) : List Nat := List.zipWith max a b
def loOf (a b : List Nat) : List Nat := List.zipWith min a b
def four (al ah bl bh : List Nat) : Bool := decide (ah.length = al.length) && (decide (bl.length = al.length) && decide (bh.length = al.length))
/-- do two boxes meet? -/
def meetB (al ah bl bh : List Nat) : Bool := four al ah bl bh && boxN (hiOf al bl) (loOf ah bh) al.length
def meetLo (al ah bl bh : List Nat) : List Nat := if meetB al ah bl bh then hiOf al bl else []
def meetHi (al ah bl bh : List Nat) : List Nat := if meetB al ah bl bh then loOf ah bh else []

theorem hiOf_length {a b : List Nat} (h : b.length = a.length) : (hiOf a b).length = a.length := by simp [hiOf]; omega
theorem loOf_length {a b : List Nat} (h : b.length = a.length) : (loOf a b).length = a.length := by simp [loOf]; omega
theorem hiOf_comm (a b : List Nat) : hiOf a b = hiOf b a := by
  unfold hiOf; rw [List.zipWith_comm]; congr 1; funext x y; exact Nat.max_comm _ _
theorem loOf_comm (a b : List Nat) : loOf a b = loOf b a := by
  unfold loOf; rw [List.zipWith_comm]; congr 1; funext x y; exact Nat.min_comm _ _
theorem four_comm (al ah bl bh : List Nat) : four al ah bl bh = four bl bh al ah := by
  unfold four; rw [Bool.eq_iff_iff]; simp; omega
theorem meetB_comm (al ah bl bh : List Nat) : meetB al ah bl bh = meetB bl bh al ah := by
  unfold meetB
  rw [← four_comm al ah bl bh]
  cases h : four al ah bl bh with
  | false => rfl
  | true =>
    simp [four] at h
    rw [hiOf_comm, loOf_comm, show bl.length = al.length from h.2.1]
theorem le_hiOf {k a b : List Nat} (h : b.length = a.length) : leAll (hiOf a b) k = (leAll a k && leAll b k) := by
  have hl := hiOf_length h
  rw [Bool.eq_iff_iff, Bool.and_eq_true, leAll_iff, leAll_iff, leAll_iff]
  constructor
  · rintro ⟨h1, h2⟩
    refine ⟨⟨by omega, fun i hi hi' => ?_⟩, by omega, fun i hi hi' => ?_⟩
    · have := h2 i (by omega) (by omega); simp only [hiOf, List.getElem_zipWith] at this; omega
    · have := h2 i (by omega) (by omega); simp only [hiOf, List.getElem_zipWith] at this; omega
  · rintro ⟨⟨h1, h2⟩, h3, h4⟩
    refine ⟨by omega, fun i hi hi' => ?_⟩
    have a1 := h2 i (by omega) (by omega)
    have a2 := h4 i (by omega) (by omega)
    simp only [hiOf, List.getElem_zipWith]; omega
theorem loOf_le {k a b : List Nat} (h : b.length = a.length) : leAll k (loOf a b) = (leAll k a && leAll k b) := by
  have hl := loOf_length h
  rw [Bool.eq_iff_iff, Bool.and_eq_true, leAll_iff, leAll_iff, leAll_iff]
  constructor
  · rintro ⟨h1, h2⟩
    refine ⟨⟨by omega, fun i hi hi' => ?_⟩, by omega, fun i hi hi' => ?_⟩
    · have := h2 i (by omega) (by omega); simp only [loOf, List.getElem_zipWith] at this; omega
    · have := h2 i (by omega) (by omega); simp only [loOf, List.getElem_zipWith] at this; omega
  · rintro ⟨⟨h1, h2⟩, h3, h4⟩
    refine ⟨by omega, fun i hi hi' => ?_⟩
    have a1 := h2 i (by omega) (by omega)
    have a2 := h4 i (by omega) (by omega)
    simp only [loOf, List.getElem_zipWith]; omega
theorem leAll_trans {a b c : List Nat} (h : leAll a b = true) (h' : leAll b c = true) : leAll a c = true := by
  rw [leAll_iff] at *
  refine ⟨by omega, fun i hi hi' => ?_⟩
  have := h.2 i hi (by omega); have := h'.2 i (by omega) hi'; omega
/-- a point is in what two boxes have both, if it is in both -/
theorem meet_in {k al ah bl bh : List Nat} (ha : boxN al ah k.length = true) (hb : boxN bl bh k.length = true) :
    (meetB al ah bl bh && inB k (meetLo al ah bl bh) (meetHi al ah bl bh)) = (inB k al ah && inB k bl bh) := by
  simp only [boxN, Bool.and_eq_true, decide_eq_true_eq] at ha hb
  have h1 := leAll_len ha.2.2
  have h2 := leAll_len hb.2.2
  have hf : four al ah bl bh = true := by simp [four]; omega
  cases hm : meetB al ah bl bh with
  | true =>
    simp only [meetLo, meetHi, hm, if_true, inB, Bool.true_and]
    rw [le_hiOf (by omega), loOf_le (by omega)]
    cases leAll al k <;> cases leAll bl k <;> cases leAll k ah <;> cases leAll k bh <;> rfl
  | false =>
    rw [Bool.false_and]
    symm
    cases hi : inB k al ah && inB k bl bh with
    | false => rfl
    | true =>
      exfalso
      simp only [inB, Bool.and_eq_true] at hi
      have e1 : leAll (hiOf al bl) k = true := by rw [le_hiOf (by omega), hi.1.1, hi.2.1]; rfl
      have e2 : leAll k (loOf ah bh) = true := by rw [loOf_le (by omega), hi.1.2, hi.2.2]; rfl
      have e3 := leAll_trans e1 e2
      have : meetB al ah bl bh = true := by
        simp only [meetB, hf, boxN, Bool.true_and, Bool.and_eq_true, decide_eq_true_eq]
        exact ⟨by rw [ha.2.1]; exact ha.1, hiOf_length (by omega), e3⟩
      rw [this] at hm; simp at hm
theorem hiOf_one {k a : List Nat} (h : leAll a k = true) : hiOf a k = k := by
  apply List.ext_getElem
  · rw [hiOf_length (leAll_len h).symm]; exact leAll_len h
  · intro i h1 h2
    have := (leAll_iff.1 h).2 i (by have := leAll_len h; omega) h2
    simp only [hiOf, List.getElem_zipWith]; omega
theorem loOf_one {k a : List Nat} (h : leAll k a = true) : loOf a k = k := by
  apply List.ext_getElem
  · rw [loOf_length (leAll_len h)]; exact (leAll_len h).symm
  · intro i h1 h2
    have := (leAll_iff.1 h).2 i h2 (by have := leAll_len h; omega)
    simp only [loOf, List.getElem_zipWith]; omega
/-- a box and one point: they meet just if that is in it; then in that -/
theorem meet_one {k lo hi : List Nat} (hb : boxN lo hi k.length = true) : meetB lo hi k k = inB k lo hi := by
  have h := hb
  simp only [boxN, Bool.and_eq_true, decide_eq_true_eq] at h
  have h1 := leAll_len h.2.2
  have hk : boxN k k k.length = true := by simp [boxN, h.1, leAll_refl]
  have := meet_in hb hk
  have e : inB k k k = true := by simp [inB, leAll_refl]
  rw [e, Bool.and_true] at this
  cases hm : meetB lo hi k k with
  | false => rw [hm, Bool.false_and] at this; exact this
  | true =>
    have hm' := hm
    simp only [meetB, boxN, Bool.and_eq_true] at hm'
    have e3 := hm'.2.2.2
    -- the greater ones of Low are not above the lesser ones of High: the point is between
    have a1 := leAll_iff.1 e3
    have l1 : (hiOf lo k).length = lo.length := hiOf_length (by omega)
    have l2 : (loOf hi k).length = hi.length := loOf_length (by omega)
    symm
    simp only [inB, Bool.and_eq_true, leAll_iff]
    refine ⟨⟨by omega, fun i hi1 hi2 => ?_⟩, by omega, fun i hi1 hi2 => ?_⟩
    · have := a1.2 i (by omega) (by omega)
      simp only [hiOf, loOf, List.getElem_zipWith] at this; omega
    · have := a1.2 i (by omega) (by omega)
      simp only [hiOf, loOf, List.getElem_zipWith] at this; omega

/-- the bits, the highest first -/
def bitK (k : List Nat) (i : Nat) : Nat := k.getD (i % k.length) 0 / 2 ^ (31 - i / k.length) % 2
def bitsK (k : List Nat) : Nat → Nat
  | 0 => 0
  | n + 1 => 2 * bitsK k n + bitK k n
theorem bitK_lt (k : List Nat) (i : Nat) : bitK k i < 2 := Nat.mod_lt _ (by omega)
theorem bitsK_lt (k : List Nat) (n : Nat) : bitsK k n < 2 ^ n := by
  induction n with
  | zero => simp [bitsK]
  | succ n ih => have := bitK_lt k n; simp only [bitsK, Nat.pow_succ]; omega
theorem bitsK_shift (k : List Nat) (n d : Nat) : bitsK k (n + d) / 2 ^ d = bitsK k n := by
  induction d with
  | zero => simp
  | succ d ih =>
    have := bitK_lt k (n + d)
    have e : (n + (d + 1)) = (n + d) + 1 := by omega
    rw [e]
    simp only [bitsK]
    rw [Nat.pow_succ, Nat.mul_comm (2 ^ d), ← Nat.div_div_eq_div_mul]
    have : (2 * bitsK k (n + d) + bitK k (n + d)) / 2 = bitsK k (n + d) := by omega
    rw [this, ih]
def bitsOk (l : Nat) (n : Int) : Bool := mayN l && (decide (0 ≤ n) && decide (n ≤ 30))

/-- where some coordinates stand: each below the dimension, and they rise -/
def rises (dim : Nat) : Int → List Int → Bool
  | _, [] => true
  | least, c :: l => decide (least ≤ c) && (decide (c < dim) && rises dim (c + 1) l)
/-- a point of which some coordinates are put in -/
def puts : List Nat → List Int → List Nat → List Nat
  | b, c :: at_, x :: k => puts (b.set c.toNat x) at_ k
  | b, _, _ => b
def lowW (dim : Nat) : List Nat := List.replicate dim 0
def highW (dim : Nat) : List Nat := List.replicate dim 4294967295
def wholeLo (dim : Int) : List Nat := if 1 ≤ dim ∧ dim ≤ 6 then lowW dim.toNat else []
def wholeHi (dim : Int) : List Nat := if 1 ≤ dim ∧ dim ≤ 6 then highW dim.toNat else []
def partOk (dim : Int) (at_ : List Int) (k : List Nat) : Bool := decide (1 ≤ dim ∧ dim ≤ 6) && (decide (at_.length = k.length) && rises dim.toNat 0 at_)
def partLo (dim : Int) (at_ : List Int) (k : List Nat) : List Nat := if partOk dim at_ k then puts (lowW dim.toNat) at_ k else []
def partHi (dim : Int) (at_ : List Int) (k : List Nat) : List Nat := if partOk dim at_ k then puts (highW dim.toNat) at_ k else []
end Go.Proofs.Ytnmhdlincgefeaa.Ky
