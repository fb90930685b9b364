/- Plain facts on lists of bytes: what is put at a place, what is got from there, and numbers as bytes, the highest first; no program is imported. -/
namespace Go.Proofs.Ytolnbamdddiifaa.Fd

/-- a text put at a place -/
def putAt (l : List UInt8) (o : Nat) (t : List UInt8) : List UInt8 := l.take o ++ t ++ l.drop (o + t.length)
/-- what stands at a place -/
def getAt (l : List UInt8) (o n : Nat) : List UInt8 := (l.drop o).take n

theorem putAt_length (l : List UInt8) (o : Nat) (t : List UInt8) (h : o + t.length ≤ l.length) : (putAt l o t).length = l.length := by
  unfold putAt; simp; omega
theorem getAt_length (l : List UInt8) (o n : Nat) (h : o + n ≤ l.length) : (getAt l o n).length = n := by
  unfold getAt; simp; omega
theorem putAt_at (l : List UInt8) (o : Nat) (t : List UInt8) (h : o + t.length ≤ l.length) (i : Nat) :
    (putAt l o t)[i]? = if o ≤ i ∧ i < o + t.length then t[i - o]? else l[i]? := by
  unfold putAt
  by_cases h1 : i < o
  · rw [if_neg (by omega), List.getElem?_append_left (by simp; omega), List.getElem?_append_left (by simp; omega), List.getElem?_take_of_lt h1]
  · by_cases h2 : i < o + t.length
    · rw [if_pos (by omega), List.getElem?_append_left (by simp; omega), List.getElem?_append_right (by simp; omega)]
      simp only [List.length_take]
      rw [Nat.min_eq_left (by omega)]
    · rw [if_neg (by omega), List.getElem?_append_right (by simp; omega), List.getElem?_drop]
      congr 1
      simp only [List.length_append, List.length_take]
      omega
theorem getAt_at (l : List UInt8) (o n i : Nat) : (getAt l o n)[i]? = if i < n then l[o + i]? else none := by
  unfold getAt
  by_cases h : i < n
  · rw [if_pos h, List.getElem?_take_of_lt h, List.getElem?_drop]
  · rw [if_neg h, List.getElem?_take_eq_none (by omega)]
theorem getAt_putAt (l : List UInt8) (o : Nat) (t : List UInt8) (h : o + t.length ≤ l.length) : getAt (putAt l o t) o t.length = t := by
  apply List.ext_getElem?
  intro i
  rw [getAt_at]
  by_cases hi : i < t.length
  · rw [if_pos hi, putAt_at l o t h, if_pos (by omega), Nat.add_sub_cancel_left]
  · rw [if_neg hi, List.getElem?_eq_none (by omega)]
theorem putAt_getAt (l : List UInt8) (o n : Nat) (h : o + n ≤ l.length) : putAt l o (getAt l o n) = l := by
  apply List.ext_getElem?
  intro i
  rw [putAt_at l o _ (by rw [getAt_length _ _ _ h]; exact h), getAt_length _ _ _ h]
  by_cases hi : o ≤ i ∧ i < o + n
  · rw [if_pos hi, getAt_at, if_pos (by omega)]; congr 1; omega
  · rw [if_neg hi]
theorem putAt_none (l : List UInt8) (o : Nat) : putAt l o [] = l := by unfold putAt; simp
theorem getAt_all (l : List UInt8) : getAt l 0 l.length = l := by unfold getAt; simp
theorem getAt_none (l : List UInt8) (o : Nat) : getAt l o 0 = [] := by unfold getAt; simp
theorem putAt_all (l t : List UInt8) (h : t.length = l.length) : putAt l 0 t = t := by
  unfold putAt; rw [Nat.zero_add, h]; simp

/-- one byte of a number that is so many bytes wide, the highest first -/
def beB (w n i : Nat) : UInt8 := UInt8.ofNat (n / 256 ^ (w - 1 - i))
/-- a number as so many bytes, the highest first -/
def be (w n : Nat) : List UInt8 := (List.range w).map (beB w n)
/-- the number of bytes, the highest first -/
def num (l : List UInt8) : Nat := l.foldl (fun n b => 256 * n + b.toNat) 0

theorem be_length (w n : Nat) : (be w n).length = w := by simp [be]
theorem be_at (w n i : Nat) (h : i < w) : (be w n)[i]? = some (beB w n i) := by simp [be, h]

theorem num_snoc (l : List UInt8) (b : UInt8) : num (l ++ [b]) = 256 * num l + b.toNat := by simp [num]
theorem num_nil : num [] = 0 := rfl
theorem num_lt (l : List UInt8) : num l < 256 ^ l.length := by
  suffices h : ∀ k, k ≤ l.length → num (l.take k) < 256 ^ k by
    have := h l.length (Nat.le_refl _); rwa [List.take_length] at this
  intro k
  induction k with
  | zero => intro _; simp [num]
  | succ k ih =>
    intro hk
    rw [List.take_succ_eq_append_getElem (by omega), num_snoc]
    have := ih (by omega)
    have hb := (l[k]'(by omega)).toNat_lt
    rw [Nat.pow_succ]; omega

theorem be_prefix (w n k : Nat) (hk : k ≤ w) (hn : n < 256 ^ w) : num ((be w n).take k) = n / 256 ^ (w - k) := by
  induction k with
  | zero => simp [num]; rw [Nat.div_eq_of_lt hn]
  | succ k ih =>
    have hb : (be w n)[k]'(by rw [be_length]; omega) = beB w n k := by
      have := be_at w n k (by omega)
      rw [List.getElem?_eq_getElem (by rw [be_length]; omega)] at this
      exact Option.some.inj this
    rw [List.take_succ_eq_append_getElem (by rw [be_length]; omega), num_snoc, ih (by omega), hb]
    unfold beB
    rw [show w - 1 - k = w - (k + 1) by omega]
    have e : 256 ^ (w - k) = 256 ^ (w - (k + 1)) * 256 := by
      rw [show w - k = (w - (k + 1)) + 1 by omega, Nat.pow_succ]
    rw [e, ← Nat.div_div_eq_div_mul]
    simp only [UInt8.toNat_ofNat']
    omega
theorem num_be (w n : Nat) (hn : n < 256 ^ w) : num (be w n) = n := by
  have := be_prefix w n w (Nat.le_refl _) hn
  rw [List.take_of_length_le (by rw [be_length]; exact Nat.le_refl _)] at this
  simpa using this

/-- may a number be so many bytes wide? -/
def wide (w : Int) : Prop := w = 1 ∨ w = 2 ∨ w = 4
instance (w : Int) : Decidable (wide w) := by unfold wide; infer_instance
/-- are a place and so many bytes a range of l? -/
def isRange (o n : Int) (len : Nat) : Prop := 0 ≤ o ∧ 0 ≤ n ∧ o + n ≤ len
instance (o n : Int) (len : Nat) : Decidable (isRange o n len) := by unfold isRange; infer_instance

end Go.Proofs.Ytolnbamdddiifaa.Fd
