/- Bits that stand in words: what is free, as numbers. -/
import Derived.Laws.BitsAll
import Derived.Lib.BitFns
namespace Go.Proofs.Ytefnofipcjjfpaa.Fr

/-- the number of the first k of some bits, the first one the highest -/
def wordN (f : Nat → Bool) : Nat → Nat
  | 0 => 0
  | k + 1 => 2 * wordN f k + (f k).toNat
theorem wordN_lt (f : Nat → Bool) (k : Nat) : wordN f k < 2 ^ k := by
  induction k with
  | zero => simp [wordN]
  | succ k ih =>
    have : (f k).toNat ≤ 1 := Bool.toNat_le _
    simp only [wordN, Nat.pow_succ]; omega
theorem wordN_congr {f g : Nat → Bool} (k : Nat) (h : ∀ j, j < k → f j = g j) : wordN f k = wordN g k := by
  induction k with
  | zero => rfl
  | succ k ih => simp only [wordN]; rw [ih (fun j hj => h j (by omega)), h k (by omega)]
theorem wordN_bit (f : Nat → Bool) (k j : Nat) : (wordN f k).testBit j = (decide (j < k) && f (k - 1 - j)) := by
  induction k generalizing j with
  | zero => simp [wordN]
  | succ k ih =>
    have hb : (f k).toNat ≤ 1 := Bool.toNat_le _
    cases j with
    | zero =>
      rw [Nat.testBit_zero]
      have e : k + 1 - 1 - 0 = k := by omega
      rw [e]
      simp only [wordN]
      rw [Bool.eq_iff_iff]
      simp only [Bool.and_eq_true, decide_eq_true_eq]
      rcases Bool.eq_false_or_eq_true (f k) with h | h <;> simp [h] <;> omega
    | succ j =>
      rw [Nat.testBit_succ]
      have e : wordN f (k + 1) / 2 = wordN f k := by simp only [wordN]; omega
      rw [e, ih]
      have e2 : k + 1 - 1 - (j + 1) = k - 1 - j := by omega
      rw [e2]
      simp
theorem wordN_hi (f : Nat → Bool) (a b : Nat) : wordN f (a + b) / 2 ^ b = wordN f a := by
  induction b with
  | zero => simp
  | succ b ih =>
    have hb : (f (a + b)).toNat ≤ 1 := Bool.toNat_le _
    rw [Nat.pow_succ, Nat.mul_comm, ← Nat.div_div_eq_div_mul]
    have e : wordN f (a + (b + 1)) / 2 = wordN f (a + b) := by
      rw [← Nat.add_assoc]; simp only [wordN]; omega
    rw [e, ih]
theorem wordN_lo (f : Nat → Bool) (a b : Nat) : wordN f (a + b) % 2 ^ b = wordN (fun j => f (a + j)) b := by
  induction b with
  | zero => simp [wordN, Nat.mod_one]
  | succ b ih =>
    have hb : (f (a + b)).toNat ≤ 1 := Bool.toNat_le _
    rw [Nat.pow_succ, Nat.mul_comm, Nat.mod_mul]
    have e : wordN f (a + (b + 1)) / 2 = wordN f (a + b) := by
      rw [← Nat.add_assoc]; simp only [wordN]; omega
    have e2 : wordN f (a + (b + 1)) % 2 = (f (a + b)).toNat := by
      rw [← Nat.add_assoc]; simp only [wordN]; omega
    rw [e, e2, ih]
    simp only [wordN]; omega
theorem wordN_not (f : Nat → Bool) (k : Nat) : wordN f k + wordN (fun j => !f j) k + 1 = 2 ^ k := by
  induction k with
  | zero => simp [wordN]
  | succ k ih =>
    simp only [wordN, Nat.pow_succ]
    cases f k <;> simp <;> omega
theorem wordN_byte (f : Nat → Bool) (q : Nat) (hq : q < 8) : wordN f 64 / 2 ^ (56 - 8 * q) % 256 = wordN (fun j => f (8 * q + j)) 8 := by
  have h1 := wordN_hi f (8 * q + 8) (56 - 8 * q)
  rw [show 8 * q + 8 + (56 - 8 * q) = 64 by omega] at h1
  rw [h1]
  exact wordN_lo f (8 * q) 8
/-- one bit turned -/
theorem wordN_turn (f : Nat → Bool) (p : Nat) (hp : p < 64) : wordN (fun j => if j = p then !f j else f j) 64 = wordN f 64 ^^^ 2 ^ (63 - p) := by
  apply Nat.eq_of_testBit_eq
  intro j
  rw [Nat.testBit_xor, wordN_bit, wordN_bit, Nat.testBit_two_pow]
  by_cases hj : j < 64
  · by_cases e : 64 - 1 - j = p
    · have e2 : 63 - p = j := by omega
      simp [hj, e, e2]
    · have e2 : ¬ 63 - p = j := by omega
      simp [hj, e, e2]
  · have e2 : ¬ 63 - p = j := by omega
    simp [hj, e2]
theorem wordN_is (f : Nat → Bool) (p : Nat) (hp : p < 64) : wordN f 64 &&& 2 ^ (63 - p) = (f p).toNat * 2 ^ (63 - p) := by
  apply Nat.eq_of_testBit_eq
  intro j
  rw [Nat.testBit_and, wordN_bit, Nat.testBit_two_pow]
  by_cases e : 63 - p = j
  · subst e
    have e : 64 - 1 - (63 - p) = p := by omega
    rw [e, decide_eq_true (show 63 - p < 64 by omega)]
    cases f p <;> simp
  · have h : (f p).toNat * 2 ^ (63 - p) = if f p then 2 ^ (63 - p) else 0 := by cases f p <;> simp
    rw [h]
    split <;> simp [e]

/-- how many of the first k are -/
def ones (f : Nat → Bool) : Nat → Nat
  | 0 => 0
  | k + 1 => ones f k + (f k).toNat
theorem ones_le (f : Nat → Bool) (k : Nat) : ones f k ≤ k := by
  induction k with
  | zero => exact Nat.le_refl _
  | succ k ih => have : (f k).toNat ≤ 1 := Bool.toNat_le _
                 simp only [ones]; omega
theorem ones_add (f : Nat → Bool) (a b : Nat) : ones f (a + b) = ones f a + ones (fun j => f (a + j)) b := by
  induction b with
  | zero => rfl
  | succ b ih => rw [← Nat.add_assoc]; simp only [ones]; rw [ih]; omega
theorem pop_zero (g : Nat) : Lib.popAux g 0 = 0 := by
  induction g with
  | zero => rfl
  | succ g ih => simp [Lib.popAux, ih]
theorem pop_word (f : Nat → Bool) (k g : Nat) (h : k ≤ g) : Lib.popAux g (wordN f k) = ones f k := by
  induction k generalizing g with
  | zero => exact pop_zero g
  | succ k ih =>
    obtain ⟨g, rfl⟩ : ∃ m, g = m + 1 := ⟨g - 1, by omega⟩
    have hb : (f k).toNat ≤ 1 := Bool.toNat_le _
    have e : wordN f (k + 1) / 2 = wordN f k := by simp only [wordN]; omega
    have e2 : wordN f (k + 1) % 2 = (f k).toNat := by simp only [wordN]; omega
    rw [Lib.popAux, e, e2, ih g (by omega)]
    simp only [ones]; omega

/-- the first of k that is, or k -/
def firstB (f : Nat → Bool) : Nat → Nat
  | 0 => 0
  | k + 1 => if firstB f k < k then firstB f k else if f k then k else k + 1
theorem firstB_le (f : Nat → Bool) (k : Nat) : firstB f k ≤ k := by
  induction k with
  | zero => exact Nat.le_refl _
  | succ k ih => simp only [firstB]; split <;> (try split) <;> omega
theorem firstB_before (f : Nat → Bool) (k j : Nat) (h : j < firstB f k) : f j = false := by
  induction k with
  | zero => simp [firstB] at h
  | succ k ih =>
    simp only [firstB] at h
    have hl := firstB_le f k
    split at h
    · exact ih h
    · split at h
      · exact ih (by omega)
      · rename_i h1 h2
        by_cases e : j = k
        · subst e; simpa using h2
        · exact ih (by omega)
theorem firstB_at (f : Nat → Bool) (k : Nat) (h : firstB f k < k) : f (firstB f k) = true := by
  induction k with
  | zero => omega
  | succ k ih =>
    simp only [firstB] at h ⊢
    split at h
    · rename_i h1; rw [if_pos h1]; exact ih h1
    · rename_i h1
      rw [if_neg h1]
      split at h
      · rename_i h2; rw [if_pos h2]; exact h2
      · omega
theorem word_zero (f : Nat → Bool) (k : Nat) : wordN f k = 0 ↔ firstB f k = k := by
  induction k with
  | zero => simp [wordN, firstB]
  | succ k ih =>
    have hl := firstB_le f k
    simp only [wordN, firstB]
    by_cases h1 : firstB f k < k
    · rw [if_pos h1]
      have : wordN f k ≠ 0 := fun e => by have := ih.1 e; omega
      omega
    · have h2 : wordN f k = 0 := ih.2 (by omega)
      rw [if_neg h1, h2]
      cases f k <;> simp
theorem len_zero (g : Nat) : Lib.bitLenAux g 0 = 0 := by
  cases g with
  | zero => rfl
  | succ g => simp [Lib.bitLenAux]
theorem len_word (f : Nat → Bool) (k g : Nat) (h : k ≤ g) : Lib.bitLenAux g (wordN f k) = k - firstB f k := by
  induction k generalizing g with
  | zero => exact len_zero g
  | succ k ih =>
    obtain ⟨g, rfl⟩ : ∃ m, g = m + 1 := ⟨g - 1, by omega⟩
    have hb : (f k).toNat ≤ 1 := Bool.toNat_le _
    have e : wordN f (k + 1) / 2 = wordN f k := by simp only [wordN]; omega
    have hz := word_zero f (k + 1)
    have hz0 := word_zero f k
    have hl := firstB_le f k
    have hl1 := firstB_le f (k + 1)
    rw [Lib.bitLenAux, e, ih g (by omega)]
    split
    · rename_i h0
      have := hz.1 h0
      omega
    · rename_i h0
      simp only [firstB]
      by_cases h1 : firstB f k < k
      · rw [if_pos h1]; omega
      · rw [if_neg h1]
        have h3 : wordN f k = 0 := hz0.2 (by omega)
        have h4 : f k = true := by
          cases h5 : f k with
          | true => rfl
          | false => exfalso; apply h0; simp [wordN, h3, h5]
        rw [if_pos h4]; omega

/-- the sum of a number's bytes' bits, in steps, as one that has 64 bits is summed -/
theorem and_byte (a r m M : Nat) (ha : a < 256) (hm : m < 256) : (a + 256 * r) &&& (m + 256 * M) = (a &&& m) + 256 * (r &&& M) := by
  have h1 : a &&& m < 256 := Nat.lt_of_le_of_lt Nat.and_le_left ha
  apply Nat.eq_of_testBit_eq
  intro j
  rw [show a + 256 * r = 2 ^ 8 * r + a by omega, show m + 256 * M = 2 ^ 8 * M + m by omega, show (a &&& m) + 256 * (r &&& M) = 2 ^ 8 * (r &&& M) + (a &&& m) by omega]
  rw [Nat.testBit_and, Nat.testBit_two_pow_mul_add _ (by simpa using ha), Nat.testBit_two_pow_mul_add _ (by simpa using hm), Nat.testBit_two_pow_mul_add _ (by simpa using h1)]
  split <;> simp
def n8 (a b c d e f g h : Nat) : Nat := a + 256 * (b + 256 * (c + 256 * (d + 256 * (e + 256 * (f + 256 * (g + 256 * h))))))
theorem and8 (a b c d e f g h m : Nat) (ha : a < 256) (hb : b < 256) (hc : c < 256) (hd : d < 256) (he : e < 256) (hf : f < 256) (hg : g < 256) (hm : m < 256) :
    n8 a b c d e f g h &&& n8 m m m m m m m m = n8 (a &&& m) (b &&& m) (c &&& m) (d &&& m) (e &&& m) (f &&& m) (g &&& m) (h &&& m) := by
  unfold n8
  rw [and_byte _ _ _ _ ha hm, and_byte _ _ _ _ hb hm, and_byte _ _ _ _ hc hm, and_byte _ _ _ _ hd hm, and_byte _ _ _ _ he hm, and_byte _ _ _ _ hf hm, and_byte _ _ _ _ hg hm]
def p1 (b : Nat) : Nat := (b / 2 &&& 85) + (b &&& 85)
def p2 (b : Nat) : Nat := (b / 4 &&& 51) + (b &&& 51)
def p3 (b : Nat) : Nat := Lib.popAux 8 b
theorem p1_step : ∀ b : Fin 256, ∀ e : Fin 2, (b.val / 2 + 128 * e.val) &&& 85 = (b.val / 2 &&& 85) := by decide +kernel
theorem p1_top : ∀ b : Fin 256, b.val / 2 < 256 ∧ p1 b.val < 256 := by decide +kernel
theorem p2_step : ∀ b : Fin 256, ∀ e : Fin 4, (b.val / 4 + 64 * e.val) &&& 51 = (b.val / 4 &&& 51) := by decide +kernel
theorem p2_top : ∀ b : Fin 256, p2 (p1 b.val) ≤ 68 ∧ p2 (p1 b.val) % 16 ≤ 4 ∧ p3 b.val ≤ 8 := by decide +kernel
theorem p3_step : ∀ b : Fin 256, ∀ e : Fin 5, (p2 (p1 b.val) / 16 + 16 * e.val + p2 (p1 b.val)) &&& 15 = p3 b.val := by decide +kernel
theorem swar1 (a b c d e f g h : Nat) (ha : a < 256) (hb : b < 256) (hc : c < 256) (hd : d < 256) (he : e < 256) (hf : f < 256) (hg : g < 256) (hh : h < 256) :
    (n8 a b c d e f g h / 2 &&& 6148914691236517205) + (n8 a b c d e f g h &&& 6148914691236517205) = n8 (p1 a) (p1 b) (p1 c) (p1 d) (p1 e) (p1 f) (p1 g) (p1 h) := by
  have hd2 : n8 a b c d e f g h / 2 = n8 (a / 2 + 128 * (b % 2)) (b / 2 + 128 * (c % 2)) (c / 2 + 128 * (d % 2)) (d / 2 + 128 * (e % 2)) (e / 2 + 128 * (f % 2)) (f / 2 + 128 * (g % 2)) (g / 2 + 128 * (h % 2)) (h / 2 + 128 * (0 % 2)) := by unfold n8; omega
  have hm : 6148914691236517205 = n8 85 85 85 85 85 85 85 85 := by decide
  rw [hd2, hm, and8 _ _ _ _ _ _ _ _ _ (by omega) (by omega) (by omega) (by omega) (by omega) (by omega) (by omega) (by omega), and8 _ _ _ _ _ _ _ _ _ ha hb hc hd he hf hg (by omega)]
  have s : ∀ (x y : Nat), x < 256 → (x / 2 + 128 * (y % 2)) &&& 85 = (x / 2 &&& 85) := fun x y hx => p1_step ⟨x, hx⟩ ⟨y % 2, Nat.mod_lt _ (by omega)⟩
  rw [s a b ha, s b c hb, s c d hc, s d e hd, s e f he, s f g hf, s g h hg, s h 0 hh]
  unfold n8 p1; omega
theorem swar2 (a b c d e f g h : Nat) (ha : a < 256) (hb : b < 256) (hc : c < 256) (hd : d < 256) (he : e < 256) (hf : f < 256) (hg : g < 256) (hh : h < 256) :
    (n8 a b c d e f g h / 4 &&& 3689348814741910323) + (n8 a b c d e f g h &&& 3689348814741910323) = n8 (p2 a) (p2 b) (p2 c) (p2 d) (p2 e) (p2 f) (p2 g) (p2 h) := by
  have hd2 : n8 a b c d e f g h / 4 = n8 (a / 4 + 64 * (b % 4)) (b / 4 + 64 * (c % 4)) (c / 4 + 64 * (d % 4)) (d / 4 + 64 * (e % 4)) (e / 4 + 64 * (f % 4)) (f / 4 + 64 * (g % 4)) (g / 4 + 64 * (h % 4)) (h / 4 + 64 * (0 % 4)) := by unfold n8; omega
  have hm : 3689348814741910323 = n8 51 51 51 51 51 51 51 51 := by decide
  rw [hd2, hm, and8 _ _ _ _ _ _ _ _ _ (by omega) (by omega) (by omega) (by omega) (by omega) (by omega) (by omega) (by omega), and8 _ _ _ _ _ _ _ _ _ ha hb hc hd he hf hg (by omega)]
  have s : ∀ (x y : Nat), x < 256 → (x / 4 + 64 * (y % 4)) &&& 51 = (x / 4 &&& 51) := fun x y hx => p2_step ⟨x, hx⟩ ⟨y % 4, Nat.mod_lt _ (by omega)⟩
  rw [s a b ha, s b c hb, s c d hc, s d e hd, s e f he, s f g hf, s g h hg, s h 0 hh]
  unfold n8 p2; omega
theorem swar3 (a b c d e f g h : Nat) (ha : a < 256) (hb : b < 256) (hc : c < 256) (hd : d < 256) (he : e < 256) (hf : f < 256) (hg : g < 256) (hh : h < 256) (y : Nat)
    (hy : y = n8 (p2 (p1 a)) (p2 (p1 b)) (p2 (p1 c)) (p2 (p1 d)) (p2 (p1 e)) (p2 (p1 f)) (p2 (p1 g)) (p2 (p1 h))) :
    (y / 16 + y) &&& 1085102592571150095 = n8 (p3 a) (p3 b) (p3 c) (p3 d) (p3 e) (p3 f) (p3 g) (p3 h) := by
  subst hy
  obtain ⟨a1, a2, a3⟩ := p2_top ⟨a, ha⟩
  obtain ⟨b1, b2, b3⟩ := p2_top ⟨b, hb⟩
  obtain ⟨c1, c2, c3⟩ := p2_top ⟨c, hc⟩
  obtain ⟨d1, d2, d3⟩ := p2_top ⟨d, hd⟩
  obtain ⟨e1, e2, e3⟩ := p2_top ⟨e, he⟩
  obtain ⟨f1, f2, f3⟩ := p2_top ⟨f, hf⟩
  obtain ⟨g1, g2, g3⟩ := p2_top ⟨g, hg⟩
  obtain ⟨h1, h2, h3⟩ := p2_top ⟨h, hh⟩
  have s : ∀ (x y : Nat), x < 256 → y ≤ 4 → (p2 (p1 x) / 16 + 16 * y + p2 (p1 x)) &&& 15 = p3 x := fun x y hx hy => p3_step ⟨x, hx⟩ ⟨y, by omega⟩
  have sa := s a _ ha b2
  have sb := s b _ hb c2
  have sc := s c _ hc d2
  have sd := s d _ hd e2
  have se := s e _ he f2
  have sf := s f _ hf g2
  have sg := s g _ hg h2
  have sh := s h 0 hh (by omega)
  clear s
  simp only at a1 a2 b1 b2 c1 c2 d1 d2 e1 e2 f1 f2 g1 g2 h1 h2
  rw [← sa, ← sb, ← sc, ← sd, ← se, ← sf, ← sg, ← sh]
  clear sa sb sc sd se sf sg sh a3 b3 c3 d3 e3 f3 g3 h3
  generalize p2 (p1 a) = a at *
  generalize p2 (p1 b) = b at *
  generalize p2 (p1 c) = c at *
  generalize p2 (p1 d) = d at *
  generalize p2 (p1 e) = e at *
  generalize p2 (p1 f) = f at *
  generalize p2 (p1 g) = g at *
  generalize p2 (p1 h) = h at *
  have hd2 : n8 a b c d e f g h / 16 + n8 a b c d e f g h = n8 (a / 16 + 16 * (b % 16) + a) (b / 16 + 16 * (c % 16) + b) (c / 16 + 16 * (d % 16) + c) (d / 16 + 16 * (e % 16) + d) (e / 16 + 16 * (f % 16) + e) (f / 16 + 16 * (g % 16) + f) (g / 16 + 16 * (h % 16) + g) (h / 16 + 16 * 0 + h) := by unfold n8; omega
  have hm : 1085102592571150095 = n8 15 15 15 15 15 15 15 15 := by decide
  rw [hd2, hm, and8 _ _ _ _ _ _ _ _ _ (by omega) (by omega) (by omega) (by omega) (by omega) (by omega) (by omega) (by omega)]
theorem swar4 (a b c d e f g h : Nat) (ha : a ≤ 8) (hb : b ≤ 8) (hc : c ≤ 8) (hd : d ≤ 8) (he : e ≤ 8) (hf : f ≤ 8) (hg : g ≤ 8) (hh : h ≤ 8) (y y1 y2 y3 : Nat) (hy : y = n8 a b c d e f g h) (h1 : y1 = y + y / 256) (h2 : y2 = y1 + y1 / 65536) (h3 : y3 = y2 + y2 / 4294967296) :
    y3 % 128 = a + b + c + d + e + f + g + h ∧ y1 < 2 ^ 64 ∧ y2 < 2 ^ 64 ∧ y3 < 2 ^ 64 := by
  have e1 : y / 256 = n8 b c d e f g h 0 := by subst hy; unfold n8; omega
  have f1 : y1 = n8 (a + b) (b + c) (c + d) (d + e) (e + f) (f + g) (g + h) h := by rw [h1, e1, hy]; unfold n8; omega
  have e2 : y1 / 65536 = n8 (c + d) (d + e) (e + f) (f + g) (g + h) h 0 0 := by rw [f1]; unfold n8; omega
  have f2 : y2 = n8 (a + b + c + d) (b + c + d + e) (c + d + e + f) (d + e + f + g) (e + f + g + h) (f + g + h) (g + h) h := by rw [h2, e2, f1]; unfold n8; omega
  have e3 : y2 / 4294967296 = n8 (e + f + g + h) (f + g + h) (g + h) h 0 0 0 0 := by rw [f2]; unfold n8; omega
  have f3 : y3 = n8 (a + b + c + d + e + f + g + h) (b + c + d + e + (f + g + h)) (c + d + e + f + (g + h)) (d + e + f + g + h) (e + f + g + h) (f + g + h) (g + h) h := by rw [h3, e3, f2]; unfold n8; omega
  refine ⟨by rw [f3]; unfold n8; omega, by rw [f1]; unfold n8; omega, by rw [f2]; unfold n8; omega, by rw [f3]; unfold n8; omega⟩
theorem pop_split (n x : Nat) : Lib.popAux (8 + n) x = p3 (x % 256) + Lib.popAux n (x / 256) := by
  unfold p3
  rw [show 8 + n = n + 1 + 1 + 1 + 1 + 1 + 1 + 1 + 1 by omega]
  simp only [Lib.popAux]
  have e : x / 2 / 2 / 2 / 2 / 2 / 2 / 2 / 2 = x / 256 := by omega
  rw [e]
  omega
theorem bytes8 (x : Nat) (h : x < 2 ^ 64) : ∃ a b c d e f g i, x = n8 a b c d e f g i ∧ a < 256 ∧ b < 256 ∧ c < 256 ∧ d < 256 ∧ e < 256 ∧ f < 256 ∧ g < 256 ∧ i < 256 :=
  ⟨x % 256, x / 256 % 256, x / 256 / 256 % 256, x / 256 / 256 / 256 % 256, x / 256 / 256 / 256 / 256 % 256, x / 256 / 256 / 256 / 256 / 256 % 256, x / 256 / 256 / 256 / 256 / 256 / 256 % 256, x / 256 / 256 / 256 / 256 / 256 / 256 / 256, by unfold n8; omega, by omega, by omega, by omega, by omega, by omega, by omega, by omega, by omega⟩
theorem pop_n8 (a b c d e f g h : Nat) (ha : a < 256) (hb : b < 256) (hc : c < 256) (hd : d < 256) (he : e < 256) (hf : f < 256) (hg : g < 256) :
    Lib.popAux 64 (n8 a b c d e f g h) = p3 a + p3 b + p3 c + p3 d + p3 e + p3 f + p3 g + p3 h := by
  have s : ∀ (n x r : Nat), x < 256 → Lib.popAux (8 + n) (x + 256 * r) = p3 x + Lib.popAux n r := fun n x r hx => by
    rw [pop_split, show (x + 256 * r) % 256 = x by omega, show (x + 256 * r) / 256 = r by omega]
  unfold n8
  rw [show (64 : Nat) = 8 + (8 + (8 + (8 + (8 + (8 + (8 + 8)))))) by rfl, s _ _ _ ha, s _ _ _ hb, s _ _ _ hc, s _ _ _ hd, s _ _ _ he, s _ _ _ hf, s _ _ _ hg]
  show _ + (_ + (_ + (_ + (_ + (_ + (_ + p3 h)))))) = _
  omega
theorem n8_lt (a b c d e f g h : Nat) (ha : a < 256) (hb : b < 256) (hc : c < 256) (hd : d < 256) (he : e < 256) (hf : f < 256) (hg : g < 256) (hh : h < 256) : n8 a b c d e f g h < 2 ^ 64 := by unfold n8; omega
theorem n8_16 (a b c d e f g h : Nat) (ha : a ≤ 68) (hb : b ≤ 68) (hc : c ≤ 68) (hd : d ≤ 68) (he : e ≤ 68) (hf : f ≤ 68) (hg : g ≤ 68) (hh : h ≤ 68) : n8 a b c d e f g h / 16 + n8 a b c d e f g h < 2 ^ 64 := by
  have : n8 a b c d e f g h < 2 ^ 63 := by unfold n8; omega
  omega
/-- as OnesCount64 sums -/
theorem pop64 (x t u v y1 y2 y3 : Nat) (h : x < 2 ^ 64) (ht : t = (x / 2 &&& 6148914691236517205) + (x &&& 6148914691236517205)) (hu : u = (t / 4 &&& 3689348814741910323) + (t &&& 3689348814741910323))
    (hv : v = (u / 16 + u) &&& 1085102592571150095) (h1 : y1 = v + v / 256) (h2 : y2 = y1 + y1 / 65536) (h3 : y3 = y2 + y2 / 4294967296) :
    y3 % 128 = Lib.popAux 64 x ∧ t < 2 ^ 64 ∧ u / 16 + u < 2 ^ 64 ∧ u < 2 ^ 64 ∧ v < 2 ^ 64 ∧ y1 < 2 ^ 64 ∧ y2 < 2 ^ 64 ∧ y3 < 2 ^ 64 := by
  obtain ⟨a, b, c, d, e, f, g, i, rfl, ha, hb, hc, hd, he, hf, hg, hi⟩ := bytes8 x h
  rw [swar1 _ _ _ _ _ _ _ _ ha hb hc hd he hf hg hi] at ht
  have q : ∀ x, x < 256 → p1 x < 256 := fun x hx => (p1_top ⟨x, hx⟩).2
  have r : ∀ x, x < 256 → p2 (p1 x) ≤ 68 ∧ p3 x ≤ 8 := fun x hx => ⟨(p2_top ⟨x, hx⟩).1, (p2_top ⟨x, hx⟩).2.2⟩
  have s : ∀ x, x < 256 → p2 (p1 x) < 256 := fun x hx => by have := (r x hx).1; omega
  have t3 : ∀ x, x < 256 → p3 x < 256 := fun x hx => by have := (r x hx).2; omega
  rw [ht, swar2 _ _ _ _ _ _ _ _ (q a ha) (q b hb) (q c hc) (q d hd) (q e he) (q f hf) (q g hg) (q i hi)] at hu
  rw [swar3 a b c d e f g i ha hb hc hd he hf hg hi u hu] at hv
  have s4 := swar4 _ _ _ _ _ _ _ _ (r a ha).2 (r b hb).2 (r c hc).2 (r d hd).2 (r e he).2 (r f hf).2 (r g hg).2 (r i hi).2 v y1 y2 y3 hv h1 h2 h3
  rw [pop_n8 _ _ _ _ _ _ _ _ ha hb hc hd he hf hg]
  refine ⟨s4.1, ?_, ?_, ?_, ?_, s4.2.1, s4.2.2.1, s4.2.2.2⟩
  · rw [ht]; exact n8_lt _ _ _ _ _ _ _ _ (q a ha) (q b hb) (q c hc) (q d hd) (q e he) (q f hf) (q g hg) (q i hi)
  · rw [hu]; exact n8_16 _ _ _ _ _ _ _ _ (r a ha).1 (r b hb).1 (r c hc).1 (r d hd).1 (r e he).1 (r f hf).1 (r g hg).1 (r i hi).1
  · rw [hu]; exact n8_lt _ _ _ _ _ _ _ _ (s a ha) (s b hb) (s c hc) (s d hd) (s e he) (s f hf) (s g hg) (s i hi)
  · rw [hv]; exact n8_lt _ _ _ _ _ _ _ _ (t3 a ha) (t3 b hb) (t3 c hc) (t3 d hd) (t3 e he) (t3 f hf) (t3 g hg) (t3 i hi)
end Go.Proofs.Ytefnofipcjjfpaa.Fr
