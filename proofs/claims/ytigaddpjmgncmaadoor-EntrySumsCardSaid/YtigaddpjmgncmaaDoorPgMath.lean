/- Plain facts on pages: what a page's bytes are, what is read of any bytes, and that a turn of at most 32 bits is seen; no program is imported. -/
import Derived.Test.YtigaddpjmgncmaaDoorFdMath
import Derived.Test.YtigaddpjmgncmaaDoorSmMath
namespace Go.Proofs.YtigaddpjmgncmaaDoor.Pg
open Go.Proofs.YtigaddpjmgncmaaDoor.Fd
open Go.Proofs.YtigaddpjmgncmaaDoor.Sm

/-- a sum as a number -/
def sumN (l : List UInt8) : Nat := (sumB l).toNat
/-- so many bytes 0 -/
def zs (n : Nat) : List UInt8 := List.replicate n 0
theorem zs_length (n : Nat) : (zs n).length = n := by simp [zs]
theorem zs_take (n k : Nat) (h : k ≤ n) : (zs n).take k = zs k := by unfold zs; rw [List.take_replicate, Nat.min_eq_left h]
theorem zs_drop (n k : Nat) : (zs n).drop k = zs (n - k) := by unfold zs; rw [List.drop_replicate]
theorem zs_app (n k : Nat) : zs n ++ zs k = zs (n + k) := by unfold zs; rw [List.replicate_append_replicate]
theorem zs_one : be 1 0 = zs 1 := rfl
/-- a number's four bytes, the lowest first -/
def lowL (x : Nat) : List UInt8 := (be 4 x).reverse
/-- a number with its bytes turned round -/
def rev32 (x : Nat) : Nat := num (lowL x)
/-- a page's bytes ahead of its sum -/
def headL (k n : Nat) (b : List UInt8) : List UInt8 := be 1 k ++ (be 1 0 ++ (be 2 b.length ++ (be 4 n ++ (b ++ zs (244 - b.length)))))
/-- a page's bytes -/
def sealL (k n : Nat) (b : List UInt8) : List UInt8 := headL k n b ++ lowL (sumN (headL k n b))
def blankL : List UInt8 := zs 256
def tornL (l : List UInt8) (at' : Nat) : List UInt8 := l.take at' ++ List.replicate (256 - at') 0xee

theorem sumN_lt (l : List UInt8) : sumN l < 4294967296 := (sumB l).isLt
theorem lowL_length (x : Nat) : (lowL x).length = 4 := by simp [lowL, be_length]
theorem rev32_lt (x : Nat) : rev32 x < 256 ^ 4 := by
  have := num_lt (lowL x); rw [lowL_length] at this; exact this

theorem be_num (l : List UInt8) : be l.length (num l) = l := by
  suffices h : ∀ k, k ≤ l.length → be k (num (l.take k)) = l.take k by
    have := h l.length (Nat.le_refl _); rwa [List.take_length] at this
  intro k
  induction k with
  | zero => intro _; simp [be]
  | succ k ih =>
    intro hk
    have hk' : k < l.length := by omega
    have ih := ih (by omega)
    rw [List.take_succ_eq_append_getElem hk', num_snoc]
    have hn := num_lt (l.take k)
    rw [List.length_take, Nat.min_eq_left (by omega)] at hn
    have hb := (l[k]).toNat_lt
    apply List.ext_getElem?
    intro i
    by_cases hi : i < k + 1
    · rw [be_at _ _ _ hi]
      by_cases hik : i < k
      · have e1 : (l.take k ++ [l[k]])[i]? = some (beB k (num (l.take k)) i) := by
          rw [List.getElem?_append_left (by simp; omega)]
          have := be_at k (num (l.take k)) i hik
          rwa [ih] at this
        rw [e1]
        congr 1
        unfold beB
        congr 1
        rw [show k + 1 - 1 - i = (k - 1 - i) + 1 by omega, Nat.pow_succ, Nat.mul_comm (256 ^ (k - 1 - i)), ← Nat.div_div_eq_div_mul]
        rw [show (256 * num (l.take k) + l[k].toNat) / 256 = num (l.take k) by omega]
      · obtain rfl : i = k := by omega
        rw [List.getElem?_append_right (by simp; omega)]
        simp only [List.length_take]
        rw [Nat.min_eq_left (by omega)]
        simp only [Nat.sub_self, List.getElem?_cons_zero]
        congr 1
        unfold beB
        simp only [Nat.add_sub_cancel, Nat.sub_self, Nat.pow_zero, Nat.div_one]
        rw [← UInt8.toNat_inj, UInt8.toNat_ofNat']
        omega
    · rw [List.getElem?_eq_none (by rw [be_length]; omega), List.getElem?_eq_none (by simp; omega)]

theorem be_rev32 (x : Nat) : be 4 (rev32 x) = lowL x := by
  have := be_num (lowL x); rwa [lowL_length] at this
theorem rev32_back (l : List UInt8) (h : l.length = 4) (x : Nat) (hx : x < 4294967296) : rev32 (num l) = x ↔ lowL x = l := by
  constructor
  · intro e
    have h1 : be 4 (rev32 (num l)) = lowL (num l) := be_rev32 _
    have h2 : be 4 (num l) = l := by have := be_num l; rwa [h] at this
    rw [e] at h1
    unfold lowL at h1 ⊢
    rw [h1, h2, List.reverse_reverse]
  · intro e
    have h2 : be 4 (num l) = l := by have := be_num l; rwa [h] at this
    unfold rev32 lowL
    rw [h2, ← e]
    unfold lowL
    rw [List.reverse_reverse, num_be 4 x (by omega)]

theorem headL_length (k n : Nat) (b : List UInt8) (h : b.length ≤ 244) : (headL k n b).length = 252 := by
  simp [headL, be_length, zs_length]; omega
theorem sealL_length (k n : Nat) (b : List UInt8) (h : b.length ≤ 244) : (sealL k n b).length = 256 := by
  simp [sealL, headL_length k n b h, lowL_length]

theorem drop_app (A B : List UInt8) (n : Nat) (h : A.length ≤ n) : (A ++ B).drop n = B.drop (n - A.length) := by
  rw [List.drop_append, List.drop_eq_nil_of_le h, List.nil_append]
theorem take_app (A B : List UInt8) (n : Nat) (h : A.length = n) : (A ++ B).take n = A := by
  subst h; simp

/-- the area behind all puts but the sum's -/
def putsL (k n : Nat) (b : List UInt8) : List UInt8 :=
  putAt (putAt (putAt (putAt (zs 256) 0 (be 1 k)) 2 (be 2 b.length)) 4 (be 4 n)) 8 b
theorem put_len (l : List UInt8) (o w n : Nat) (h : o + w ≤ l.length) : (putAt l o (be w n)).length = l.length :=
  putAt_length _ _ _ (by rw [be_length]; exact h)
theorem puts1 (k : Nat) : putAt (zs 256) 0 (be 1 k) = be 1 k ++ zs 255 := by
  unfold putAt; rw [be_length, zs_drop, List.take_zero, List.nil_append]
theorem puts2 (k m : Nat) : putAt (be 1 k ++ zs 255) 2 (be 2 m) = be 1 k ++ (be 1 0 ++ (be 2 m ++ zs 252)) := by
  unfold putAt
  rw [be_length, List.take_append, List.take_of_length_le (by rw [be_length]; omega), drop_app _ _ _ (by rw [be_length]; omega), be_length, zs_one, zs_take _ _ (by omega), zs_drop]
  simp only [List.append_assoc]
theorem puts3 (k m n : Nat) : putAt (be 1 k ++ (be 1 0 ++ (be 2 m ++ zs 252))) 4 (be 4 n) = be 1 k ++ (be 1 0 ++ (be 2 m ++ (be 4 n ++ zs 248))) := by
  unfold putAt
  have h : (be 1 k ++ (be 1 0 ++ be 2 m)).length = 4 := by simp [be_length]
  have e : be 1 k ++ (be 1 0 ++ (be 2 m ++ zs 252)) = (be 1 k ++ (be 1 0 ++ be 2 m)) ++ zs 252 := by simp only [List.append_assoc]
  rw [e, be_length, take_app _ _ _ h, drop_app _ _ _ (by omega), h, zs_drop]
  simp only [List.append_assoc]
theorem puts4 (k m n : Nat) (b : List UInt8) (hb : b.length ≤ 244) : putAt (be 1 k ++ (be 1 0 ++ (be 2 m ++ (be 4 n ++ zs 248)))) 8 b =
    (be 1 k ++ (be 1 0 ++ (be 2 m ++ (be 4 n ++ (b ++ zs (244 - b.length)))))) ++ zs 4 := by
  unfold putAt
  have h : (be 1 k ++ (be 1 0 ++ (be 2 m ++ be 4 n))).length = 8 := by simp [be_length]
  have e : be 1 k ++ (be 1 0 ++ (be 2 m ++ (be 4 n ++ zs 248))) = (be 1 k ++ (be 1 0 ++ (be 2 m ++ be 4 n))) ++ zs 248 := by simp only [List.append_assoc]
  rw [e, take_app _ _ _ h, drop_app _ _ _ (by omega), h, zs_drop]
  simp only [List.append_assoc, zs_app]
  rw [show 248 - (8 + b.length - 8) = 244 - b.length + 4 by omega]
theorem putsL_eq (k n : Nat) (b : List UInt8) (hb : b.length ≤ 244) : putsL k n b = headL k n b ++ zs 4 := by
  unfold putsL headL; rw [puts1, puts2, puts3, puts4 _ _ _ _ hb]
theorem putsL_length (k n : Nat) (b : List UInt8) (hb : b.length ≤ 244) : (putsL k n b).length = 256 := by
  rw [putsL_eq _ _ _ hb]; simp [headL_length k n b hb, zs_length]
theorem putsL_take (k n : Nat) (b : List UInt8) (hb : b.length ≤ 244) : (putsL k n b).take 252 = headL k n b := by
  rw [putsL_eq _ _ _ hb, take_app _ _ _ (headL_length k n b hb)]
theorem putsL_sum (k n : Nat) (b : List UInt8) (hb : b.length ≤ 244) : putAt (putsL k n b) 252 (be 4 (rev32 (sumN (headL k n b)))) = sealL k n b := by
  have h := headL_length k n b hb
  rw [be_rev32]
  unfold putAt sealL
  rw [putsL_eq _ _ _ hb, take_app _ _ _ h, lowL_length, drop_app _ _ _ (by omega), h, zs_drop]
  show _ ++ _ ++ [] = _; rw [List.append_nil]

/-- may a page be? -/
def mayP (k n : Int) (s : Nat) : Prop := 1 ≤ k ∧ k ≤ 5 ∧ 0 ≤ n ∧ n < 1000 ∧ s ≤ 244
instance (k n : Int) (s : Nat) : Decidable (mayP k n s) := by unfold mayP; infer_instance

/-- what is read of any bytes: kind, number, body, and the error -/
def openL (l : List UInt8) : Nat × Nat × List UInt8 × Nat :=
  if l.length ≠ 256 then (0, 0, [], 9)
  else if l = blankL then (0, 0, [], 0)
  else if lowL (sumN (l.take 252)) ≠ l.drop 252 then (0, 0, [], 7)
  else if mayP (num (getAt l 0 1)) (num (getAt l 4 4)) (num (getAt l 2 2)) ∧ sealL (num (getAt l 0 1)) (num (getAt l 4 4)) (getAt l 8 (num (getAt l 2 2))) = l
    then (num (getAt l 0 1), num (getAt l 4 4), getAt l 8 (num (getAt l 2 2)), 0)
  else (0, 0, [], 6)

theorem getAt_app (A B C : List UInt8) (o n : Nat) (ho : A.length = o) (hn : B.length = n) : getAt (A ++ (B ++ C)) o n = B := by
  unfold getAt; rw [drop_app _ _ _ (by omega), ho, Nat.sub_self, List.drop_zero, take_app _ _ _ hn]

theorem seal_kind (k n : Nat) (b : List UInt8) (hk : k < 256) : num (getAt (sealL k n b) 0 1) = k := by
  have : getAt (sealL k n b) 0 1 = be 1 k := by
    unfold sealL headL
    simp only [List.append_assoc]
    exact getAt_app [] _ _ 0 1 rfl (be_length _ _)
  rw [this, num_be 1 k (by omega)]
theorem seal_size (k n : Nat) (b : List UInt8) (hb : b.length ≤ 244) : num (getAt (sealL k n b) 2 2) = b.length := by
  have : getAt (sealL k n b) 2 2 = be 2 b.length := by
    unfold sealL headL
    simp only [List.append_assoc]
    rw [← List.append_assoc]
    exact getAt_app _ _ _ 2 2 (by simp [be_length]) (be_length _ _)
  rw [this, num_be 2 _ (by omega)]
theorem seal_number (k n : Nat) (b : List UInt8) (hn : n < 4294967296) : num (getAt (sealL k n b) 4 4) = n := by
  have : getAt (sealL k n b) 4 4 = be 4 n := by
    unfold sealL headL
    simp only [List.append_assoc]
    rw [← List.append_assoc, ← List.append_assoc]
    exact getAt_app _ _ _ 4 4 (by simp [be_length]) (be_length _ _)
  rw [this, num_be 4 _ (by omega)]
theorem seal_body (k n : Nat) (b : List UInt8) : getAt (sealL k n b) 8 b.length = b := by
  unfold sealL headL
  simp only [List.append_assoc]
  rw [← List.append_assoc, ← List.append_assoc, ← List.append_assoc]
  exact getAt_app _ _ _ 8 _ (by simp [be_length]) rfl
theorem seal_take (k n : Nat) (b : List UInt8) (hb : b.length ≤ 244) : (sealL k n b).take 252 = headL k n b := take_app _ _ _ (headL_length k n b hb)
theorem seal_drop (k n : Nat) (b : List UInt8) (hb : b.length ≤ 244) : (sealL k n b).drop 252 = lowL (sumN (headL k n b)) := by
  unfold sealL; rw [drop_app _ _ _ (by rw [headL_length k n b hb]; omega), headL_length k n b hb]; simp
theorem seal_not_blank (k n : Nat) (b : List UInt8) (hk : 1 ≤ k) (hk' : k < 256) : sealL k n b ≠ blankL := by
  intro e
  have h := seal_kind k n b hk'
  rw [e] at h
  have : num (getAt blankL 0 1) = 0 := by decide
  omega

/-- what is sealed is opened -/
theorem open_seal (k n : Nat) (b : List UInt8) (h : mayP k n b.length) : openL (sealL k n b) = (k, n, b, 0) := by
  unfold mayP at h
  have hb : b.length ≤ 244 := h.2.2.2.2
  unfold openL
  rw [if_neg (by rw [sealL_length k n b hb]; simp), if_neg (seal_not_blank k n b (by omega) (by omega)), seal_take k n b hb, seal_drop k n b hb, if_neg (by simp)]
  rw [seal_kind k n b (by omega), seal_number k n b (by omega), seal_size k n b hb, seal_body, if_pos ⟨h, rfl⟩]
theorem seal_inj {k n k' n' : Nat} {b b' : List UInt8} (h : mayP k n b.length) (h' : mayP k' n' b'.length) (e : sealL k n b = sealL k' n' b') : k = k' ∧ n = n' ∧ b = b' := by
  have h1 := open_seal k n b h
  rw [e, open_seal k' n' b' h'] at h1
  simp only [Prod.mk.injEq] at h1
  exact ⟨h1.1.symm, h1.2.1.symm, h1.2.2.1.symm⟩

/-- what is opened without an error is blank, or what was sealed -/
theorem open_back (l : List UInt8) (h : (openL l).2.2.2 = 0) :
    l.length = 256 ∧ ((l = blankL ∧ openL l = (0, 0, [], 0)) ∨
      (∃ k n : Nat, ∃ b, mayP k n b.length ∧ sealL k n b = l ∧ openL l = (k, n, b, 0))) := by
  unfold openL at h ⊢
  by_cases h1 : l.length ≠ 256
  · rw [if_pos h1] at h; cases h
  · refine ⟨by omega, ?_⟩
    rw [if_neg h1] at h ⊢
    by_cases h2 : l = blankL
    · exact .inl ⟨h2, by rw [if_pos h2]⟩
    · rw [if_neg h2] at h ⊢
      by_cases h3 : lowL (sumN (l.take 252)) ≠ l.drop 252
      · rw [if_pos h3] at h; cases h
      · rw [if_neg h3] at h ⊢
        by_cases h4 : mayP (num (getAt l 0 1)) (num (getAt l 4 4)) (num (getAt l 2 2)) ∧ sealL (num (getAt l 0 1)) (num (getAt l 4 4)) (getAt l 8 (num (getAt l 2 2))) = l
        · right
          rw [if_pos h4]
          have hm := h4.1
          have hlen : (getAt l 8 (num (getAt l 2 2))).length = num (getAt l 2 2) := by
            apply getAt_length; have := hm.2.2.2.2; omega
          exact ⟨_, _, _, by rw [hlen]; exact hm, h4.2, rfl⟩
        · rw [if_neg h4] at h; cases h
theorem open_zero (l : List UInt8) (h : (openL l).2.2.2 ≠ 0) : openL l = (0, 0, [], (openL l).2.2.2) := by
  unfold openL at h ⊢
  by_cases h1 : l.length ≠ 256
  · rw [if_pos h1]
  · rw [if_neg h1] at h ⊢
    by_cases h2 : l = blankL
    · rw [if_pos h2]
    · rw [if_neg h2] at h ⊢
      by_cases h3 : lowL (sumN (l.take 252)) ≠ l.drop 252
      · rw [if_pos h3]
      · rw [if_neg h3] at h ⊢
        by_cases h4 : mayP (num (getAt l 0 1)) (num (getAt l 4 4)) (num (getAt l 2 2)) ∧ sealL (num (getAt l 0 1)) (num (getAt l 4 4)) (getAt l 8 (num (getAt l 2 2))) = l
        · rw [if_pos h4] at h; exact absurd rfl h
        · rw [if_neg h4]

theorem torn_length (l : List UInt8) (a : Nat) (hl : l.length = 256) (ha : a ≤ 256) : (tornL l a).length = 256 := by
  simp [tornL]; omega
theorem torn_all (l : List UInt8) (hl : l.length = 256) : tornL l 256 = l := by
  unfold tornL; rw [List.take_of_length_le (by omega)]; simp
theorem torn_twice (l : List UInt8) (a t : Nat) (hl : l.length = 256) (ha : a ≤ 256) (ht : t ≤ 256) (h : a ≤ t) : tornL (tornL l a) t = tornL l a := by
  unfold tornL
  rw [List.take_append, List.take_take, Nat.min_eq_right h, List.length_take, hl, Nat.min_eq_left (by omega), List.take_replicate, Nat.min_eq_left (by omega), List.append_assoc, List.replicate_append_replicate]
  congr 2; omega
end Go.Proofs.YtigaddpjmgncmaaDoor.Pg
