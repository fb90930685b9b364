/- Plain facts: a page of which at most 32 bits that stand one behind the other are turned is refused, or blank. -/
import Derived.Test.YtfedkhomplffoaaPgBits
import Derived.Test.YtfedkhomplffoaaSmSeenM
namespace Go.Proofs.Ytfedkhomplffoaa.Pg
open Go.Proofs.Ytfedkhomplffoaa.Fd
open Go.Proofs.Ytfedkhomplffoaa.Sm

theorem wd_bit (c : UInt8) (i : Nat) (h : 8 ≤ i) : (wd c).getLsbD i = false := by
  unfold wd
  rw [BitVec.getLsbD_ofNat]
  have : c.toNat.testBit i = false := Nat.testBit_lt_two_pow (Nat.lt_of_lt_of_le c.toNat_lt (Nat.pow_le_pow_right (by decide) h))
  simp [this]
theorem stp_wd (c : UInt8) (j : Nat) (h : j + 1 ≤ 24) : stp (wd c <<< (j + 1)) = wd c <<< j := by
  have hb : (wd c <<< (j + 1)).getLsbD 0 = false := by rw [BitVec.getLsbD_shiftLeft]; simp
  unfold stp; rw [hb]
  apply BitVec.eq_of_getLsbD_eq; intro i hi
  simp only [Bool.false_eq_true, if_false, BitVec.xor_zero]
  rw [BitVec.getLsbD_ushiftRight, BitVec.getLsbD_shiftLeft, BitVec.getLsbD_shiftLeft]
  by_cases h1 : i < 31
  · have e1 : 1 + i < 32 := by omega
    have e2 : 1 + i - (j + 1) = i - j := by omega
    have e3 : (1 + i < j + 1) ↔ (i < j) := by omega
    simp [e1, hi, e2, e3]
  · have e1 : ¬ 1 + i < 32 := by omega
    have e4 : (wd c).getLsbD (i - j) = false := wd_bit c _ (by omega)
    simp [e1, e4]
theorem stps_wd (c : UInt8) (j : Nat) : j ≤ 24 → stps j (wd c <<< j) = wd c := by
  induction j with
  | zero => intro _; simp [stps]
  | succ j ih =>
    intro h
    show stps j (stp (wd c <<< (j + 1))) = _
    rw [stp_wd c j h, ih (by omega)]
theorem thr_wd (c : UInt8) (k j : Nat) (h : j ≤ 3) : thr k (wd c) = thr (k + j) (wd c <<< (8 * j)) := by
  rw [Nat.add_comm, thr_add]
  have := stps_wd c (8 * j) (by omega)
  unfold thr at this ⊢
  rw [this]

theorem word_of (x : Nat) : wd (beB 4 x 3) ^^^ (wd (beB 4 x 2) <<< 8 ^^^ (wd (beB 4 x 1) <<< 16 ^^^ wd (beB 4 x 0) <<< 24)) = BitVec.ofNat 32 x := by
  have hb : ∀ i j, j < 8 → (wd (beB 4 x i)).getLsbD j = x.testBit (8 * (3 - i) + j) := by
    intro i j hj
    unfold wd
    rw [BitVec.getLsbD_ofNat, beB_nat, byte_bit _ _ _ hj]
    have : j < 32 := by omega
    simp [this]
  apply BitVec.eq_of_getLsbD_eq; intro i hi
  rw [BitVec.getLsbD_xor, BitVec.getLsbD_xor, BitVec.getLsbD_xor, BitVec.getLsbD_shiftLeft, BitVec.getLsbD_shiftLeft, BitVec.getLsbD_shiftLeft, BitVec.getLsbD_ofNat]
  by_cases h1 : i < 8
  · have e2 : i < 16 := by omega
    have e3 : i < 24 := by omega
    rw [hb 3 i h1]; simp [h1, e2, e3, hi]
  · rw [wd_bit _ i (by omega)]
    by_cases h2 : i < 16
    · have e3 : i < 24 := by omega
      rw [hb 2 (i - 8) (by omega)]
      have e : 8 * (3 - 2) + (i - 8) = i := by omega
      rw [e]; simp [h1, h2, e3, hi]
    · rw [wd_bit _ (i - 8) (by omega)]
      by_cases h3 : i < 24
      · rw [hb 1 (i - 16) (by omega)]
        have e : 8 * (3 - 1) + (i - 16) = i := by omega
        rw [e]; simp [h2, h3, hi]
      · rw [wd_bit _ (i - 16) (by omega), hb 0 (i - 24) (by omega)]
        have e : 8 * (3 - 0) + (i - 24) = i := by omega
        rw [e]; simp [h3, hi]

theorem alo_low (a : B32) (x : Nat) : alo a (lowL x) = thr 4 (a ^^^ BitVec.ofNat 32 x) := by
  rw [lowL_list, ← word_of]
  simp only [alo_cons, alo_nil]
  have t2 : thr 1 (thr 1 (thr 1 (wd (beB 4 x 2)))) = thr 4 (wd (beB 4 x 2) <<< 8) := by rw [← thr_add, ← thr_add]; exact thr_wd _ 3 1 (by omega)
  have t1 : thr 1 (thr 1 (wd (beB 4 x 1))) = thr 4 (wd (beB 4 x 1) <<< 16) := by rw [← thr_add]; exact thr_wd _ 2 2 (by omega)
  have t0 : thr 1 (wd (beB 4 x 0)) = thr 4 (wd (beB 4 x 0) <<< 24) := thr_wd _ 1 3 (by omega)
  have t3 : ∀ y, thr 1 (thr 1 (thr 1 (thr 1 y))) = thr 4 y := fun y => by rw [← thr_add, ← thr_add, ← thr_add]
  simp only [thr_xor, t2, t1, t0, t3]
  ac_rfl

/-- a page whose sum is right leaves always the same -/
theorem right_sum (l : List UInt8) (h : lowL (sumN (l.take 252)) = l.drop 252) : alo full l = thr 4 full := by
  rw [← List.take_append_drop 252 l, alo_append, ← h, alo_low]
  unfold sumN sumB
  rw [BitVec.ofNat_toNat, BitVec.setWidth_eq]
  congr 1
  rw [← BitVec.xor_assoc, BitVec.xor_self, BitVec.zero_xor]

theorem seal_right (k n : Nat) (b : List UInt8) (hb : b.length ≤ 244) : alo full (sealL k n b) = thr 4 full := by
  apply right_sum
  rw [seal_take k n b hb, seal_drop k n b hb]

theorem turned_open (l : List UInt8) (b : B32) (j : Nat) (hl : l.length = 256) (hb : b ≠ 0#32) (h : alo full l = thr 4 full ^^^ stps j (low b 32)) :
    l = blankL ∨ openL l = (0, 0, [], 7) := by
  by_cases h1 : l = blankL
  · exact .inl h1
  · right
    unfold openL
    rw [if_neg (by omega), if_neg h1, if_pos]
    intro e
    rw [right_sum l e, low_all] at h
    apply hb; apply stps_eq_zero j
    have h2 := congrArg (thr 4 full ^^^ ·) h
    simp only [← BitVec.xor_assoc, BitVec.xor_self, BitVec.zero_xor] at h2
    exact h2.symm
end Go.Proofs.Ytfedkhomplffoaa.Pg
