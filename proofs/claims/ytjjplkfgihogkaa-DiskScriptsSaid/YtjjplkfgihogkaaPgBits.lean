/- Plain facts: a word's bytes turned round, by masks and shifts and by bytes. -/
import Derived.Test.YtjjplkfgihogkaaPgMath
import Derived.Test.YtjjplkfgihogkaaSmWords
import Derived.Laws.BitsAll
namespace Go.Proofs.Ytjjplkfgihogkaa.Pg
open Go.RowKit
open Go.Proofs.Ytjjplkfgihogkaa.Fd
open Go.Proofs.Ytjjplkfgihogkaa.Sm

theorem U_and (a b : B32) : bits .and .u32 (U a) (U b) = U (a &&& b) := by
  unfold U; rw [u32_and_nat _ _ a.isLt b.isLt, BitVec.toNat_and]
theorem U_or (a b : B32) : bits .or .u32 (U a) (U b) = U (a ||| b) := by
  unfold U; rw [u32_or_nat _ _ a.isLt b.isLt, BitVec.toNat_or]
theorem U_shr (a : B32) (k : Nat) : U a / (2 : Int) ^ k = U (a >>> k) := by
  unfold U; rw [BitVec.toNat_ushiftRight, Nat.shiftRight_eq_div_pow]; simp
theorem U_shl (a : B32) (k : Nat) : U a * (2 : Int) ^ k % (4294967296 : Int) = U (a <<< k) := by
  unfold U; rw [BitVec.toNat_shiftLeft, Nat.shiftLeft_eq]; simp

/-- the bytes turned round, by masks and shifts -/
def half (a : B32) : B32 := (a >>> 8 &&& 16711935#32) ||| ((a &&& 16711935#32) <<< 8)
def revB (a : B32) : B32 := (half a >>> 16) ||| (half a <<< 16)

theorem beB_nat (x i : Nat) : (beB 4 x i).toNat = x / 2 ^ (8 * (3 - i)) % 2 ^ 8 := by
  unfold beB; rw [UInt8.toNat_ofNat', show (256 : Nat) = 2 ^ 8 from rfl, ← Nat.pow_mul]
theorem lowL_list (x : Nat) : lowL x = [beB 4 x 3, beB 4 x 2, beB 4 x 1, beB 4 x 0] := rfl
theorem rev32_nat (x : Nat) : rev32 x = 2 ^ 8 * (2 ^ 8 * (2 ^ 8 * (x % 2 ^ 8) + x / 2 ^ 8 % 2 ^ 8) + x / 2 ^ 16 % 2 ^ 8) + x / 2 ^ 24 % 2 ^ 8 := by
  unfold rev32
  rw [lowL_list]
  simp only [num, List.foldl_cons, List.foldl_nil, beB_nat]
  simp
theorem byte_bit (x s j : Nat) (h : j < 8) : (x / 2 ^ s % 2 ^ 8).testBit j = x.testBit (s + j) := by
  rw [Nat.testBit_mod_two_pow, Nat.testBit_div_two_pow]; simp [h, Nat.add_comm]
theorem byte_bit0 (x j : Nat) (h : j < 8) : (x % 2 ^ 8).testBit j = x.testBit j := by
  rw [Nat.testBit_mod_two_pow]; simp [h]
theorem byte_lt (x s : Nat) : x / 2 ^ s % 2 ^ 8 < 2 ^ 8 := Nat.mod_lt _ (by decide)
theorem rev32_bit (x i : Nat) : (rev32 x).testBit i = if i < 8 then x.testBit (24 + i) else if i < 16 then x.testBit (8 + i) else if i < 24 then x.testBit (i - 8) else decide (i < 32) && x.testBit (i - 24) := by
  rw [rev32_nat, Nat.testBit_two_pow_mul_add _ (byte_lt _ _)]
  by_cases h : i < 8
  · rw [if_pos h, if_pos h, byte_bit _ _ _ h]
  · rw [if_neg h, if_neg h, Nat.testBit_two_pow_mul_add _ (byte_lt _ _)]
    by_cases h2 : i < 16
    · rw [if_pos (by omega), if_pos h2, byte_bit _ _ _ (by omega)]; congr 1; omega
    · rw [if_neg (by omega), if_neg h2, Nat.testBit_two_pow_mul_add _ (byte_lt _ _)]
      by_cases h3 : i < 24
      · rw [if_pos (by omega), if_pos h3, byte_bit _ _ _ (by omega)]; congr 1; omega
      · rw [if_neg (by omega), if_neg h3, Nat.testBit_mod_two_pow]
        congr 1
        congr 1; simp; omega

theorem mask_bit (i : Nat) (h : i < 32) : (16711935#32).getLsbD i = (decide (i < 8) || (decide (16 ≤ i) && decide (i < 24))) := by
  have : ∀ i : Fin 32, (16711935#32).getLsbD i.val = (decide (i.val < 8) || (decide (16 ≤ i.val) && decide (i.val < 24))) := by decide
  exact this ⟨i, h⟩
theorem half_bit (a : B32) (i : Nat) (h : i < 32) : (half a).getLsbD i = if i < 8 then a.getLsbD (8 + i) else if i < 16 then a.getLsbD (i - 8) else if i < 24 then a.getLsbD (8 + i) else a.getLsbD (i - 8) := by
  unfold half
  rw [BitVec.getLsbD_or, BitVec.getLsbD_and, BitVec.getLsbD_shiftLeft, BitVec.getLsbD_and, BitVec.getLsbD_ushiftRight, mask_bit i h]
  by_cases h1 : i < 8
  · simp [h1]
  · by_cases h2 : i < 16
    · have : ¬ 16 ≤ i := by omega
      have h3 : i - 8 < 8 := by omega
      rw [mask_bit (i - 8) (by omega)]
      simp [h1, h2, this, h3, h]
    · by_cases h3 : i < 24
      · have e1 : ¬ i - 8 < 8 := by omega
        have e2 : ¬ 16 ≤ i - 8 := by omega
        rw [mask_bit (i - 8) (by omega)]
        simp [h1, h2, h3, e1, e2, h]; omega
      · have e1 : ¬ i - 8 < 8 := by omega
        have e2 : 16 ≤ i - 8 := by omega
        have e3 : i - 8 < 24 := by omega
        rw [mask_bit (i - 8) (by omega)]
        simp [h1, h2, h3, e1, e2, e3, h]
theorem revB_rev (a : B32) : U (revB a) = (rev32 a.toNat : Int) := by
  unfold U
  congr 1
  have hlt : rev32 a.toNat < 2 ^ 32 := rev32_lt _
  apply Nat.eq_of_testBit_eq
  intro i
  rw [rev32_bit]
  show (revB a).getLsbD i = _
  by_cases h : i < 32
  · unfold revB
    rw [BitVec.getLsbD_or, BitVec.getLsbD_ushiftRight, BitVec.getLsbD_shiftLeft]
    by_cases h1 : i < 8
    · rw [half_bit a (16 + i) (by omega)]
      have e1 : ¬ 16 + i < 8 := by omega
      have e2 : ¬ 16 + i < 16 := by omega
      have e3 : 16 + i < 24 := by omega
      have e4 : i < 16 := by omega
      have e5 : 8 + (16 + i) = 24 + i := by omega
      simp [h1, h, e1, e2, e3, e4, e5, BitVec.getLsbD]
    · by_cases h2 : i < 16
      · rw [half_bit a (16 + i) (by omega)]
        have e1 : ¬ 16 + i < 8 := by omega
        have e2 : ¬ 16 + i < 16 := by omega
        have e3 : ¬ 16 + i < 24 := by omega
        have e5 : 16 + i - 8 = 8 + i := by omega
        simp [h1, h2, h, e1, e2, e3, e5, BitVec.getLsbD]
      · have hz : (half a).getLsbD (16 + i) = false := BitVec.getLsbD_of_ge _ _ (by omega)
        rw [hz, half_bit a (i - 16) (by omega)]
        by_cases h3 : i < 24
        · have e1 : i - 16 < 8 := by omega
          have e5 : 8 + (i - 16) = i - 8 := by omega
          simp [h1, h2, h3, h, e1, e5, BitVec.getLsbD]
        · have e1 : ¬ i - 16 < 8 := by omega
          have e2 : i - 16 < 16 := by omega
          have e5 : i - 16 - 8 = i - 24 := by omega
          simp [h1, h2, h3, h, e1, e2, e5, BitVec.getLsbD]
  · rw [BitVec.getLsbD_of_ge _ _ (by omega), if_neg (by omega), if_neg (by omega), if_neg (by omega)]
    simp [h]
end Go.Proofs.Ytjjplkfgihogkaa.Pg
