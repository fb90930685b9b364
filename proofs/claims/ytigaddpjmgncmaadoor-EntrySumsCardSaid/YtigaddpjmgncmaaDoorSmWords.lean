/- How 32-bit words stand in the program's numbers: the step of a sum, in the numbers that a walk shows. -/
import Derived.Test.YtigaddpjmgncmaaDoorSmMath
import Derived.WalkKit
import Derived.Deep.WholeRow
namespace Go.Proofs.YtigaddpjmgncmaaDoor.Sm
open Go.RowKit

/-- a word as a number -/
def U (b : B32) : Int := (b.toNat : Int)

theorem U_lo (b : B32) : 0 ≤ U b := by unfold U; omega
theorem U_hi (b : B32) : U b < 4294967296 := by unfold U; have := b.isLt; omega
theorem U_inj {a b : B32} (h : U a = U b) : a = b := by
  unfold U at h; exact BitVec.eq_of_toNat_eq (by omega)
theorem U_of (x : Int) (h0 : 0 ≤ x) (h1 : x < 4294967296) : x = U (BitVec.ofInt 32 x) := by
  unfold U; rw [BitVec.toNat_ofInt]; omega
theorem U_beq (a b : B32) : (U a == U b) = (a == b) := by
  rw [Bool.eq_iff_iff, beq_iff_eq, beq_iff_eq]; exact ⟨U_inj, fun h => by rw [h]⟩

theorem U_xor (a b : B32) : bits .xor .u32 (U a) (U b) = U (a ^^^ b) := by
  unfold U; rw [u32_xor_nat _ _ a.isLt b.isLt, BitVec.toNat_xor]
theorem U_full : (4294967295 : Int) = U full := rfl
theorem U_zero : (0 : Int) = U 0#32 := rfl
theorem U_one : (1 : Int) = U 1#32 := rfl

theorem and_one (n : Nat) : n &&& 1 = if n % 2 = 1 then 1 else 0 := by
  rw [show n &&& 1 = n % 2 from Nat.and_two_pow_sub_one_eq_mod n 1]; split <;> omega

theorem stp_nat (a : B32) : bits .xor .u32 (U a / 2) (bits .and .u32 (U a) 1 * 3988292384 % 4294967296) = U (stp a) := by
  have h1 : bits .and .u32 (U a) 1 = ((a.toNat &&& 1 : Nat) : Int) := u32_and_nat a.toNat 1 a.isLt (by decide)
  have h2 : U a / (2 : Int) = U (a >>> 1) := by
    unfold U; rw [BitVec.toNat_ushiftRight, Nat.shiftRight_eq_div_pow]; simp
  have h3 : bits .and .u32 (U a) 1 * 3988292384 % 4294967296 = U (if a.getLsbD 0 then poly else 0#32) := by
    rw [h1, and_one]
    have : a.getLsbD 0 = decide (a.toNat % 2 = 1) := by rw [BitVec.getLsbD, Nat.testBit_zero]
    rw [this]
    by_cases h : a.toNat % 2 = 1 <;> simp [h, U, poly]
  rw [h2, h3, U_xor]; rfl

theorem U_wd (c : UInt8) : ((c.toNat : Int) % 4294967296) = U (wd c) := by
  unfold U wd; rw [BitVec.toNat_ofNat]; have := c.toNat_lt; omega
theorem xor_wd (n : B32) (c : UInt8) : bits .xor .u32 (U n) ((c.toNat : Int) % 4294967296) = U (n ^^^ wd c) := by
  rw [U_wd, U_xor]
theorem take_snoc (s : ByteArray) (k : Nat) (h : k < s.size) : s.data.toList.take (k + 1) = s.data.toList.take k ++ [s[k]] := by
  rw [List.take_succ_eq_append_getElem (by simpa using h)]; rfl
theorem alo_take (n : B32) (s : ByteArray) (k : Nat) (h : k < s.size) : alo n (s.data.toList.take (k + 1)) = thr 1 (alo n (s.data.toList.take k) ^^^ wd s[k]) := by
  rw [take_snoc s k h, alo_snoc]

theorem bit_of (n : B32) (k : Nat) : bits .and .u32 (U n / 2 ^ k) 1 = if n.getLsbD k then 1 else 0 := by
  have e : U n / 2 ^ k = ((n.toNat / 2 ^ k : Nat) : Int) := by
    unfold U; simp
  have hb : n.getLsbD k = decide (n.toNat / 2 ^ k % 2 = 1) := by
    rw [BitVec.getLsbD, Nat.testBit_eq_decide_div_mod_eq]
  have hl : n.toNat / 2 ^ k < 4294967296 := Nat.lt_of_le_of_lt (Nat.div_le_self _ _) n.isLt
  have h1 : bits .and .u32 ((n.toNat / 2 ^ k : Nat) : Int) 1 = ((n.toNat / 2 ^ k &&& 1 : Nat) : Int) := u32_and_nat _ 1 hl (by decide)
  rw [e, h1, and_one, hb]
  by_cases h : n.toNat / 2 ^ k % 2 = 1 <;> simp [h]
theorem bit_mul (n b : B32) (k : Nat) : bits .and .u32 (U n / 2 ^ k) 1 * U b % 4294967296 = U (if n.getLsbD k then b else 0#32) := by
  rw [bit_of]
  have := U_lo b; have := U_hi b
  cases n.getLsbD k
  · simp [U]
  · simp; omega

theorem shl_one (k : Nat) (h : k < 32) : (2 : Int) ^ k % 4294967296 = U (1#32 <<< k) := by
  unfold U
  rw [BitVec.toNat_shiftLeft]
  have hp : 2 ^ k < 2 ^ 32 := Nat.pow_lt_pow_right (by omega) h
  have : (1#32).toNat <<< k = 2 ^ k := by simp [Nat.shiftLeft_eq]
  rw [this, Nat.mod_eq_of_lt hp]
  have e : ((2 : Int) ^ k) = ((2 ^ k : Nat) : Int) := by simp
  have hq : (2 ^ k : Nat) < 4294967296 := hp
  rw [e]; exact Int.emod_eq_of_lt (Int.natCast_nonneg _) (Int.ofNat_lt.2 hq)

theorem odd_i64 (k : Nat) (h : k < 2 ^ 63) : (bits .and .i64 (k : Int) 1 == 1) = decide (k % 2 = 1) := by
  have e : bits .and .i64 (k : Int) ((1 : Nat) : Int) = ((k % 2 : Nat) : Int) := by
    rw [(bits_nat .i64 63 (by decide) (fun n h0 h1 => by rw [IntKind.wrap_i64]; omega) k 1 h (by decide)).1, Nat.and_one_is_mod]
  have e' : bits .and .i64 (k : Int) 1 = ((k % 2 : Nat) : Int) := e
  rw [e']
  by_cases h : k % 2 = 1
  · simp [h]
  · have : k % 2 = 0 := by omega
    simp [this]

theorem U_half (a : B32) : U a / (2 : Int) = U (a >>> 1) := by
  unfold U; rw [BitVec.toNat_ushiftRight, Nat.shiftRight_eq_div_pow]; simp
theorem U_odd (a : B32) : (U a % (2 : Int) == 1) = a.getLsbD 0 := by
  rw [BitVec.getLsbD, Nat.testBit_zero]
  unfold U
  by_cases h : a.toNat % 2 = 1
  · have : (a.toNat : Int) % 2 = 1 := by omega
    simp [h, this]
  · have : (a.toNat : Int) % 2 = 0 := by omega
    simp [h, this]
theorem stp_odd (a : B32) (h : a.getLsbD 0 = true) : bits .xor .u32 (U a / (2 : Int)) 3988292384 = U (stp a) := by
  rw [U_half, show (3988292384 : Int) = U poly from rfl, U_xor]; unfold stp; rw [h]; rfl
theorem stp_even (a : B32) (h : a.getLsbD 0 = false) : U a / (2 : Int) = U (stp a) := by
  rw [U_half]; unfold stp; rw [h]; simp

/-- what stands behind a walk's last equation -/
theorem ret_u32 {a b : Int} (h : a = b) : Ending.returned (.int .u32 a) = .returned (.int .u32 b) := by rw [h]

/-- a linear map, as the 32 words that it makes of the single bits -/
def mtx (f : B32 → B32) : Array Value := (Array.range 32).map fun i => .int .u32 (U (f (1#32 <<< i)))
/-- of which the first k are laid -/
def mtxTo (f : B32 → B32) (k : Nat) : Array Value := (Array.range 32).map fun i => .int .u32 (if i < k then U (f (1#32 <<< i)) else 0)

theorem mtx_size (f : B32 → B32) : (mtx f).size = 32 := by simp [mtx]
theorem mtxTo_size (f : B32 → B32) (k : Nat) : (mtxTo f k).size = 32 := by simp [mtxTo]
theorem mtx_at (f : B32 → B32) (k : Nat) (h : k < 32) : (mtx f)[k]? = some (.int .u32 (U (f (1#32 <<< k)))) := by
  simp [mtx, h]
theorem mtx_at' (f : B32 → B32) (k : Nat) (h : k < 32) : (mtx f)[k]'(by rw [mtx_size]; exact h) = .int .u32 (U (f (1#32 <<< k))) := by
  simp [mtx]
theorem mtxTo_zero (f : B32 → B32) : mtxTo f 0 = Array.replicate 32 (.int .u32 0) := by
  apply Array.ext <;> simp [mtxTo]
theorem mtxTo_full (f : B32 → B32) : mtxTo f 32 = mtx f := by
  apply Array.ext
  · simp [mtx, mtxTo]
  · intro i h1 h2
    have : i < 32 := by simpa [mtxTo] using h1
    simp [mtx, mtxTo, this]
theorem mtxTo_set (f : B32 → B32) (k : Nat) : (mtxTo f k).setIfInBounds k (.int .u32 (U (f (1#32 <<< k)))) = mtxTo f (k + 1) := by
  apply Array.ext
  · simp [mtxTo]
  · intro i h1 h2
    have hi : i < 32 := by simpa [mtxTo] using h2
    rw [Array.getElem_setIfInBounds (by rw [mtxTo_size]; exact hi)]
    by_cases e : k = i
    · subst e; simp [mtxTo]
    · simp only [e, if_false]
      have e2 : (i < k + 1) ↔ i < k := by omega
      simp [mtxTo, e2]
theorem mtx_cells (f : B32 → B32) : (mtx f).all (·.oneCell') = true := by
  rw [Array.all_eq_true]; intro i h; simp [mtx, Value.oneCell']
theorem mtxTo_cells (f : B32 → B32) (k : Nat) : (mtxTo f k).all (·.oneCell') = true := by
  rw [Array.all_eq_true]; intro i h; simp [mtxTo, Value.oneCell']

end Go.Proofs.YtigaddpjmgncmaaDoor.Sm
