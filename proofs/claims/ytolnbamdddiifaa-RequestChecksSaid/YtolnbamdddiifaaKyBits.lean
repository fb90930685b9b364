/- Bits of both sides. -/
import Derived.Test.YtolnbamdddiifaaKyBase
import Derived.Lib.EndianBits
namespace Go.Proofs.Ytolnbamdddiifaa.Ky
open Go.RowKit
open Go.Lib (hid)

/-- the number, or 0 where there is none -/
def bitsV (k : List Nat) (n : Int) : Int := if bitsOk k.length n then (bitsK k n.toNat : Nat) else 0
theorem bits_no {k : List Nat} {n : Int} (h : bitsOk k.length n = false) : bitsV k n = 0 ∧ err (bitsOk k.length n) = 1 := by simp [bitsV, h, err]
theorem bits_yes {k : List Nat} {n : Nat} (h : bitsOk k.length n = true) : bitsV k n = (bitsK k n : Nat) ∧ err (bitsOk k.length n) = 0 := by simp [bitsV, h, err]
theorem bitsK_bound (k : List Nat) (i : Nat) (h : i < 30) : bitsK k i < 1073741824 := by
  have := bitsK_lt k i
  have h2 : 2 ^ i ≤ 2 ^ 30 := Nat.pow_le_pow_right (by omega) (by omega)
  have h3 : (2 : Nat) ^ 30 = 1073741824 := by decide
  omega
theorem bitK_at (k : List Nat) (i r t : Nat) (hr : i % k.length = r) (ht : i / k.length = t) (hk : r < k.length) : bitK k i = k[r] / 2 ^ (31 - t) % 2 := by
  unfold bitK; rw [hr, ht, List.getD_eq_getElem?_getD, List.getElem?_eq_getElem hk]; rfl
theorem bit_val (x u s : Nat) (hs : s < 1073741824) : wrap64 (2 * (s : Int) + wrap64 (((x : Int) / 2 ^ u).tmod 2)) = ((2 * s + x / 2 ^ u % 2 : Nat) : Int) := by
  have e : ((x : Int) / 2 ^ u) = ((x / 2 ^ u : Nat) : Int) := by simp
  rw [e]
  generalize x / 2 ^ u = z
  rw [Int.tmod_eq_emod_of_nonneg (by omega)]
  unfold wrap64
  omega
theorem bit_val2 (x u s : Nat) (hs : s < 1073741824) (hx : x < 4294967296) : bits .or .i64 (wrap64 ((s : Int) * 2)) (wrap64 (bits .and .u32 ((x : Int) / 2 ^ u) 1)) = ((2 * s + x / 2 ^ u % 2 : Nat) : Int) := by
  have e : ((x : Int) / 2 ^ u) = ((x / 2 ^ u : Nat) : Int) := by simp
  have hz : x / 2 ^ u < 4294967296 := Nat.lt_of_le_of_lt (Nat.div_le_self _ _) hx
  rw [e]
  generalize x / 2 ^ u = z at hz
  have h1 : bits .and .u32 (z : Int) 1 = ((z &&& 1 : Nat) : Int) := u32_and_nat z 1 hz (by decide)
  rw [h1, Nat.and_one_is_mod]
  have w1 : wrap64 ((s : Int) * 2) = ((2 * s : Nat) : Int) := by unfold wrap64; omega
  have w2 : wrap64 ((z % 2 : Nat) : Int) = ((z % 2 : Nat) : Int) := by unfold wrap64; omega
  rw [w1, w2]
  have := bits_join .i64 62 (by decide) (fun n h0 h1 => by rw [IntKind.wrap_i64]; omega) 1 ((2 * s : Nat) : Int) ((z % 2 : Nat) : Int) (by omega) (by omega) (by omega) (by omega) (by omega) (by omega)
  rw [this]
  omega
end Go.Proofs.Ytolnbamdddiifaa.Ky
