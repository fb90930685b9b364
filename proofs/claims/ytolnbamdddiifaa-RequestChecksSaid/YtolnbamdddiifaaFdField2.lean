/- The calls of package field on an area, all cases: what each returns, and what the area holds behind it. -/
import Derived.Test.YtolnbamdddiifaaFdField
import Derived.Laws.BitsAllLaws
namespace Go.Proofs.Ytolnbamdddiifaa.Fd
open Go.RowKit
open Go.Lib

/-- an int's range -/
def isInt (x : Int) : Prop := -9223372036854775808 ≤ x ∧ x ≤ 9223372036854775807

theorem quo_ne {n : Int} {P : Int} (hP : 0 < P) (h : P ≤ n) : (n / P != 0) = true := by
  have : 1 ≤ n / P := (Int.le_ediv_iff_mul_le hP).2 (by omega)
  rw [bne_iff_ne]; omega

theorem or_byte (x : Nat) (b : UInt8) (h : x < 16777216) : bits .or .u32 (((x : Int) * 256) % 4294967296) ((b.toNat : Int) % 4294967296) = ((256 * x + b.toNat : Nat) : Int) := by
  have hb := b.toNat_lt
  have e1 : ((x : Int) * 256) % 4294967296 = ((256 * x : Nat) : Int) := by omega
  have e2 : ((b.toNat : Int)) % 4294967296 = ((b.toNat : Nat) : Int) := by omega
  rw [e1, e2, u32_or_nat _ _ (by omega) (by omega), nat_join 8 (256 * x) b.toNat (by omega) (by omega)]

theorem num_take (l : List UInt8) (o n k : Nat) (h : o + n ≤ l.length) (hk : k < n) :
    num ((getAt l o n).take (k + 1)) = 256 * num ((getAt l o n).take k) + (l[o + k]'(by omega)).toNat := by
  have hl := getAt_length l o n h
  have e := getAt_at l o n k
  rw [if_pos hk, List.getElem?_eq_getElem (by omega), List.getElem?_eq_getElem (by omega)] at e
  rw [List.take_succ_eq_append_getElem (by omega), num_snoc, Option.some.inj e]
theorem num_small (l : List UInt8) (k : Nat) (h : k ≤ 3) : num (l.take k) < 16777216 := by
  have h1 := num_lt (l.take k)
  have h2 : (l.take k).length ≤ 3 := by simp; omega
  exact Nat.lt_of_lt_of_le h1 (Nat.pow_le_pow_right (by decide) h2)

theorem size_list (s : ByteArray) : s.data.toList.length = s.size := by simp

end Go.Proofs.Ytolnbamdddiifaa.Fd
