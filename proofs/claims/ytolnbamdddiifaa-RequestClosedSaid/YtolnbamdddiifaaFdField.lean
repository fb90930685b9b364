/- The calls of package field on an area: what each returns, and what the area holds behind it. -/
import Derived.Test.YtolnbamdddiifaaFdCut
namespace Go.Proofs.Ytolnbamdddiifaa.Fd
open Go.RowKit
open Go.Lib

theorem putAt_step (l t : List UInt8) (o k : Nat) (h : o + t.length ≤ l.length) (hk : k < t.length) :
    (putAt l o (t.take k)).set (o + k) t[k] = putAt l o (t.take (k + 1)) := by
  have h1 : o + (t.take k).length ≤ l.length := by simp; omega
  have h2 : o + (t.take (k + 1)).length ≤ l.length := by simp; omega
  apply List.ext_getElem?
  intro i
  rw [List.getElem?_set, putAt_at _ _ _ h1, putAt_at _ _ _ h2, putAt_length _ _ _ h1]
  simp only [List.length_take]
  rw [Nat.min_eq_left (by omega), Nat.min_eq_left (by omega)]
  by_cases e : o + k = i
  · subst e
    rw [if_pos rfl, if_pos (by omega), if_pos (by omega), Nat.add_sub_cancel_left, List.getElem?_take_of_lt (by omega), List.getElem?_eq_getElem hk]
  · rw [if_neg e]
    by_cases hi : o ≤ i ∧ i < o + k
    · rw [if_pos hi, if_pos (by omega), List.getElem?_take_of_lt (by omega), List.getElem?_take_of_lt (by omega)]
    · rw [if_neg hi, if_neg (by omega)]

theorem be_get (w n k : Nat) (h : k < (be w n).length) : (be w n)[k] = beB w n k := by
  have hk : k < w := by rw [be_length] at h; exact h
  have := be_at w n k hk
  rw [List.getElem?_eq_getElem h] at this
  exact Option.some.inj this

theorem upd_val {B i : Nat} {l : List UInt8} {w wr : World} {x y : Int} (h : Upd B l w (wr.setCell ⟨B, i, none⟩ (.int .u8 x))) (e : x = y) :
    Upd B l w (wr.setCell ⟨B, i, none⟩ (.int .u8 y)) := by rw [← e]; exact h

theorem beB_val (m n k : Nat) : (n : Int) / 2 ^ (8 * (m - 1 - k)) % 256 = ((beB m n k).toNat : Int) := by
  unfold beB
  rw [UInt8.toNat_ofNat']
  generalize m - 1 - k = j
  have e : (2 : Int) ^ (8 * j) = ((256 ^ j : Nat) : Int) := by
    rw [show (256 : Nat) = 2 ^ 8 from rfl, ← Nat.pow_mul]; simp
  rw [e]; simp

end Go.Proofs.Ytolnbamdddiifaa.Fd
