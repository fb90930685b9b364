/- Compare of both sides. -/
import Derived.Test.YtjjplkfgihogkaaKyBase
namespace Go.Proofs.Ytjjplkfgihogkaa.Ky
open Go.RowKit
open Go.Lib (hid)

theorem cmp_step (l m : List Nat) (k : Nat) (h : k < l.length) (h' : k < m.length) (he : cmp1 l[k] m[k] = 0) : cmp (l.drop (k + 1)) (m.drop (k + 1)) = cmp (l.drop k) (m.drop k) := by
  rw [cmp_drop l m k h h']
  unfold cmp1 at he
  split at he
  · simp at he
  · split at he
    · simp at he
    · rw [if_neg (by assumption), if_neg (by assumption)]
theorem cmp_stop (l m : List Nat) (k : Nat) (h : k < l.length) (h' : k < m.length) (he : cmp1 l[k] m[k] ≠ 0) : cmp (l.drop k) (m.drop k) = cmp1 l[k] m[k] := by
  rw [cmp_drop l m k h h']
  unfold cmp1 at he ⊢
  split
  · rfl
  · split
    · rfl
    · simp_all
def sameB (l m : List Nat) : Bool := decide (l = m)
theorem same_cmp (l m : List Nat) : (cmp l m == 0) = sameB l m := by
  unfold sameB
  by_cases h : l = m
  · subst h; simp [cmp_self]
  · have : cmp l m ≠ 0 := fun e => h (cmp_zero e)
    simp [h, this]
end Go.Proofs.Ytjjplkfgihogkaa.Ky
