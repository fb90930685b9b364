/- Is of the reference: is a list a bucket? -/
import Derived.Test.YtolnbamdddiifaaBkList
namespace Go.Proofs.Ytolnbamdddiifaa.Bk
open Go.RowKit
open Go.Lib (hid)
open Go.Proofs.Ytolnbamdddiifaa.Ky

instance decUp (L : List Rec) : Decidable (upL L) := by unfold upL; infer_instance
def isBb (L : List Rec) (d : Int) : Bool := mayAll L d && decide (upL L)
theorem isBb_iff {L : List Rec} {d : Int} : isBb L d = true ↔ isB L d := by
  unfold isBb isB mayAll
  simp
theorem upL_no {L : List Rec} {k : Nat} (h : k + 1 < L.length) (hc : ¬ cmp L[k].1 L[k + 1].1 < 0) : ¬ upL L := fun hu => hc (List.pairwise_iff_getElem.1 hu k (k + 1) (by omega) h (by omega))
theorem wrap_nat (j : Nat) (h : j < 1000000000) : IntKind.i64.wrap (j : Int) = (j : Int) := by simp [IntKind.wrap, IntKind.signed, IntKind.bits]; omega
end Go.Proofs.Ytolnbamdddiifaa.Bk
