/- Points in boxes, boxes that may be, on both sides. -/
import Derived.Test.YtjgjfcidfcfajaaKyCmp
namespace Go.Proofs.Ytjgjfcidfcfajaa.Ky
open Go.RowKit
open Go.Lib (hid)

theorem leAll_step (l m : List Nat) (k : Nat) (h : k < l.length) (h' : k < m.length) (hn : ¬ m[k] < l[k]) : leAll (l.drop (k + 1)) (m.drop (k + 1)) = leAll (l.drop k) (m.drop k) := by
  rw [leAll_drop l m k h h']
  have : decide (l[k] ≤ m[k]) = true := by simpa using hn
  rw [this, Bool.true_and]
/-- may a box be, of d coordinates? -/
def boxB (lo hi : List Nat) (d : Int) : Bool := checkB lo.length d && leAll lo hi
theorem inB_step {k lo hi : List Nat} (j : Nat) (h : j < k.length) (hl : j < lo.length) (hh : j < hi.length) (h1 : ¬ k[j] < lo[j]) (h2 : ¬ hi[j] < k[j]) :
    (leAll (lo.drop (j + 1)) (k.drop (j + 1)) && leAll (k.drop (j + 1)) (hi.drop (j + 1))) = (leAll (lo.drop j) (k.drop j) && leAll (k.drop j) (hi.drop j)) := by
  rw [leAll_step lo k j hl h h1, leAll_step k hi j h hh h2]
def sameBoxB (al ah bl bh : List Nat) : Bool := sameB al bl && sameB ah bh
end Go.Proofs.Ytjgjfcidfcfajaa.Ky
