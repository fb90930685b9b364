/- Search of sort, Find of both sides. -/
import Derived.Test.YtolnbamdddiifaaBkList
namespace Go.Proofs.Ytolnbamdddiifaa.Bk
open Go.RowKit
open Go.Lib (hid)
open Go.Proofs.Ytolnbamdddiifaa.Ky

theorem ret_two {a a' : Nat} {b b' : Bool} (h1 : a = a') (h2 : b' = b) : Ending.returned (.tuple #[.int .i64 (a : Int), .bool b]) = .returned (.tuple #[.int .i64 (a' : Int), .bool b']) := by rw [h1, h2]
theorem less_of {L : List Rec} {k : List Nat} {r : Nat} (hr : r ≤ L.length) (h1 : ∀ t, (h : t < L.length) → t < r → cmp L[t].1 k < 0) (h2 : ∀ t, (h : t < L.length) → r ≤ t → ¬ cmp L[t].1 k < 0) : r = lessN L k :=
  (lessN_at r hr (fun i h hi => h1 i h hi) (fun h => h2 r h (Nat.le_refl _))).symm
theorem has_at {L : List Rec} {k : List Nat} (h : lessN L k < L.length) : hasN L k = (cmp L[lessN L k].1 k == 0) := by
  unfold hasN; rw [List.getElem?_eq_getElem h]
theorem has_none {L : List Rec} {k : List Nat} (h : ¬ lessN L k < L.length) : hasN L k = false := by
  unfold hasN; rw [List.getElem?_eq_none (by omega)]
end Go.Proofs.Ytolnbamdddiifaa.Bk
