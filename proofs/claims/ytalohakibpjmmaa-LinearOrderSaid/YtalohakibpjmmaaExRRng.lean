/- The reference's Range of layer 16. -/
import Derived.Test.YtalohakibpjmmaaExRBox
import Derived.Test.YtalohakibpjmmaaExRng
import Derived.Test.YtalohakibpjmmaaKyRMeet
namespace Go.Proofs.Ytalohakibpjmmaa.Ex
open Go.RowKit
open Go.Lib (hid)
open Go.Proofs.Ytalohakibpjmmaa.Ky
open Go.Proofs.Ytalohakibpjmmaa.Pt
open Go.Proofs.Ytalohakibpjmmaa.Bk

theorem own_stepE {w w' : World} {B n : Nat} {v : Value} {xs : List Value} (h : w.ownsRow B 3 1 v n xs) (hb : Below w.heap.size w w') : w'.ownsRow B 3 1 v n xs := by
  refine ⟨h.1, ?_⟩
  rcases h.2 with h0 | ⟨g, cap, cur, hv, hg, hh, rest⟩
  · exact .inl h0
  · exact .inr ⟨g, cap, cur, hv, hg, by rw [hb.block g (Array.getElem?_eq_some_iff.1 hh).1]; exact hh, rest⟩
theorem own_cellsE {w : World} {B : Nat} {v : Value} {xs : List Nat} (h : w.ownsRow B 3 1 v xs.length (ki xs)) : ∃ p c, v = .slice p xs.length c ∧ CellsAt w p (ki xs) := by
  rcases h.2 with ⟨rfl, h0⟩ | ⟨g, cap, cur, rfl, hb, hh, hn, hm, hs, ht⟩
  · have : xs = [] := List.eq_nil_of_length_eq_zero h0
    subst this
    exact ⟨none, 0, rfl, fun j hj => absurd hj (by simp [ki])⟩
  · refine ⟨_, _, rfl, fun j hj => ⟨g, 0, rfl, ?_⟩⟩
    rw [cell_of_row _ _ _ _ _ _ hh, Nat.zero_add]
    obtain ⟨x, hx⟩ : ∃ x, (ki xs)[j] = x := ⟨_, rfl⟩
    have h1 : (ki xs)[j]? = some x := by rw [List.getElem?_eq_getElem hj, hx]
    rw [hx]
    rw [← ht, List.getElem?_take] at h1
    split at h1
    · simpa using h1
    · simp at h1
/-- the addresses so far -/
def soFar (n D : Nat) (bl bh : List Nat) (i : Nat) : List Nat := (List.range i).filter (met n D bl bh)
theorem soFar_yes {n D : Nat} {bl bh : List Nat} {i : Nat} (h : met n D bl bh i = true) : soFar n D bl bh (i + 1) = soFar n D bl bh i ++ [i] := by
  unfold soFar; rw [List.range_succ, List.filter_append]; simp [h]
theorem soFar_no {n D : Nat} {bl bh : List Nat} {i : Nat} (h : met n D bl bh i = false) : soFar n D bl bh (i + 1) = soFar n D bl bh i := by
  unfold soFar; rw [List.range_succ, List.filter_append]; simp [h]
theorem soFar_len (n D : Nat) (bl bh : List Nat) (i : Nat) : (soFar n D bl bh i).length ≤ i := Nat.le_trans (List.length_filter_le _ _) (by simp)
def RGR (n D P : Nat) (bl bh : List Nat) (W : World) (B : Nat) (s8 s9 : Value) (wr : World) : Prop :=
  ∃ (i : Nat), s9 = .int .i64 (i : Int) ∧ i ≤ P ∧ wr.ownsRow B 3 1 s8 (soFar n D bl bh i).length (ki (soFar n D bl bh i)) ∧ Below B W wr
end Go.Proofs.Ytalohakibpjmmaa.Ex
