/- The document's own slab in memory; its Place. -/
import Derived.Test.YtnmhdlincgefeaaSlPlace
namespace Go.Proofs.Ytnmhdlincgefeaa.Sl
open Go.RowKit
open Go.Lib (hid)

/-- the document's slab at b -/
structure Rb (w : World) (b : Nat) (p q : Option Addr) (k m : Nat) (S C : List Int) : Prop where
  head : w.heap[b]? = some (.cells #[.slice p S.length k, .slice q C.length m] 63 (0, 0))
  sz : CellsAt w p (iv S)
  co : CellsAt w q (iv C)
section
variable {w w' : World} {b : Nat} {p q : Option Addr} {k m : Nat} {S C : List Int}
theorem Rb.lt (h : Rb w b p q k m S C) : b < w.heap.size := (Array.getElem?_eq_some_iff.1 h.head).1
theorem Rb.below (h : Rb w b p q k m S C) (hb : Below w.heap.size w w') : Rb w' b p q k m S C :=
  ⟨(hb.block b h.lt).trans h.head, h.sz.below hb, h.co.below hb⟩
theorem Rb.drewN (h : Rb w b p q k m S C) (n : Nat) : Rb (w.drewN n) b p q k m S C := h.below (below_drewN (Below.refl _ _) n)
theorem Rb.cell0 (h : Rb w b p q k m S C) : w.cell? ⟨b, 0, none⟩ = some (.slice p S.length k) := by
  rw [cell_of_row _ _ _ _ _ _ h.head]; rfl
theorem Rb.cell1 (h : Rb w b p q k m S C) : w.cell? ⟨b, 1, none⟩ = some (.slice q C.length m) := by
  rw [cell_of_row _ _ _ _ _ _ h.head]; rfl
end
/-- the first K numbers are numbers of a cell -/
def PreC (S : List Nat) (l : List Int) (K : Nat) : Prop := ∀ j, j < K → ∃ (h1 : j < l.length) (h2 : j < S.length), 0 ≤ l[j] ∧ l[j] < ((S[j] : Nat) : Int)
theorem pre_ok (S : List Nat) (l : List Int) (hl : l.length = S.length) (h : PreC S l l.length) : okC S (l.map Int.toNat) = true := by
  induction S generalizing l with
  | nil => cases l with
    | nil => rfl
    | cons x y => cases hl
  | cons s t ih => cases l with
    | nil => cases hl
    | cons x y =>
      simp only [List.map_cons, okC, Bool.and_eq_true, decide_eq_true_eq]
      obtain ⟨_, _, h0⟩ := h 0 (by simp)
      simp only [List.getElem_cons_zero] at h0
      refine ⟨by omega, ih y (by simpa using hl) fun j hj => ?_⟩
      obtain ⟨h1, h2, h3⟩ := h (j + 1) (by simpa using hj)
      exact ⟨by simpa using h1, by simpa using h2, by simpa using h3⟩
theorem pre_take (S : List Nat) (l : List Int) (K : Nat) (hK : K ≤ l.length) (hl : l.length = S.length) (h : PreC S l K) : okC (S.take K) ((l.map Int.toNat).take K) = true := by
  rw [← List.map_take]
  refine pre_ok _ _ (by simp [hl]) fun j hj => ?_
  rw [List.length_take] at hj
  obtain ⟨h1, h2, h3⟩ := h j (by omega)
  exact ⟨by rw [List.length_take]; omega, by rw [List.length_take]; omega, by simpa using h3⟩
theorem pre_cell (S : List Nat) (l : List Int) (hS : S ≠ []) (hl : l.length = S.length) (h : PreC S l l.length) : cellB (zs S) l = true := by
  unfold cellB
  simp only [Bool.and_eq_true, decide_eq_true_eq, zs_len, List.all_eq_true, List.mem_range]
  refine ⟨⟨hl, by simpa using hS⟩, fun j hj => ?_⟩
  obtain ⟨h1, h2, h3, h4⟩ := h j hj
  unfold hasB
  simp only [Bool.and_eq_true, decide_eq_true_eq, zs_len, Int.toNat_natCast]
  rw [zs_at S j h2, List.getD_eq_getElem?_getD, List.getElem?_eq_getElem h1]
  exact ⟨⟨⟨by omega, by omega⟩, h3⟩, h4⟩
theorem cell_not (S : List Nat) (l : List Int) (j : Nat) (h1 : j < l.length) (h2 : j < S.length) (h : ¬ (0 ≤ l[j] ∧ l[j] < ((S[j] : Nat) : Int))) : cellB (zs S) l = false := by
  rw [Bool.eq_false_iff]
  intro hc
  apply h
  unfold cellB at hc
  simp only [Bool.and_eq_true, List.all_eq_true, List.mem_range] at hc
  have := hc.2 j h1
  unfold hasB at this
  simp only [Bool.and_eq_true, decide_eq_true_eq] at this
  rw [Int.toNat_natCast, zs_at S j h2, List.getD_eq_getElem?_getD, List.getElem?_eq_getElem h1] at this
  exact ⟨this.1.2, this.2⟩
theorem place_more2 (S c : List Nat) (k : Nat) (hk : k < S.length) (hc : k < c.length) : placeL (S.take (k + 1)) (c.take (k + 1)) = placeL (S.take k) (c.take k) * S[k] + c[k] := by
  rw [List.take_succ_eq_append_getElem hk, List.take_succ_eq_append_getElem hc, placeL_append (S.take k) [S[k]] (c.take k) [c[k]] (by rw [List.length_take, List.length_take]; omega) rfl]
  simp [prodL, placeL, placeA]
theorem place_le2 (S c : List Nat) (k : Nat) (h : okC (S.take k) (c.take k) = true) (hs : ∀ s ∈ S, 0 < s) : placeL (S.take k) (c.take k) < prodL S :=
  Nat.lt_of_lt_of_le (placeL_lt _ _ h) (prodL_take S k hs)
theorem PreC.more {S : List Nat} {l : List Int} {K : Nat} (h : PreC S l K) (h1 : K < l.length) (h2 : K < S.length) (h3 : 0 ≤ l[K]) (h4 : l[K] < ((S[K] : Nat) : Int)) : PreC S l (K + 1) := fun j hj => by
  rcases Nat.lt_or_ge j K with e | e
  · exact h j e
  · obtain rfl : j = K := by omega
    exact ⟨h1, h2, h3, h4⟩
end Go.Proofs.Ytnmhdlincgefeaa.Sl
