/- The crash of disk: which of the writes that wait come to their pages. -/
import Derived.Test.YtjjplkfgihogkaaDkNew
namespace Go.Proofs.Ytjjplkfgihogkaa.Dk
open Go.RowKit
open Go.Lib (hid)

/-- a text with no bytes -/
def emptyB : ByteArray := ⟨#[]⟩
/-- the texts with which the writes come so far -/
structure Outs (w : World) (A g : Nat) (outs : List ByteArray) : Prop where
  slot : w.heap[A]? = some (.cells #[.slice (some ⟨g, 0, none⟩) outs.length outs.length] 40 (0, 0))
  row : w.heap[g]? = some (.cells (sv outs).toArray 9 (0, 0))
theorem Outs.below {w w' : World} {A g : Nat} {outs : List ByteArray} (h : Outs w A g outs) (hb : Below w.heap.size w w') : Outs w' A g outs :=
  ⟨by rw [hb.block _ (Array.getElem?_eq_some_iff.1 h.slot).1]; exact h.slot, by rw [hb.block _ (Array.getElem?_eq_some_iff.1 h.row).1]; exact h.row⟩
theorem Outs.drew {w : World} {A g : Nat} {outs : List ByteArray} (h : Outs w A g outs) : Outs w.drew A g outs := ⟨h.slot, h.row⟩
theorem Outs.ptr {w : World} {A g : Nat} {outs : List ByteArray} (h : Outs w A g outs) : w.cell? ⟨A, 0, none⟩ = some (.slice (some ⟨g, 0, none⟩) outs.length outs.length) := by
  rw [cell_of_row _ _ _ _ _ _ h.slot]; rfl
theorem Outs.cell {w : World} {A g : Nat} {outs : List ByteArray} (h : Outs w A g outs) (i : Nat) (hi : i < outs.length) : w.cell? ⟨g, i, none⟩ = some (.string outs[i]) := by
  rw [cell_of_row _ _ _ _ _ _ h.row]
  simp [sv, hi]
theorem Outs.free {w : World} {A g : Nat} {outs : List ByteArray} (h : Outs w A g outs) (i : Nat) : w.frozen? ⟨g, i, none⟩ = false := frozen_of_row _ _ _ _ _ h.row

/-- a write that may come and does not yet -/
def freeB (outs : List ByteArray) (i : Int) : Bool := decide (0 ≤ i) && (decide (i < outs.length) && (outs.getD i.toNat emptyB).toList.isEmpty)

set_option maxHeartbeats 400000 in
theorem free_ok (A g : Nat) (outs : List ByteArray) (i : Int) (w : World) (h : Outs w A g outs) :
    Calls Try.prog 43 #[.int .i64 i, .pointer (some ⟨A, 0, none⟩)] w fun e w' => e = .returned (.bool (freeB outs i)) ∧ w = w' := by
  have c := h.ptr
  have HH := hid h; clear h
  unfold freeB
  by_cases h0 : 0 ≤ i
  · obtain ⟨k, rfl⟩ := Int.eq_ofNat_of_zero_le h0
    by_cases h1 : k < outs.length
    · have e1 : decide ((k : Int) < (outs.length : Int)) = true := by simpa using h1
      have e0 : decide (0 ≤ (k : Int)) = true := by simp
      have ck := HH.out.cell k h1
      have eg : outs.getD (k : Int).toNat emptyB = outs[k] := by simp [List.getD, h1]
      rw [e0, e1, eg]
      generalize outs[k] = t at ck ⊢
      clear eg e0
      cases e2 : t.toList.isEmpty
      all_goals
        go_enter Try.func43, Try.ntmps43
        go_wp2_with fail
        go_ret
        exact ⟨by simp, rfl⟩
    · have e1 : decide ((k : Int) < (outs.length : Int)) = false := by simpa using h1
      rw [e1]
      have h2 : (outs.length : Int) ≤ (k : Int) := by omega
      go_enter Try.func43, Try.ntmps43
      go_wp2_with fail
      go_ret
      exact ⟨by simp, rfl⟩
  · have e0 : decide (0 ≤ i) = false := by simpa using h0
    rw [e0]
    have h1 : i < 0 := by omega
    clear h0
    go_enter Try.func43, Try.ntmps43
    go_wp2_with fail
    go_ret
    exact ⟨by simp, rfl⟩
end Go.Proofs.Ytjjplkfgihogkaa.Dk
