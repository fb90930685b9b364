/- 'short' of the atlas law. -/
import Derived.Test.YtmniaaledplhfaaAtScript
namespace Go.Proofs.Ytmniaaledplhfaa.At
open Go.RowKit
open Go.Lib (hid)
open Go.Proofs.Ytmniaaledplhfaa.Ky Go.Proofs.Ytmniaaledplhfaa.Bk Go.Proofs.Ytmniaaledplhfaa.Pt

def shortB (k lo hi : List Nat) (t : ByteArray) : Bool := decide (k.length ≤ 20) && decide (t.size ≤ 100) && decide (lo.length ≤ 20) && decide (hi.length ≤ 20)
theorem dec20 {n : Nat} (b : Bool) (h : decide (n ≤ 20) = b) : decide ((n : Int) ≤ 20) = b := by
  rw [← h]
  by_cases h2 : n ≤ 20
  · rw [decide_eq_true h2, decide_eq_true (by omega)]
  · rw [decide_eq_false h2, decide_eq_false (by omega)]
theorem dec100 {n : Nat} (b : Bool) (h : decide (n ≤ 100) = b) : decide ((n : Int) ≤ 100) = b := by
  rw [← h]
  by_cases h2 : n ≤ 100
  · rw [decide_eq_true h2, decide_eq_true (by omega)]
  · rw [decide_eq_false h2, decide_eq_false (by omega)]
set_option maxHeartbeats 1000000 in
theorem short_ok (a : Int) (p : Option Addr) (k : List Nat) (c : Nat) (t : ByteArray) (q : Option Addr) (lo : List Nat) (c2 : Nat) (r : Option Addr) (hi : List Nat) (c3 : Nat) (w : World) :
    Calls Try.prog 6 #[.agg #[.int .i64 a, .slice p k.length c, .string t, .slice q lo.length c2, .slice r hi.length c3]] w fun e w' => e = .returned (.bool (shortB k lo hi t)) ∧ Below w.heap.size w w' := by
  obtain ⟨V, hV⟩ : ∃ V, w.alloc (.cells #[.int .i64 a, .slice p k.length c, .string t, .slice q lo.length c2, .slice r hi.length c3] 37 (0, 0)) = V := ⟨_, rfl⟩
  have HB := hid (show Below w.heap.size w V by rw [← hV]; exact below_alloc w _)
  have hA : V.heap[w.heap.size]? = some (.cells #[.int .i64 a, .slice p k.length c, .string t, .slice q lo.length c2, .slice r hi.length c3] 37 (0, 0)) := by rw [← hV]; exact heap_alloc_new w _
  have a1 : V.cell? ⟨w.heap.size, 1, none⟩ = some (.slice p k.length c) := by rw [cell_of_row _ _ _ _ _ _ hA]; rfl
  have a2 : V.cell? ⟨w.heap.size, 2, none⟩ = some (.string t) := by rw [cell_of_row _ _ _ _ _ _ hA]; rfl
  have a3 : V.cell? ⟨w.heap.size, 3, none⟩ = some (.slice q lo.length c2) := by rw [cell_of_row _ _ _ _ _ _ hA]; rfl
  have a4 : V.cell? ⟨w.heap.size, 4, none⟩ = some (.slice r hi.length c3) := by rw [cell_of_row _ _ _ _ _ _ hA]; rfl
  clear hA
  obtain ⟨b1, h1⟩ : ∃ b, decide (k.length ≤ 20) = b := ⟨_, rfl⟩
  obtain ⟨b2, h2⟩ : ∃ b, decide (t.size ≤ 100) = b := ⟨_, rfl⟩
  obtain ⟨b3, h3⟩ : ∃ b, decide (lo.length ≤ 20) = b := ⟨_, rfl⟩
  obtain ⟨b4, h4⟩ : ∃ b, decide (hi.length ≤ 20) = b := ⟨_, rfl⟩
  have HS := hid (show shortB k lo hi t = (b1 && b2 && b3 && b4) by unfold shortB; rw [h1, h2, h3, h4])
  have i1 := dec20 b1 h1
  have i2 := dec100 b2 h2
  have i3 := dec20 b3 h3
  have i4 := dec20 b4 h4
  rw [HS.out]
  generalize k.length = n1 at *
  generalize lo.length = n3 at *
  generalize hi.length = n4 at *
  clear HS
  go_enter Try.func6, Try.ntmps6
  cases b1 <;> cases b2 <;> cases b3 <;> cases b4 <;>
    (go_wp2_with fail
     go_ret
     exact ⟨rfl, HB.out⟩)
end Go.Proofs.Ytmniaaledplhfaa.At
