/- The small calls of entry: which page may be staged; what a text's kind has. -/
import Derived.Test.YtigaddpjmgncmaaDoorFdBase
import Derived.Lib.Hide
import Derived.Deep.RegionHeld3
import Derived.StillTailTactics
namespace Go.Proofs.YtigaddpjmgncmaaDoor.En
open Go.RowKit
open Go.Lib (hid)
/-- may such a page be staged? -/
def mayS (k n : Int) (b : ByteArray) : Prop := (k = 0 → b.toList.isEmpty = true) ∧ 0 ≤ k ∧ k < 5 ∧ 0 ≤ n ∧ n ≤ 999 ∧ b.size ≤ 230
set_option maxHeartbeats 400000 in
theorem staged_yes (k n : Int) (b : ByteArray) (w : World) (h : mayS k n b) :
    Calls Tryd.prog 34 #[.agg #[.int .i64 k, .int .i64 n, .string b]] w fun e w' => e = .returned (.bool true) ∧ Below w.heap.size w w' := by
  unfold mayS at h
  obtain ⟨h1, h2, h3, h4, h5, h6⟩ := h
  have e5 : decide ((b.size : Int) ≤ 230) = true := by simp; omega
  by_cases h0 : k = 0
  · subst h0
    have e1 := h1 rfl
    clear h1
    go_enter Tryd.func34, Tryd.ntmps34
    go_wp2_with fail
    go_ret
    exact ⟨rfl, (Below.refl _ _).alloc (Nat.le_refl _) _⟩
  · have e0 : (k == 0) = false := by simpa using h0
    clear h0 h1
    go_enter Tryd.func34, Tryd.ntmps34
    go_wp2_with fail
    go_ret
    exact ⟨rfl, (Below.refl _ _).alloc (Nat.le_refl _) _⟩
set_option maxHeartbeats 1000000 in
theorem staged_no (k n : Int) (b : ByteArray) (w : World) (h : ¬ mayS k n b) :
    Calls Tryd.prog 34 #[.agg #[.int .i64 k, .int .i64 n, .string b]] w fun e w' => e = .returned (.bool false) ∧ Below w.heap.size w w' := by
  unfold mayS at h
  by_cases h0 : k = 0
  · subst h0
    by_cases h1 : b.toList.isEmpty = true
    · by_cases h4 : 0 ≤ n
      · by_cases h5 : n ≤ 999
        · exfalso; apply h
          have : b.size = 0 := by
            rw [ByteArray.toList_eq] at h1
            have h2 := List.isEmpty_iff.1 h1
            have h3 : b.data.toList.length = 0 := by rw [h2]; rfl
            simpa using h3
          exact ⟨fun _ => h1, by decide, by decide, h4, h5, by omega⟩
        · have e4 : decide (n ≤ 999) = false := by simp; omega
          clear h h5
          go_enter Tryd.func34, Tryd.ntmps34
          go_wp2_with fail
          go_ret
          exact ⟨rfl, (Below.refl _ _).alloc (Nat.le_refl _) _⟩
      · have e4 : decide (0 ≤ n) = false := by simp; omega
        clear h h4
        go_enter Tryd.func34, Tryd.ntmps34
        go_wp2_with fail
        go_ret
        exact ⟨rfl, (Below.refl _ _).alloc (Nat.le_refl _) _⟩
    · have e1 : b.toList.isEmpty = false := by simpa using h1
      clear h h1
      go_enter Tryd.func34, Tryd.ntmps34
      go_wp2_with fail
      go_ret
      exact ⟨rfl, (Below.refl _ _).alloc (Nat.le_refl _) _⟩
  · have e0 : (k == 0) = false := by simpa using h0
    by_cases h2 : 0 ≤ k
    · by_cases h3 : k < 5
      · by_cases h4 : 0 ≤ n
        · by_cases h5 : n ≤ 999
          · have e5 : decide ((b.size : Int) ≤ 230) = false := by
              simp only [decide_eq_false_iff_not]; intro h6; exact h ⟨fun h7 => absurd h7 h0, h2, h3, h4, h5, by omega⟩
            clear h h0
            go_enter Tryd.func34, Tryd.ntmps34
            go_wp2_with fail
            go_ret
            exact ⟨rfl, (Below.refl _ _).alloc (Nat.le_refl _) _⟩
          · have e4 : decide (n ≤ 999) = false := by simp; omega
            clear h h5 h0
            go_enter Tryd.func34, Tryd.ntmps34
            go_wp2_with fail
            go_ret
            exact ⟨rfl, (Below.refl _ _).alloc (Nat.le_refl _) _⟩
        · have e4 : decide (0 ≤ n) = false := by simp; omega
          clear h h4 h0
          go_enter Tryd.func34, Tryd.ntmps34
          go_wp2_with fail
          go_ret
          exact ⟨rfl, (Below.refl _ _).alloc (Nat.le_refl _) _⟩
      · have e4 : decide (k < 5) = false := by simp; omega
        clear h h3 h0
        go_enter Tryd.func34, Tryd.ntmps34
        go_wp2_with fail
        go_ret
        exact ⟨rfl, (Below.refl _ _).alloc (Nat.le_refl _) _⟩
    · have e4 : decide (0 ≤ k) = false := by simp; omega
      clear h h2 h0
      go_enter Tryd.func34, Tryd.ntmps34
      go_wp2_with fail
      go_ret
      exact ⟨rfl, (Below.refl _ _).alloc (Nat.le_refl _) _⟩
theorem staged_any (k n : Int) (b : ByteArray) (w : World) (r : Bool) (h : r = true ↔ mayS k n b) :
    Calls Tryd.prog 34 #[.agg #[.int .i64 k, .int .i64 n, .string b]] w fun e w' => e = .returned (.bool r) ∧ Below w.heap.size w w' := by
  cases r with
  | true => exact staged_yes k n b w (h.1 rfl)
  | false => exact staged_no k n b w (fun hm => by cases h.2 hm)
end Go.Proofs.YtigaddpjmgncmaaDoor.En
