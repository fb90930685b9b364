/- The walk of Sum32Joins. -/
import Derived.Test.YtmgagghlkopfcaaLaws
namespace Go.Proofs.Ytmgagghlkopfcaa
open Go.RowKit
open Go.Lib
set_option maxHeartbeats 400000 in
theorem Sum32Joins_walk (s t u : ByteArray) (w0 : s.size ≤ maxLen) (w1 : t.size ≤ maxLen) (w2 : u.size ≤ maxLen) (w : World) :
    Calls Try.prog 4 #[.string s, .string t, .string u] w fun e w' => e = .returned (.bool true) ∧ Below w.heap.size w w' := by
  have hs := w0
  have ht := w1
  have hu := w2
  unfold maxLen at hs ht hu
  have HB : Hid (Below w.heap.size w w) := hid (Below.refl _ _)
  by_cases h : 2000 < s.size ∨ 2000 < t.size ∨ 2000 < u.size
  · go_enter Try.func4, Try.ntmps4
    go_wp2_with (go_at_call 9; refine (live_any _).mono ?_; rintro e w' ⟨rfl, hb⟩; replace HB := on_below HB hb; clear hb)
    all_goals (go_ret; first | exact ⟨rfl, HB.out⟩ | (exfalso; omega))
  · have ls : s.data.toList.length = s.size := by simp
    have lt : t.data.toList.length = t.size := by simp
    have lu : u.data.toList.length = u.size := by simp
    have e1 : joinB (sumB s.data.toList) (sumB t.data.toList) t.size = sumB (s.data.toList ++ t.data.toList) := by rw [← lt, join_sum]
    have e2 : joinB (joinB (sumB s.data.toList) (sumB t.data.toList) t.size) (sumB u.data.toList) u.size = sumB (s.data.toList ++ (t.data.toList ++ u.data.toList)) := by
      rw [e1, ← lu, join_sum, List.append_assoc]
    have t1 := beq_U e1
    have t2 := beq_U e2
    have t3 := beq_U ((join_assoc _ _ _ _ _).trans e2)
    clear e1 e2 ls lt lu
    go_enter Try.func4, Try.ntmps4
    go_wp2_with (first
      | (go_at_call 9; refine (live_any _).mono ?_; rintro e w' ⟨rfl, hb⟩; replace HB := on_below HB hb; clear hb)
      | (go_at_call 11; refine (sum_any _ _ (by first | exact w0 | exact w1 | exact w2 | (simp only [ByteArray.size_append]; unfold maxLen; omega))).mono ?_; rintro e w' ⟨rfl, rfl⟩)
      | (go_at_call 14; refine (join_any _ _ _ _ (by omega)).mono ?_; rintro e w' ⟨rfl, hb⟩; replace HB := on_below HB hb; clear hb))
    go_ret
    exact ⟨rfl, HB.out⟩
end Go.Proofs.Ytmgagghlkopfcaa
