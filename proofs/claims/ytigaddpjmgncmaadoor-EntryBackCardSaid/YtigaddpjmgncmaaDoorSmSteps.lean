/- The calls of sum32 and of the document's answer that take steps: what each returns, whatever it is called with. -/
import Derived.Test.YtigaddpjmgncmaaDoorRows
import Derived.Test.YtigaddpjmgncmaaDoorSmWords
import Derived.WalkKit
import Derived.Lib.Hide
import Derived.LoopTactic
namespace Go.Proofs.YtigaddpjmgncmaaDoor.Sm
open Go.RowKit
open Go.Lib
set_option maxHeartbeats 400000 in
theorem step_any (a : B32) (w : World) :
    Calls Tryd.prog 44 #[.int .u32 (U a)] w fun e w' => e = .returned (.int .u32 (U (stp a))) ∧ w = w' := by
  go_enter Tryd.func44, Tryd.ntmps44
  go_wp2
  go_ret
  exact ⟨ret_u32 (stp_nat a), rfl⟩

set_option maxHeartbeats 400000 in
theorem eight_any (a : B32) (w : World) :
    Calls Tryd.prog 43 #[.int .u32 (U a)] w fun e w' => e = .returned (.int .u32 (U (thr 1 a))) ∧ w = w' := by
  go_enter Tryd.func43, Tryd.ntmps43
  go_wp2_with fail
  go_loop [0, 3] (fun n i => ∃ k : Nat, k ≤ 8 ∧ i = .int .i64 k ∧ n = .int .u32 (U (stps k a))) (fun _ i => 8 - (intOf i).toNat)
  case atStart => exact ⟨0, by omega, rfl, rfl⟩
  case round =>
    obtain ⟨k, hk, rfl, rfl⟩ := hrel
    by_cases hlt : k < 8
    · go_wp2_with (go_at_call 44; refine (step_any _ _).mono ?_; rintro e w' ⟨rfl, rfl⟩)
      go_round
      case rel => exact ⟨k + 1, by omega, by go_num, by rw [stps_succ']⟩
      case measure => simp [intOf]; omega
    · obtain rfl : k = 8 := by omega
      go_wp2
      go_ret
      exact ⟨rfl, rfl⟩

theorem eight_at (x : Int) (a : B32) (w : World) (h : x = U a) :
    Calls Tryd.prog 43 #[.int .u32 x] w fun e w' => e = .returned (.int .u32 (U (thr 1 a))) ∧ w = w' := by
  rw [h]; exact eight_any a w

set_option maxHeartbeats 400000 in
theorem along_any (a : B32) (s : ByteArray) (w : World) (hs : s.size ≤ maxLen) :
    Calls Tryd.prog 36 #[.int .u32 (U a), .string s] w fun e w' => e = .returned (.int .u32 (U (alo a s.data.toList))) ∧ w = w' := by
  unfold maxLen at hs
  go_enter Tryd.func36, Tryd.ntmps36
  go_wp2
  go_loop [0, 8] (fun n i => ∃ k : Nat, k ≤ s.size ∧ i = .int .i64 k ∧ n = .int .u32 (U (alo a (s.data.toList.take k)))) (fun _ i => s.size - (intOf i).toNat)
  case atStart => exact ⟨0, Nat.zero_le _, rfl, rfl⟩
  case round =>
    obtain ⟨k, hk, rfl, rfl⟩ := hrel
    by_cases hlt : k < s.size
    · go_wp2_with (go_at_call 43; refine (eight_at _ _ _ (xor_wd _ _)).mono ?_; rintro e w' ⟨rfl, rfl⟩)
      go_round
      case rel => exact ⟨k + 1, by omega, by go_num, by rw [alo_take a s k hlt]⟩
      case measure => simp [intOf]; omega
    · go_wp2
      go_ret
      exact ⟨ret_u32 (by rw [List.take_of_length_le (by simp; omega)]), rfl⟩

theorem along_at (x : Int) (a : B32) (s : ByteArray) (w : World) (hs : s.size ≤ maxLen) (h : x = U a) :
    Calls Tryd.prog 36 #[.int .u32 x, .string s] w fun e w' => e = .returned (.int .u32 (U (alo a s.data.toList))) ∧ w = w' := by
  rw [h]; exact along_any a s w hs

set_option maxHeartbeats 400000 in
theorem sum_any (s : ByteArray) (w : World) (hs : s.size ≤ maxLen) :
    Calls Tryd.prog 26 #[.string s] w fun e w' => e = .returned (.int .u32 (U (sumB s.data.toList))) ∧ w = w' := by
  go_enter Tryd.func26, Tryd.ntmps26
  go_wp2_with (go_at_call 36; refine (along_at _ full s _ hs U_full).mono ?_; rintro e w' ⟨rfl, rfl⟩)
  go_ret
  exact ⟨ret_u32 (by rw [U_full, U_xor]; rfl), rfl⟩

end Go.Proofs.YtigaddpjmgncmaaDoor.Sm
