/- The document's answer for sums, as the reference package computes it: what each of its calls returns. -/
import Derived.Test.YtigaddpjmgncmaaDoorRows
import Derived.Test.YtigaddpjmgncmaaDoorSmWords
import Derived.WalkKit
import Derived.Lib.Hide
import Derived.LoopTactic
namespace Go.Proofs.YtigaddpjmgncmaaDoor.Sm
open Go.RowKit
open Go.Lib
set_option maxHeartbeats 400000 in
theorem on_aux (a b : B32) (c : UInt8) (w : World) (hx : bits .xor .u32 (U a) ((c.toNat : Int) % 4294967296) = U b) :
    Calls Tryd.prog 37 #[.int .u32 (U a), .int .u8 (c.toNat : Int)] w fun e w' => e = .returned (.int .u32 (U (thr 1 b))) ∧ w = w' := by
  go_enter Tryd.func37, Tryd.ntmps37
  go_wp2_with fail
  clear hx
  go_loop [0, 5, 6] (fun n i _ => ∃ k : Nat, k ≤ 8 ∧ i = .int .i64 k ∧ n = .int .u32 (U (stps k b))) (fun _ i _ => 8 - (intOf i).toNat)
  case atStart => exact ⟨0, by omega, rfl, rfl⟩
  case round =>
    obtain ⟨k, hk, rfl, rfl⟩ := hrel
    by_cases hlt : k < 8
    · have hq := U_odd (stps k b)
      have hlo := U_lo (stps k b)
      have hhi := U_hi (stps k b)
      generalize hv : U (stps k b) = v at *
      have HV := hid hv; clear hv
      cases hb : (stps k b).getLsbD 0
      · rw [hb] at hq
        have H := hid hb; clear hb
        go_wp2_with fail
        go_round
        case rel => exact ⟨k + 1, by omega, by go_num, by rw [← HV.out, stps_succ', stp_even _ H.out]⟩
        case measure => simp [intOf]; omega
      · rw [hb] at hq
        have H := hid hb; clear hb
        go_wp2_with fail
        go_round
        case rel => exact ⟨k + 1, by omega, by go_num, by rw [← HV.out, stps_succ', stp_odd _ H.out]⟩
        case measure => simp [intOf]; omega
    · obtain rfl : k = 8 := by omega
      go_wp2
      go_ret
      exact ⟨rfl, rfl⟩
theorem on_at (x y : Int) (a : B32) (c : UInt8) (w : World) (h : x = U a) (hc : y = (c.toNat : Int)) :
    Calls Tryd.prog 37 #[.int .u32 x, .int .u8 y] w fun e w' => e = .returned (.int .u32 (U (thr 1 (a ^^^ wd c)))) ∧ w = w' := by
  rw [h, hc]; exact on_aux a _ c w (xor_wd a c)

theorem thr_more (k : Nat) (a : B32) : thr 1 (thr k a ^^^ wd 0) = thr (k + 1) a := by
  rw [wd_zero, thr_succ k a]; simp

set_option maxHeartbeats 400000 in
theorem refSum_any (s : ByteArray) (w : World) (hs : s.size ≤ maxLen) :
    Calls Tryd.prog 28 #[.string s] w fun e w' => e = .returned (.int .u32 (U (sumB s.data.toList))) ∧ w = w' := by
  unfold maxLen at hs
  go_enter Tryd.func28, Tryd.ntmps28
  go_wp2_with fail
  go_loop [3, 4] (fun n i => ∃ k : Nat, k ≤ s.size ∧ i = .int .i64 k ∧ n = .int .u32 (U (alo full (s.data.toList.take k)))) (fun _ i => s.size - (intOf i).toNat)
  case atStart => exact ⟨0, by omega, rfl, rfl⟩
  case round =>
    obtain ⟨k, hk, rfl, rfl⟩ := hrel
    by_cases hlt : k < s.size
    · go_wp2_with (go_at_call 37; refine (on_at _ _ _ s[k] _ rfl rfl).mono ?_; rintro e w' ⟨rfl, rfl⟩)
      go_round
      case rel => exact ⟨k + 1, by omega, by go_num, by rw [alo_take full s k hlt]⟩
      case measure => simp [intOf]; omega
    · go_wp2
      go_ret
      exact ⟨ret_u32 (by rw [List.take_of_length_le (by simp; omega), U_full, U_xor]; rfl), rfl⟩

end Go.Proofs.YtigaddpjmgncmaaDoor.Sm
