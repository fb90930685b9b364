/- The document's answer for sums, as the reference package computes it: what each of its calls returns. -/
import Derived.Test.YtmgagghlkopfcaaRows
import Derived.Test.YtmgagghlkopfcaaWords
import Derived.WalkKit
import Derived.Lib.Hide
import Derived.LoopTactic
namespace Go.Proofs.Ytmgagghlkopfcaa
open Go.RowKit
open Go.Lib
set_option maxHeartbeats 400000 in
theorem on_aux (a b : B32) (c : UInt8) (w : World) (hx : bits .xor .u32 (U a) ((c.toNat : Int) % 4294967296) = U b) :
    Calls Try.prog 18 #[.int .u32 (U a), .int .u8 (c.toNat : Int)] w fun e w' => e = .returned (.int .u32 (U (thr 1 b))) ∧ w = w' := by
  go_enter Try.func18, Try.ntmps18
  go_wp2_with fail
  clear hx
  go_loop [0, 5, 6] (fun n i _ => ∃ k : Nat, k ≤ 8 ∧ i = .int .i64 k ∧ n = .int .u32 (U (stps k b))) (fun _ i _ => 8 - (intOf i).toNat)
  case atStart => exact ⟨0, by omega, rfl, rfl⟩
  case round =>
    obtain ⟨k, hk, rfl, rfl⟩ := hrel
    by_cases hlt : k < 8
    · have hq := U_odd (stps k b)
      have hlo := U_lo (stps k b)
      have hhi := U_hi (stps k b)
      generalize hv : U (stps k b) = v at *
      have HV := hid hv; clear hv
      cases hb : (stps k b).getLsbD 0
      · rw [hb] at hq
        have H := hid hb; clear hb
        go_wp2_with fail
        go_round
        case rel => exact ⟨k + 1, by omega, by go_num, by rw [← HV.out, stps_succ', stp_even _ H.out]⟩
        case measure => simp [intOf]; omega
      · rw [hb] at hq
        have H := hid hb; clear hb
        go_wp2_with fail
        go_round
        case rel => exact ⟨k + 1, by omega, by go_num, by rw [← HV.out, stps_succ', stp_odd _ H.out]⟩
        case measure => simp [intOf]; omega
    · obtain rfl : k = 8 := by omega
      go_wp2
      go_ret
      exact ⟨rfl, rfl⟩
theorem on_at (x y : Int) (a : B32) (c : UInt8) (w : World) (h : x = U a) (hc : y = (c.toNat : Int)) :
    Calls Try.prog 18 #[.int .u32 x, .int .u8 y] w fun e w' => e = .returned (.int .u32 (U (thr 1 (a ^^^ wd c)))) ∧ w = w' := by
  rw [h, hc]; exact on_aux a _ c w (xor_wd a c)

theorem thr_more (k : Nat) (a : B32) : thr 1 (thr k a ^^^ wd 0) = thr (k + 1) a := by
  rw [wd_zero, thr_succ k a]; simp

set_option maxHeartbeats 400000 in
theorem through_any (a : B32) (n : Int) (w : World) (h0 : n ≤ 9223372036854775807) :
    Calls Try.prog 21 #[.int .u32 (U a), .int .i64 n] w fun e w' => e = .returned (.int .u32 (U (thr n.toNat a))) ∧ w = w' := by
  go_enter Try.func21, Try.ntmps21
  go_wp2_with fail
  go_loop [0, 5] (fun x i => ∃ k : Nat, (k : Int) ≤ max n 0 ∧ i = .int .i64 k ∧ x = .int .u32 (U (thr k a))) (fun _ i => n.toNat - (intOf i).toNat)
  case atStart => exact ⟨0, by omega, rfl, rfl⟩
  case round =>
    obtain ⟨k, hk, rfl, rfl⟩ := hrel
    by_cases hlt : (k : Int) < n
    · go_wp2_with (go_at_call 18; refine (on_at _ _ _ 0 _ rfl rfl).mono ?_; rintro e w' ⟨rfl, rfl⟩)
      go_round
      case rel => exact ⟨k + 1, by omega, by go_num, by rw [thr_more]⟩
      case measure => simp [intOf]; omega
    · go_wp2
      go_ret
      exact ⟨ret_u32 (by rw [show n.toNat = k by omega]), rfl⟩

set_option maxHeartbeats 400000 in
theorem refSum_any (s : ByteArray) (w : World) (hs : s.size ≤ maxLen) :
    Calls Try.prog 10 #[.string s] w fun e w' => e = .returned (.int .u32 (U (sumB s.data.toList))) ∧ w = w' := by
  unfold maxLen at hs
  go_enter Try.func10, Try.ntmps10
  go_wp2_with fail
  go_loop [3, 4] (fun n i => ∃ k : Nat, k ≤ s.size ∧ i = .int .i64 k ∧ n = .int .u32 (U (alo full (s.data.toList.take k)))) (fun _ i => s.size - (intOf i).toNat)
  case atStart => exact ⟨0, by omega, rfl, rfl⟩
  case round =>
    obtain ⟨k, hk, rfl, rfl⟩ := hrel
    by_cases hlt : k < s.size
    · go_wp2_with (go_at_call 18; refine (on_at _ _ _ s[k] _ rfl rfl).mono ?_; rintro e w' ⟨rfl, rfl⟩)
      go_round
      case rel => exact ⟨k + 1, by omega, by go_num, by rw [alo_take full s k hlt]⟩
      case measure => simp [intOf]; omega
    · go_wp2
      go_ret
      exact ⟨ret_u32 (by rw [List.take_of_length_le (by simp; omega), U_full, U_xor]; rfl), rfl⟩

set_option maxHeartbeats 400000 in
theorem refZeros_any (a : B32) (n : Int) (w : World) (h0 : n ≤ 9223372036854775807) :
    Calls Try.prog 13 #[.int .u32 (U a), .int .i64 n] w fun e w' => e = .returned (.int .u32 (U (zerosB a n.toNat))) ∧ w = w' := by
  have hx : bits .xor .u32 (U a) 4294967295 = U (a ^^^ full) := U_xor a full
  go_enter Try.func13, Try.ntmps13
  go_wp2_with fail
  clear hx
  go_loop [5, 6] (fun x i => ∃ k : Nat, (k : Int) ≤ max n 0 ∧ i = .int .i64 k ∧ x = .int .u32 (U (thr k (a ^^^ full)))) (fun _ i => n.toNat - (intOf i).toNat)
  case atStart => exact ⟨0, by omega, rfl, rfl⟩
  case round =>
    obtain ⟨k, hk, rfl, rfl⟩ := hrel
    by_cases hlt : (k : Int) < n
    · go_wp2_with (go_at_call 18; refine (on_at _ _ _ 0 _ rfl rfl).mono ?_; rintro e w' ⟨rfl, rfl⟩)
      go_round
      case rel => exact ⟨k + 1, by omega, by go_num, by rw [thr_more]⟩
      case measure => simp [intOf]; omega
    · go_wp2
      go_ret
      exact ⟨ret_u32 (by rw [show n.toNat = k by omega, U_full, U_xor]; rfl), rfl⟩

set_option maxHeartbeats 400000 in
theorem refJoin_any (a b : B32) (n : Int) (w : World) (h0 : n ≤ 9223372036854775807) :
    Calls Try.prog 15 #[.int .u32 (U a), .int .u32 (U b), .int .i64 n] w fun e w' => e = .returned (.int .u32 (U (joinB a b n.toNat))) ∧ w = w' := by
  go_enter Try.func15, Try.ntmps15
  go_wp2_with (go_at_call 21; refine (through_any _ _ _ h0).mono ?_; rintro e w' ⟨rfl, rfl⟩)
  go_ret
  exact ⟨ret_u32 (U_xor _ _), rfl⟩

set_option maxHeartbeats 400000 in
theorem refTurned_any (a : B32) (s : ByteArray) (n : Int) (w : World) (hs : s.size ≤ maxLen) (h0 : n ≤ 9223372036854775807) :
    Calls Try.prog 17 #[.int .u32 (U a), .string s, .int .i64 n] w fun e w' => e = .returned (.int .u32 (U (turnedB a s.data.toList n.toNat))) ∧ w = w' := by
  unfold maxLen at hs
  go_enter Try.func17, Try.ntmps17
  go_wp2_with fail
  go_loop [7, 8] (fun x i => ∃ k : Nat, k ≤ s.size ∧ i = .int .i64 k ∧ x = .int .u32 (U (alo 0#32 (s.data.toList.take k)))) (fun _ i => s.size - (intOf i).toNat)
  case atStart => exact ⟨0, by omega, rfl, rfl⟩
  case round =>
    obtain ⟨k, hk, rfl, rfl⟩ := hrel
    by_cases hlt : k < s.size
    · go_wp2_with (go_at_call 18; refine (on_at _ _ _ s[k] _ rfl rfl).mono ?_; rintro e w' ⟨rfl, rfl⟩)
      go_round
      case rel => exact ⟨k + 1, by omega, by go_num, by rw [alo_take 0#32 s k hlt]⟩
      case measure => simp [intOf]; omega
    · go_wp2_with (go_at_call 21; refine (through_any _ _ _ h0).mono ?_; rintro e w' ⟨rfl, rfl⟩)
      go_ret
      exact ⟨ret_u32 (by rw [List.take_of_length_le (by simp; omega), U_xor]; rfl), rfl⟩
end Go.Proofs.Ytmgagghlkopfcaa
