/- The exported calls of sum32, what each returns; and the law's own examples. -/
import Derived.Test.YtmgagghlkopfcaaPast
import Derived.Test.YtmgagghlkopfcaaRef
namespace Go.Proofs.Ytmgagghlkopfcaa
open Go.RowKit
open Go.Lib

theorem past_at (x : Int) (a : B32) (n : Int) (w : World) (h0 : n ≤ 9223372036854775807) (h : x = U a) :
    Calls Try.prog 20 #[.int .u32 x, .int .i64 n] w fun e w' => e = .returned (.int .u32 (U (thr n.toNat a))) ∧ Below w.heap.size w w' := by
  rw [h]; exact past_any a n w h0

set_option maxHeartbeats 400000 in
theorem zeros_any (a : B32) (n : Int) (w : World) (h0 : n ≤ 9223372036854775807) :
    Calls Try.prog 12 #[.int .u32 (U a), .int .i64 n] w fun e w' => e = .returned (.int .u32 (U (zerosB a n.toNat))) ∧ Below w.heap.size w w' := by
  go_enter Try.func12, Try.ntmps12
  go_wp2_with (go_at_call 20; refine (past_at _ _ _ _ h0 (U_xor a full)).mono ?_; rintro e w' ⟨rfl, hb⟩; have HB := hid hb; clear hb)
  go_ret
  exact ⟨ret_u32 (by rw [U_full, U_xor]; rfl), HB.out⟩

set_option maxHeartbeats 400000 in
theorem join_any (a b : B32) (n : Int) (w : World) (h0 : n ≤ 9223372036854775807) :
    Calls Try.prog 14 #[.int .u32 (U a), .int .u32 (U b), .int .i64 n] w fun e w' => e = .returned (.int .u32 (U (joinB a b n.toNat))) ∧ Below w.heap.size w w' := by
  go_enter Try.func14, Try.ntmps14
  go_wp2_with (go_at_call 20; refine (past_any _ _ _ h0).mono ?_; rintro e w' ⟨rfl, hb⟩; have HB := hid hb; clear hb)
  go_ret
  exact ⟨ret_u32 (U_xor _ _), HB.out⟩

set_option maxHeartbeats 400000 in
theorem turned_any (a : B32) (s : ByteArray) (n : Int) (w : World) (hs : s.size ≤ maxLen) (h0 : n ≤ 9223372036854775807) :
    Calls Try.prog 16 #[.int .u32 (U a), .string s, .int .i64 n] w fun e w' => e = .returned (.int .u32 (U (turnedB a s.data.toList n.toNat))) ∧ Below w.heap.size w w' := by
  go_enter Try.func16, Try.ntmps16
  go_wp2_with (first
    | (go_at_call 19; refine (along_at _ 0#32 s _ hs U_zero).mono ?_; rintro e w' ⟨rfl, rfl⟩)
    | (go_at_call 20; refine (past_any _ _ _ h0).mono ?_; rintro e w' ⟨rfl, hb⟩; have HB := hid hb; clear hb))
  go_ret
  exact ⟨ret_u32 (U_xor _ _), HB.out⟩

theorem sum_lit (l : Array UInt8) (x : Int) (w : World) (hl : l.size ≤ 9) (hx : U (sumB l.toList) = x) :
    Calls Try.prog 11 #[.string ⟨l⟩] w fun e w' => e = .returned (.int .u32 x) ∧ w = w' := by
  rw [← hx]; exact sum_any ⟨l⟩ w (by unfold maxLen; show l.size ≤ _; omega)
theorem join_lit (x y z : Int) (a b : B32) (n : Int) (w : World) (h0 : n ≤ 9223372036854775807) (hx : x = U a) (hy : y = U b) (hz : U (joinB a b n.toNat) = z) :
    Calls Try.prog 14 #[.int .u32 x, .int .u32 y, .int .i64 n] w fun e w' => e = .returned (.int .u32 z) ∧ Below w.heap.size w w' := by
  rw [hx, hy, ← hz]; exact join_any a b n w h0
theorem zeros_lit (x z : Int) (a : B32) (n : Int) (w : World) (h0 : n ≤ 9223372036854775807) (hx : x = U a) (hz : U (zerosB a n.toNat) = z) :
    Calls Try.prog 12 #[.int .u32 x, .int .i64 n] w fun e w' => e = .returned (.int .u32 z) ∧ Below w.heap.size w w' := by
  rw [hx, ← hz]; exact zeros_any a n w h0
theorem turned_lit (x z : Int) (a : B32) (l : Array UInt8) (n : Int) (w : World) (hl : l.size ≤ 9) (h0 : n ≤ 9223372036854775807) (hx : x = U a) (hz : U (turnedB a l.toList n.toNat) = z) :
    Calls Try.prog 16 #[.int .u32 x, .string ⟨l⟩, .int .i64 n] w fun e w' => e = .returned (.int .u32 z) ∧ Below w.heap.size w w' := by
  rw [hx, ← hz]; exact turned_any a ⟨l⟩ n w (by unfold maxLen; show l.size ≤ _; omega) h0

theorem lit1 : U (sumB #[49, 50, 51, 52, 53, 54, 55, 56, 57].toList) = 3421780262 := by decide +kernel
theorem lit2 : U (sumB #[].toList) = 0 := by decide +kernel
theorem lit3 : U (sumB #[49, 50, 51, 52].toList) = 2615402659 := by decide +kernel
theorem lit4 : U (sumB #[53, 54, 55, 56, 57].toList) = 320708720 := by decide +kernel
theorem lit5 : U (sumB #[97].toList) = 3904355907 := by decide +kernel
theorem lit6 : U (sumB #[97, 0, 0].toList) = 3058989061 := by decide +kernel
theorem lit7 : U (sumB #[97, 98, 99].toList) = 891568578 := by decide +kernel
theorem lit8 : U (sumB #[97, 97, 99].toList) = 503910913 := by decide +kernel
theorem lit9 : U (joinB 2615402659#32 320708720#32 (5 : Int).toNat) = 3421780262 := by decide +kernel
theorem lit10 : U (zerosB 3904355907#32 (2 : Int).toNat) = 3058989061 := by decide +kernel
theorem lit11 : U (turnedB 891568578#32 #[3].toList (1 : Int).toNat) = 503910913 := by decide +kernel

set_option maxHeartbeats 400000 in
theorem live_any (w : World) :
    Calls Try.prog 9 #[] w fun e w' => e = .returned (.bool true) ∧ Below w.heap.size w w' := by
  go_enter Try.func9, Try.ntmps9
  go_wp2_with fail
  refine (sum_lit _ _ _ (by decide) lit1).mono ?_; rintro e w1 ⟨rfl, rfl⟩
  go_wp2_with fail
  refine (sum_lit _ _ _ (by decide) lit2).mono ?_; rintro e w1 ⟨rfl, rfl⟩
  go_wp2_with fail
  refine (sum_lit _ _ _ (by decide) lit3).mono ?_; rintro e w1 ⟨rfl, rfl⟩
  go_wp2_with fail
  refine (sum_lit _ _ _ (by decide) lit4).mono ?_; rintro e w1 ⟨rfl, rfl⟩
  go_wp2_with fail
  refine (join_lit _ _ _ 2615402659#32 320708720#32 _ _ (by omega) rfl rfl lit9).mono ?_; rintro e w1 ⟨rfl, hb⟩; have H1 := hid hb; clear hb
  go_wp2_with fail
  refine (sum_lit _ _ _ (by decide) lit5).mono ?_; rintro e w2 ⟨rfl, rfl⟩
  go_wp2_with fail
  refine (zeros_lit _ _ 3904355907#32 _ _ (by omega) rfl lit10).mono ?_; rintro e w2 ⟨rfl, hb⟩; have H2 := hid hb; clear hb
  go_wp2_with fail
  refine (sum_lit _ _ _ (by decide) lit6).mono ?_; rintro e w3 ⟨rfl, rfl⟩
  go_wp2_with fail
  refine (sum_lit _ _ _ (by decide) lit7).mono ?_; rintro e w3 ⟨rfl, rfl⟩
  go_wp2_with fail
  refine (turned_lit _ _ 891568578#32 _ _ _ (by decide) (by omega) rfl lit11).mono ?_; rintro e w3 ⟨rfl, hb⟩; have H3 := hid hb; clear hb
  go_wp2_with fail
  refine (sum_lit _ _ _ (by decide) lit8).mono ?_; rintro e w4 ⟨rfl, rfl⟩
  go_wp2_with fail
  go_ret
  refine ⟨rfl, (H1.out.trans (H2.out.mono H1.out.size)).trans (H3.out.mono (Nat.le_trans H1.out.size H2.out.size))⟩
end Go.Proofs.Ytmgagghlkopfcaa
