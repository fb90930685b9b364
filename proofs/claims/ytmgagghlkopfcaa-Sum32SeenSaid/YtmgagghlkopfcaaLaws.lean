/- The walks of the laws of sum32 that build no text of their own. -/
import Derived.Test.YtmgagghlkopfcaaCalls
import Derived.DataShut
namespace Go.Proofs.Ytmgagghlkopfcaa
open Go.RowKit
open Go.Lib

theorem wf_u32 {x : Int} (h : (Lit.int .u32 x).wf = true) : 0 ≤ x ∧ x < 4294967296 := by
  rw [Lit.wf_int_iff] at h; have h1 : IntKind.u32.min = 0 := by decide
  have h2 : IntKind.u32.max = 4294967295 := by decide
  omega
theorem wf_i64 {x : Int} (h : (Lit.int .i64 x).wf = true) : -9223372036854775808 ≤ x ∧ x ≤ 9223372036854775807 := by
  rw [Lit.wf_int_iff] at h; have h1 : IntKind.i64.min = -9223372036854775808 := by decide
  have h2 : IntKind.i64.max = 9223372036854775807 := by decide
  omega
theorem wf_word {x : Int} (h : (Lit.int .u32 x).wf = true) : ∃ b : B32, x = U b :=
  ⟨_, U_of x (wf_u32 h).1 (wf_u32 h).2⟩

/-- what was below the first world stays below -/
theorem on_below {w wr w' : World} (h : Hid (Below w.heap.size w wr)) (hb : Below wr.heap.size wr w') : Hid (Below w.heap.size w w') :=
  hid (h.out.trans (hb.mono h.out.size))

set_option maxHeartbeats 400000 in
theorem Sum32Far_walk (x m n : Int) (w0 : (Lit.int .u32 x).wf = true) (w1 : (Lit.int .i64 m).wf = true) (w2 : (Lit.int .i64 n).wf = true) (w : World) :
    Calls Try.prog 7 #[.int .u32 x, .int .i64 m, .int .i64 n] w fun e w' => e = .returned (.bool true) ∧ Below w.heap.size w w' := by
  obtain ⟨a, rfl⟩ := wf_word w0
  have hm := wf_i64 w1
  have hn := wf_i64 w2
  clear w0 w1 w2
  have HB : Hid (Below w.heap.size w w) := hid (Below.refl _ _)
  by_cases h : m < 0 ∨ n < 0 ∨ 1000000000 < m ∨ 1000000000 < n
  · go_enter Try.func7, Try.ntmps7
    go_wp2_with (go_at_call 9; refine (live_any _).mono ?_; rintro e w' ⟨rfl, hb⟩; replace HB := on_below HB hb; clear hb)
    all_goals (go_ret; first | exact ⟨rfl, HB.out⟩ | (exfalso; omega))
  · have hm0 : 0 ≤ m := by omega
    have hn0 : 0 ≤ n := by omega
    have t1 : (U (zerosB (zerosB a m.toNat) n.toNat) == U (zerosB a (m + n).toNat)) = true := by
      rw [zeros_zeros, show (m + n).toNat = m.toNat + n.toNat by omega]; exact beq_self_eq_true _
    have t2 : (U (zerosB a 0) == U a) = true := by rw [zeros_none]; exact beq_self_eq_true _
    have t3 : (U (joinB a 0#32 0) == U a) = true := by rw [join_none]; exact beq_self_eq_true _
    go_enter Try.func7, Try.ntmps7
    go_wp2_with (first
      | (go_at_call 9; refine (live_any _).mono ?_; rintro e w' ⟨rfl, hb⟩; replace HB := on_below HB hb; clear hb)
      | (go_at_call 12; refine (zeros_any _ _ _ (by omega)).mono ?_; rintro e w' ⟨rfl, hb⟩; replace HB := on_below HB hb; clear hb)
      | (go_at_call 14; refine (join_lit _ _ _ a 0#32 _ _ (by omega) rfl U_zero rfl).mono ?_; rintro e w' ⟨rfl, hb⟩; replace HB := on_below HB hb; clear hb))
    go_ret
    exact ⟨rfl, HB.out⟩

theorem sz_empty : ByteArray.empty.size ≤ maxLen := Nat.zero_le _
theorem sz_ext (s : ByteArray) (k : Nat) (h : s.size ≤ maxLen) : (s.extract 0 k).size ≤ maxLen := by
  rw [ByteArray.size_extract]; omega
theorem beq_U {a b : B32} (h : a = b) : (U a == U b) = true := by rw [h]; exact beq_self_eq_true _

set_option maxHeartbeats 400000 in
theorem Sum32Sums_walk (s : ByteArray) (x n : Int) (w0 : s.size ≤ maxLen) (w1 : (Lit.int .u32 x).wf = true) (w2 : (Lit.int .i64 n).wf = true) (w : World) :
    Calls Try.prog 3 #[.string s, .int .u32 x, .int .i64 n] w fun e w' => e = .returned (.bool true) ∧ Below w.heap.size w w' := by
  obtain ⟨a, rfl⟩ := wf_word w1
  have hn := wf_i64 w2
  clear w1 w2
  have hs := w0
  unfold maxLen at hs
  have HB : Hid (Below w.heap.size w w) := hid (Below.refl _ _)
  by_cases h : 3000 < s.size ∨ 3000 < n
  · go_enter Try.func3, Try.ntmps3
    go_wp2_with (go_at_call 9; refine (live_any _).mono ?_; rintro e w' ⟨rfl, hb⟩; replace HB := on_below HB hb; clear hb)
    all_goals (go_ret; first | exact ⟨rfl, HB.out⟩ | (exfalso; omega))
  · go_enter Try.func3, Try.ntmps3
    go_wp2_with (first
      | (go_at_call 9; refine (live_any _).mono ?_; rintro e w' ⟨rfl, hb⟩; replace HB := on_below HB hb; clear hb)
      | (go_at_call 10; refine (refSum_any _ _ (by first | exact w0 | exact sz_empty | exact sz_ext _ _ w0)).mono ?_; rintro e w' ⟨rfl, rfl⟩)
      | (go_at_call 11; refine (sum_any _ _ w0).mono ?_; rintro e w' ⟨rfl, rfl⟩)
      | (go_at_call 12; refine (zeros_any _ _ _ (by omega)).mono ?_; rintro e w' ⟨rfl, hb⟩; replace HB := on_below HB hb; clear hb)
      | (go_at_call 13; refine (refZeros_any _ _ _ (by omega)).mono ?_; rintro e w' ⟨rfl, rfl⟩)
      | (go_at_call 14; refine (join_any _ _ _ _ (by omega)).mono ?_; rintro e w' ⟨rfl, hb⟩; replace HB := on_below HB hb; clear hb)
      | (go_at_call 15; refine (refJoin_any _ _ _ _ (by omega)).mono ?_; rintro e w' ⟨rfl, rfl⟩)
      | (go_at_call 16; refine (turned_any _ _ _ _ w0 (by omega)).mono ?_; rintro e w' ⟨rfl, hb⟩; replace HB := on_below HB hb; clear hb)
      | (go_at_call 17; refine (refTurned_any _ _ _ _ w0 (by omega)).mono ?_; rintro e w' ⟨rfl, rfl⟩))
    all_goals (go_ret; exact ⟨rfl, HB.out⟩)
end Go.Proofs.Ytmgagghlkopfcaa
