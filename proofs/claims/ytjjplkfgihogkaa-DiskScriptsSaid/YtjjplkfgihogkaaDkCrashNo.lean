/- Crash of disk, where it is refused, and where no write waits. -/
import Derived.Test.YtjjplkfgihogkaaDkCrash
namespace Go.Proofs.Ytjjplkfgihogkaa.Dk
open Go.RowKit
open Go.Lib (hid)

set_option maxHeartbeats 400000 in
theorem crash_no (d : Ptrs) (s : St) (w : World) (h : Dsk w d s) (q : Option Addr) (c : Nat) (ks : List Int)
    (hks : Kept w q ks) (hkm : ks.length ≤ maxLen) (torn a : Int) (hc : comeS s ks torn a = none) :
    Calls Try.prog 15 #[.pointer (some ⟨d.D, 0, none⟩), .slice q ks.length c, .int .i64 torn, .int .i64 a] w fun e w' => e = .returned (.int .i64 1) ∧ Below w.heap.size w w' := by
  obtain ⟨p, cap, hv⟩ := h.waitsAt
  have HCOME := hid (come_A d s w h p cap hv q c ks hks hkm torn a)
  have HC := hid hc
  clear h hv hks hc hkm
  go_enter Try.func15, Try.ntmps15
  go_wp2_with (go_at_call 35; refine HCOME.out.mono ?_; rintro e w1 ⟨hb1, hm1⟩; rw [HC.out] at hm1; obtain ⟨v, rfl⟩ := hm1; have HB1 := hid hb1; clear hb1)
  go_ret
  exact ⟨rfl, HB1.out⟩
set_option maxHeartbeats 400000 in
theorem crash_nil (k : Value) (torn a : Int) (w : World) :
    Calls Try.prog 15 #[.pointer none, k, .int .i64 torn, .int .i64 a] w fun e w' => e = .returned (.int .i64 1) ∧ w = w' := by
  go_enter Try.func15, Try.ntmps15
  go_wp2_with fail
  go_ret
  exact ⟨rfl, rfl⟩
end Go.Proofs.Ytjjplkfgihogkaa.Dk
