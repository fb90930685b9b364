/- OnesCount64, and Left of free. -/
import Derived.Test.YtefnofipcjjfpaaFrLow
import Derived.Laws.Bits128
namespace Go.Proofs.Ytefnofipcjjfpaa.Fr
open Go.RowKit
open Go.Lib (hid)

theorem u64_nat (n : Nat) (h : n < 2 ^ 64) : IntKind.u64.wrap (n : Int) = (n : Int) := Go.IntWalk.u64_in _ (by omega)
theorem last7 (y n : Nat) (h0 : y % 128 = n) : wrap64 (y : Int) % 128 = (n : Int) := by unfold wrap64; omega
theorem ones_facts (x n : Nat) (h : x < 18446744073709551616) (hn : Lib.popAux 64 x = n) : ∃ t u s v y1 y2 y3 : Nat,
    bits .and .u64 ((x : Int) / 2) 6148914691236517205 + bits .and .u64 (x : Int) 6148914691236517205 = (t : Int) ∧ IntKind.u64.wrap (t : Int) = (t : Int) ∧
    bits .and .u64 ((t : Int) / 4) 3689348814741910323 + bits .and .u64 (t : Int) 3689348814741910323 = (u : Int) ∧ IntKind.u64.wrap (u : Int) = (u : Int) ∧
    (u : Int) / 16 + (u : Int) = (s : Int) ∧ IntKind.u64.wrap (s : Int) = (s : Int) ∧ bits .and .u64 (s : Int) 1085102592571150095 = (v : Int) ∧
    IntKind.u64.wrap ((v : Int) + (v : Int) / 256) = (y1 : Int) ∧ IntKind.u64.wrap ((y1 : Int) + (y1 : Int) / 65536) = (y2 : Int) ∧ IntKind.u64.wrap ((y2 : Int) + (y2 : Int) / 4294967296) = (y3 : Int) ∧
    bits .and .i64 (wrap64 (y3 : Int)) 127 = (n : Int) ∧ y3 < 18446744073709551616 := by
  obtain ⟨t, ht⟩ : ∃ t, t = (x / 2 &&& 6148914691236517205) + (x &&& 6148914691236517205) := ⟨_, rfl⟩
  obtain ⟨u, hu⟩ : ∃ u, u = (t / 4 &&& 3689348814741910323) + (t &&& 3689348814741910323) := ⟨_, rfl⟩
  obtain ⟨v, hv⟩ : ∃ v, v = (u / 16 + u) &&& 1085102592571150095 := ⟨_, rfl⟩
  obtain ⟨y1, g1⟩ : ∃ y1, y1 = v + v / 256 := ⟨_, rfl⟩
  obtain ⟨y2, g2⟩ : ∃ y2, y2 = y1 + y1 / 65536 := ⟨_, rfl⟩
  obtain ⟨y3, g3⟩ : ∃ y3, y3 = y2 + y2 / 4294967296 := ⟨_, rfl⟩
  obtain ⟨h0, h1, h2, h3, h4, h5, h6, h7⟩ := pop64 x t u v y1 y2 y3 h ht hu hv g1 g2 g3
  rw [hn] at h0
  clear hn
  refine ⟨t, u, u / 16 + u, v, y1, y2, y3, ?_, u64_nat _ h1, ?_, u64_nat _ h3, ?_, u64_nat _ h2, ?_, ?_, ?_, ?_, ?_, h7⟩
  · rw [show (x : Int) / 2 = ((x / 2 : Nat) : Int) by omega, show (6148914691236517205 : Int) = ((6148914691236517205 : Nat) : Int) from rfl, u64_and_nat _ _ (by omega) (by decide), u64_and_nat _ _ h (by decide), ht]
    exact (Int.natCast_add _ _).symm
  · rw [show (t : Int) / 4 = ((t / 4 : Nat) : Int) by omega, show (3689348814741910323 : Int) = ((3689348814741910323 : Nat) : Int) from rfl, u64_and_nat _ _ (by omega) (by decide), u64_and_nat _ _ h1 (by decide), hu]
    exact (Int.natCast_add _ _).symm
  · omega
  · rw [show (1085102592571150095 : Int) = ((1085102592571150095 : Nat) : Int) from rfl, u64_and_nat _ _ h2 (by decide), hv]
  · rw [show (v : Int) + (v : Int) / 256 = ((y1 : Nat) : Int) by omega]; exact u64_nat _ h5
  · rw [show (y1 : Int) + (y1 : Int) / 65536 = ((y2 : Nat) : Int) by omega]; exact u64_nat _ h6
  · rw [show (y2 : Int) + (y2 : Int) / 4294967296 = ((y3 : Nat) : Int) by omega]; exact u64_nat _ h7
  · rw [i64_and127]; exact last7 y3 n h0

set_option maxRecDepth 100000 in
set_option maxHeartbeats 1000000 in
theorem ones_ok (x n : Nat) (w : World) (h : x < 18446744073709551616) (hn : Lib.popAux 64 x = n) :
    Calls Try.prog 29 #[.int .u64 (x : Int)] w fun e w' => e = .returned (.int .i64 (n : Int)) ∧ w = w' := by
  obtain ⟨t, u, s, v, y1, y2, y3, e1, e2, e3, e4, e5, e6, e7, e8, e9, e10, e11, h12⟩ := ones_facts x n h hn
  have E11 := hid e11; clear hn e11
  have h13 : (0 : Int) ≤ (y3 : Int) := by omega
  go_enter Try.func29, Try.ntmps29
  go_wp2_with fail
  go_ret
  exact ⟨congrArg (fun z => Ending.returned (Value.int .i64 z)) E11.out, rfl⟩

end Go.Proofs.Ytefnofipcjjfpaa.Fr
