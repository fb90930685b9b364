/- The walk of Sum32Seen. -/
import Derived.Test.YtmgagghlkopfcaaBytes
import Derived.Test.YtmgagghlkopfcaaSeenM
import Derived.RegionTactic
import Derived.ChangeAlike
import Derived.WalkSmall
namespace Go.Proofs.Ytmgagghlkopfcaa
open Go.RowKit
open Go.Lib
/-- what a call of Sum32Seen has behind k rounds -/
structure Seen (s : ByteArray) (b : B32) (f : Nat) (w : World) (B k : Nat) (wr : World) : Prop where
  below : Below w.heap.size w wr
  lo : w.heap.size ≤ B
  row : ∃ l, Bytes wr B l ∧ l.length = s.size ∧ alo full l = alo full s.data.toList ^^^ stps (8 * s.size - f) (low b k)

theorem seen_test (b : B32) (k : Nat) : ((U b / 2 ^ k).tmod 2 == 1) = b.getLsbD k := by
  have e : U b / 2 ^ k = ((b.toNat / 2 ^ k : Nat) : Int) := by unfold U; simp
  rw [e, BitVec.getLsbD, Nat.testBit_eq_decide_div_mod_eq, Bool.eq_iff_iff]
  generalize b.toNat / 2 ^ k = m
  rw [beq_iff_eq, decide_eq_true_iff, Int.tmod_eq_emod_of_nonneg (by omega)]
  omega
theorem seen_val (a : UInt8) (r : Nat) (h : r < 8) : bits .xor .u8 (a.toNat : Int) ((2 : Int) ^ r % 256) = ((a ^^^ ((1 : UInt8) <<< (UInt8.ofNat r))).toNat : Int) := by
  have e : ((2 : Int) ^ r % 256) = (((1 : UInt8) <<< (UInt8.ofNat r)).toNat : Int) := by
    rw [one_shl r h]
    have : (2 : Nat) ^ r ≤ 2 ^ 7 := Nat.pow_le_pow_right (by decide) (by omega)
    have e2 : ((2 : Int) ^ r) = ((2 ^ r : Nat) : Int) := by simp
    have hq : (2 : Nat) ^ r < 256 := Nat.lt_of_le_of_lt this (by decide)
    rw [e2]; exact Int.emod_eq_of_lt (Int.natCast_nonneg _) (Int.ofNat_lt.2 hq)
  rw [e, u8_xor_nat _ _ a.toNat_lt (UInt8.toNat_lt _), UInt8.toNat_xor]

set_option maxHeartbeats 800000 in
theorem Seen_go (s : ByteArray) (z : Int) (b : B32) (ws : s.size ≤ maxLen) (w : World) (h1 : s.size ≤ 2000) (h2 : 5 ≤ s.size) (h3 : 0 ≤ z) (h3' : z ≤ 9223372036854775807) (h4 : (U b == 0) = false) (hb0 : b ≠ 0#32) :
    Calls Try.prog 6 #[.string s, .int .i64 z, .int .u32 (U b)] w fun e w' => e = .returned (.bool true) ∧ Below w.heap.size w w' := by
  have HB0 := hid hb0; clear hb0
  have hconv := bytes_conv s
  go_enter Try.func6, Try.ntmps6
  go_wp2_with fail
  clear hconv
  have hT : Seen s b ((z % (8 * s.size - 31)).toNat) w w.heap.size 0 (w.alloc (.cells (bytesRow s (grownCap w s.size 0 5)) 5 ((bytesRow s (grownCap w s.size 0 5)).size, (bytesRow s (grownCap w s.size 0 5)).size + 1))).drew := by
    refine ⟨((Below.refl _ _).alloc (Nat.le_refl _) _).drew, Nat.le_refl _, s.data.toList, ?_, by simp, by rw [low_none, stps_zero]; simp⟩
    exact bytes_made w.drew s _ _ (by simp [bytesRow])
  have HT := hid hT; clear hT
  generalize (w.alloc (.cells (bytesRow s (grownCap w s.size 0 5)) 5 ((bytesRow s (grownCap w s.size 0 5)).size, (bytesRow s (grownCap w s.size 0 5)).size + 1))).drew = w1 at HT ⊢
  generalize hB : w.heap.size = B at HT ⊢
  generalize grownCap w s.size 0 5 = cap
  clear hB
  have hf0 : 0 ≤ z % (8 * s.size - 31) := Int.emod_nonneg _ (by omega)
  have hf1 : z % (8 * s.size - 31) < 8 * s.size - 31 := Int.emod_lt_of_pos _ (by omega)
  generalize hf : z % (8 * s.size - 31) = f0 at *
  obtain ⟨f, rfl⟩ := Int.eq_ofNat_of_zero_le hf0
  clear hf hf0
  rw [Int.toNat_natCast] at HT
  have hff : f + 32 ≤ 8 * s.size := by omega
  clear hf1
  go_loopw [9] (fun i wr => ∃ k : Nat, k ≤ 32 ∧ i = .int .i64 k ∧ Seen s b f w B k wr) (fun i _ => 32 - (intOf i).toNat)
  case atStart => exact ⟨0, by omega, rfl, HT.out⟩
  case round =>
    clear HT
    obtain ⟨k, hk, rfl, hb, lo, l, hB, hl, ha⟩ := hrel
    have HA := hid ha; clear ha
    have HB := hid hb; clear hb
    have HY := hid hB; clear hB
    have HL := hid hl; clear hl
    by_cases hlt : k < 32
    · have hq : (f + k) / 8 < l.length := by have := HL.out; omega
      have hc := HY.out.cell ((f + k) / 8) hq
      have hf := HY.out.free ((f + k) / 8) hq
      have hr : (f + k) % 8 < 8 := Nat.mod_lt _ (by decide)
      obtain ⟨v, hvd, hv⟩ : ∃ v : UInt8, l[(f + k) / 8] ^^^ ((1 : UInt8) <<< (UInt8.ofNat ((f + k) % 8))) = v ∧ bits .xor .u8 ((l[(f + k) / 8]).toNat : Int) ((2 : Int) ^ ((f + k) % 8) % 256) = (v.toNat : Int) :=
        ⟨_, rfl, seen_val (l[(f + k) / 8]) ((f + k) % 8) hr⟩
      have HVD := hid hvd; clear hvd
      have ht := seen_test b k
      cases hbit : b.getLsbD k
      · rw [hbit] at ht
        have HBIT := hid hbit; clear hbit
        go_wp2_with fail
        go_roundw
        case rel => exact ⟨k + 1, by omega, by go_num, HB.out, lo, l, HY.out, HL.out, by have := HA.out; rw [← HL.out] at this ⊢; exact seen_skip l _ b f k hlt this HBIT.out⟩
        case measure => simp [intOf]; omega
      · rw [hbit] at ht
        have HBIT := hid hbit; clear hbit
        go_wp2_with fail
        go_roundw
        case rel =>
          refine ⟨k + 1, by omega, by go_num, HB.out.setCell lo _, lo, _, HY.out.set _ hq _, by rw [List.length_set]; exact HL.out, ?_⟩
          have := HA.out
          rw [← HL.out] at this hff ⊢
          rw [← HVD.out]; exact seen_step l _ b f k hlt hff hq this HBIT.out
        case measure => simp [intOf]; omega
    · obtain rfl : k = 32 := by omega
      have hback := bytes_back HY.out s.size cap HL.out
      have hne : (U (sumB l) == U (sumB s.data.toList)) = false := by
        rw [U_beq, beq_eq_false_iff_ne]; exact seen_end l s.data.toList b _ HB0.out HA.out
      have hne' : (U (sumB l) != U (sumB s.data.toList)) = true := by
        rw [bne, hne]; rfl
      have hlen : l.length ≤ 2000 := by have := HL.out; omega
      go_wp2_with fail
      refine (sum_any _ _ (show l.toArray.size ≤ maxLen by unfold maxLen; simp; omega)).mono ?_; rintro e w1 ⟨rfl, rfl⟩
      go_wp2_with fail
      refine (sum_any _ _ ws).mono ?_; rintro e w1 ⟨rfl, rfl⟩
      go_wp2_with fail
      refine (live_any _).mono ?_; rintro e w4 ⟨rfl, hb⟩; replace HB := on_below HB hb; clear hb
      go_wp2_with fail
      go_ret
      exact ⟨rfl, HB.out⟩

set_option maxHeartbeats 800000 in
theorem Seen_live (s : ByteArray) (z : Int) (b : B32) (ws : s.size ≤ maxLen) (wz : -9223372036854775808 ≤ z ∧ z ≤ 9223372036854775807) (w : World)
    (h : 2000 < s.size ∨ s.size < 5 ∨ z < 0 ∨ b = 0#32) :
    Calls Try.prog 6 #[.string s, .int .i64 z, .int .u32 (U b)] w fun e w' => e = .returned (.bool true) ∧ Below w.heap.size w w' := by
  have hs := ws
  unfold maxLen at hs
  have HB : Hid (Below w.heap.size w w) := hid (Below.refl _ _)
  by_cases h1 : 2000 < s.size
  · go_enter Try.func6, Try.ntmps6
    go_wp2_with (go_at_call 9; refine (live_any _).mono ?_; rintro e w' ⟨rfl, hb⟩; replace HB := on_below HB hb; clear hb)
    go_ret; exact ⟨rfl, HB.out⟩
  · by_cases h2 : s.size < 5
    · go_enter Try.func6, Try.ntmps6
      go_wp2_with (go_at_call 9; refine (live_any _).mono ?_; rintro e w' ⟨rfl, hb⟩; replace HB := on_below HB hb; clear hb)
      go_ret; exact ⟨rfl, HB.out⟩
    · by_cases h3 : z < 0
      · go_enter Try.func6, Try.ntmps6
        go_wp2_with (go_at_call 9; refine (live_any _).mono ?_; rintro e w' ⟨rfl, hb⟩; replace HB := on_below HB hb; clear hb)
        go_ret; exact ⟨rfl, HB.out⟩
      · have h4 : b = 0#32 := by rcases h with h | h | h | h <;> first | exact h | (exfalso; omega)
        subst h4
        have h5 : (U 0#32 == 0) = true := rfl
        go_enter Try.func6, Try.ntmps6
        go_wp2_with (go_at_call 9; refine (live_any _).mono ?_; rintro e w' ⟨rfl, hb⟩; replace HB := on_below HB hb; clear hb)
        go_ret; exact ⟨rfl, HB.out⟩

theorem Sum32Seen_walk (s : ByteArray) (z : Int) (x : Int) (w0 : s.size ≤ maxLen) (w1 : (Lit.int .i64 z).wf = true) (w2 : (Lit.int .u32 x).wf = true) (w : World) :
    Calls Try.prog 6 #[.string s, .int .i64 z, .int .u32 x] w fun e w' => e = .returned (.bool true) ∧ Below w.heap.size w w' := by
  obtain ⟨b, rfl⟩ := wf_word w2
  by_cases h : 2000 < s.size ∨ s.size < 5 ∨ z < 0 ∨ b = 0#32
  · exact Seen_live s z b w0 (wf_i64 w1) w h
  · have hb : b ≠ 0#32 := fun e => h (.inr (.inr (.inr e)))
    refine Seen_go s z b w0 w (by omega) (by omega) (by omega) (wf_i64 w1).2 ?_ hb
    rw [U_zero, U_beq, beq_eq_false_iff_ne]; exact hb
end Go.Proofs.Ytmgagghlkopfcaa
