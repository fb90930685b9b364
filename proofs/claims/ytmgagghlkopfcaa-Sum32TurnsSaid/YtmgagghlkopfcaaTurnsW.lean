/- The walk of Sum32Turns. -/
import Derived.Test.YtmgagghlkopfcaaBytes
import Derived.RegionTactic
import Derived.ChangeAlike
import Derived.WalkSmall
namespace Go.Proofs.Ytmgagghlkopfcaa
open Go.RowKit
open Go.Lib
/-- what a call of Sum32Turns has behind k rounds -/
structure Turns (s t : ByteArray) (q : Nat) (w : World) (B k : Nat) (wr : World) : Prop where
  below : Below w.heap.size w wr
  lo : w.heap.size ≤ B
  row : ∃ l, Bytes wr B l ∧ l.length = s.size ∧ alo full l = alo full s.data.toList ^^^ thr (s.size - q - k) (alo 0#32 (t.data.toList.take k))

theorem turns_step (l : List UInt8) (t : ByteArray) (q k : Nat) (hk : k < t.size) (hq : q + k < l.length) (X : B32)
    (h : alo full l = X ^^^ thr (l.length - q - k) (alo 0#32 (t.data.toList.take k))) :
    alo full (l.set (q + k) (l[q + k] ^^^ t[k])) = X ^^^ thr (l.length - q - (k + 1)) (alo 0#32 (t.data.toList.take (k + 1))) := by
  rw [alo_set, h, alo_take _ t k hk, ← thr_succ', thr_xor, show l.length - q - (k + 1) + 1 = l.length - (q + k) by omega, show l.length - q - k = l.length - (q + k) by omega]
  ac_rfl

theorem xor_u8 (a b : UInt8) : bits .xor .u8 (a.toNat : Int) (b.toNat : Int) = ((a ^^^ b).toNat : Int) := by
  rw [u8_xor_nat _ _ a.toNat_lt b.toNat_lt, UInt8.toNat_xor]

theorem Turns.more {s t : ByteArray} {q : Nat} {w : World} {B k : Nat} {wr : World} {l : List UInt8} (hB : Bytes wr B l) (hl : l.length = s.size)
    (ha : alo full l = alo full s.data.toList ^^^ thr (s.size - q - k) (alo 0#32 (t.data.toList.take k))) (hb : Below w.heap.size w wr) (lo : w.heap.size ≤ B)
    (hk : k < t.size) (hq : q + k < l.length) :
    Turns s t q w B (k + 1) (wr.setCell ⟨B, q + k, none⟩ (.int .u8 ((l[q + k] ^^^ t[k]).toNat : Int))) := by
  refine ⟨hb.setCell lo _, lo, l.set (q + k) (l[q + k] ^^^ t[k]), hB.set _ hq _, by simpa using hl, ?_⟩
  rw [← hl] at ha ⊢
  exact turns_step l t q k hk hq _ ha
theorem Turns.drew {s t : ByteArray} {q : Nat} {w : World} {B k : Nat} {wr : World} (h : Turns s t q w B k wr) : Turns s t q w B k wr.drew := by
  obtain ⟨hb, lo, l, hB, r⟩ := h
  exact ⟨hb.drew, lo, l, ⟨hB.cell, hB.free, hB.lt⟩, r⟩

set_option maxHeartbeats 400000 in
theorem Turns_go (s t : ByteArray) (q : Nat) (ws : s.size ≤ maxLen) (wt : t.size ≤ maxLen) (w : World) (h1 : s.size ≤ 2000) (h2 : q + t.size ≤ s.size) :
    Calls Try.prog 5 #[.string s, .int .i64 (q : Int), .string t] w fun e w' => e = .returned (.bool true) ∧ Below w.heap.size w w' := by
  have hs := ws
  have ht := wt
  unfold maxLen at hs ht
  have hconv := bytes_conv s
  go_enter Try.func5, Try.ntmps5
  go_wp2_with fail
  clear hconv
  have hT : Turns s t q w w.heap.size 0 (w.alloc (.cells (bytesRow s (grownCap w s.size 0 5)) 5 ((bytesRow s (grownCap w s.size 0 5)).size, (bytesRow s (grownCap w s.size 0 5)).size + 1))).drew := by
    refine ⟨((Below.refl _ _).drew).alloc (Nat.le_refl _) _, Nat.le_refl _, s.data.toList, ?_, by simp, by rw [List.take_zero, alo_nil, thr_zero]; simp⟩
    exact bytes_made w.drew s _ _ (by simp [bytesRow])
  have HT := hid hT; clear hT
  generalize (w.alloc (.cells (bytesRow s (grownCap w s.size 0 5)) 5 ((bytesRow s (grownCap w s.size 0 5)).size, (bytesRow s (grownCap w s.size 0 5)).size + 1))).drew = w1 at HT ⊢
  generalize hB : w.heap.size = B at HT ⊢
  generalize grownCap w s.size 0 5 = cap
  clear hB
  go_loopw [8] (fun i wr => ∃ k : Nat, k ≤ t.size ∧ i = .int .i64 k ∧ Turns s t q w B k wr) (fun i _ => t.size - (intOf i).toNat)
  case atStart => exact ⟨0, by omega, rfl, HT.out⟩
  case round =>
    clear HT
    obtain ⟨k, hk, rfl, hb, lo, l, hB, hl, ha⟩ := hrel
    have HA := hid ha; clear ha
    have HB := hid hb; clear hb
    have HY := hid hB; clear hB
    have HL := hid hl; clear hl
    by_cases hlt : k < t.size
    · have hq : q + k < l.length := by have := HL.out; omega
      have hc := HY.out.cell (q + k) hq
      have hf := HY.out.free (q + k) hq
      go_wp2_with fail
      go_region
      rw [xor_u8]
      clear hc hf
      go_wp2_with fail
      go_roundw
      case rel => exact ⟨k + 1, by omega, by go_num, (Turns.more HY.out HL.out HA.out HB.out lo hlt hq).drew⟩
      case measure => simp [intOf]; omega
    · obtain rfl : k = t.size := by omega
      have e1 : turnedB (sumB s.data.toList) t.data.toList (s.size - q - t.size) = sumB l := by
        unfold sumB turnedB
        rw [HA.out, List.take_of_length_le (by simp)]; ac_rfl
      have hlen : l.length ≤ 2000 := by have := HL.out; omega
      have t1 := beq_U e1
      have t2 : (U (turnedB (turnedB (sumB s.data.toList) t.data.toList (s.size - q - t.size)) t.data.toList (s.size - q - t.size)) == U (sumB s.data.toList)) = true := beq_U (turned_twice _ _ _)
      rw [e1] at t2
      have E1 := hid e1; clear e1 t1
      have e0 : ((s.size : Int) - (q : Int) - (t.size : Int)).toNat = s.size - q - t.size := by omega
      have E0 := hid e0; clear e0
      go_wp2_with fail
      refine (sum_any _ _ ws).mono ?_; rintro e w1 ⟨rfl, rfl⟩
      go_wp2_with fail
      refine (turned_any _ _ _ _ wt (by omega)).mono ?_; rintro e w2 ⟨rfl, hb⟩; replace HB := on_below HB hb; have HY2 := hid (HY.out.below hb); clear hb
      rw [E0.out, E1.out]
      have hback := bytes_back HY2.out s.size cap HL.out
      go_wp2_with fail
      refine (sum_any _ _ (show l.toArray.size ≤ maxLen by unfold maxLen; simp; omega)).mono ?_; rintro e w1 ⟨rfl, rfl⟩
      go_wp2_with fail
      refine (turned_any _ _ _ _ wt (by omega)).mono ?_; rintro e w3 ⟨rfl, hb⟩; replace HB := on_below HB hb; clear hb
      rw [E0.out]
      clear hback
      go_wp2_with fail
      refine (live_any _).mono ?_; rintro e w4 ⟨rfl, hb⟩; replace HB := on_below HB hb; clear hb
      go_wp2_with fail
      go_ret
      exact ⟨rfl, HB.out⟩

set_option maxHeartbeats 400000 in
theorem Turns_live (s t : ByteArray) (z : Int) (ws : s.size ≤ maxLen) (wt : t.size ≤ maxLen) (wz : -9223372036854775808 ≤ z ∧ z ≤ 9223372036854775807) (w : World)
    (h : 2000 < s.size ∨ z < 0 ∨ (s.size : Int) < z ∨ (s.size : Int) - z < t.size) :
    Calls Try.prog 5 #[.string s, .int .i64 z, .string t] w fun e w' => e = .returned (.bool true) ∧ Below w.heap.size w w' := by
  have hs := ws
  have ht := wt
  unfold maxLen at hs ht
  have HB : Hid (Below w.heap.size w w) := hid (Below.refl _ _)
  by_cases h1 : 2000 < s.size
  · go_enter Try.func5, Try.ntmps5
    go_wp2_with (go_at_call 9; refine (live_any _).mono ?_; rintro e w' ⟨rfl, hb⟩; replace HB := on_below HB hb; clear hb)
    go_ret; exact ⟨rfl, HB.out⟩
  · by_cases h2 : z < 0
    · go_enter Try.func5, Try.ntmps5
      go_wp2_with (go_at_call 9; refine (live_any _).mono ?_; rintro e w' ⟨rfl, hb⟩; replace HB := on_below HB hb; clear hb)
      go_ret; exact ⟨rfl, HB.out⟩
    · by_cases h3 : (s.size : Int) < z
      · go_enter Try.func5, Try.ntmps5
        go_wp2_with (go_at_call 9; refine (live_any _).mono ?_; rintro e w' ⟨rfl, hb⟩; replace HB := on_below HB hb; clear hb)
        go_ret; exact ⟨rfl, HB.out⟩
      · have h4 : (s.size : Int) - z < t.size := by omega
        go_enter Try.func5, Try.ntmps5
        go_wp2_with (go_at_call 9; refine (live_any _).mono ?_; rintro e w' ⟨rfl, hb⟩; replace HB := on_below HB hb; clear hb)
        go_ret; exact ⟨rfl, HB.out⟩

theorem Sum32Turns_walk (s : ByteArray) (z : Int) (t : ByteArray) (w0 : s.size ≤ maxLen) (w1 : (Lit.int .i64 z).wf = true) (w2 : t.size ≤ maxLen) (w : World) :
    Calls Try.prog 5 #[.string s, .int .i64 z, .string t] w fun e w' => e = .returned (.bool true) ∧ Below w.heap.size w w' := by
  by_cases h : 2000 < s.size ∨ z < 0 ∨ (s.size : Int) < z ∨ (s.size : Int) - z < t.size
  · exact Turns_live s t z w0 w2 (wf_i64 w1) w h
  · obtain ⟨q, rfl⟩ := Int.eq_ofNat_of_zero_le (show 0 ≤ z by omega)
    exact Turns_go s t q w0 w2 w (by omega) (by omega)
end Go.Proofs.Ytmgagghlkopfcaa
