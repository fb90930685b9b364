/- The calls of package field on an area: what each returns, and what the area holds behind it. -/
import Derived.Test.YtigaddpjmgncmaaDoorFdCut
namespace Go.Proofs.YtigaddpjmgncmaaDoor.Fd
open Go.RowKit
open Go.Lib

theorem putAt_step (l t : List UInt8) (o k : Nat) (h : o + t.length ≤ l.length) (hk : k < t.length) :
    (putAt l o (t.take k)).set (o + k) t[k] = putAt l o (t.take (k + 1)) := by
  have h1 : o + (t.take k).length ≤ l.length := by simp; omega
  have h2 : o + (t.take (k + 1)).length ≤ l.length := by simp; omega
  apply List.ext_getElem?
  intro i
  rw [List.getElem?_set, putAt_at _ _ _ h1, putAt_at _ _ _ h2, putAt_length _ _ _ h1]
  simp only [List.length_take]
  rw [Nat.min_eq_left (by omega), Nat.min_eq_left (by omega)]
  by_cases e : o + k = i
  · subst e
    rw [if_pos rfl, if_pos (by omega), if_pos (by omega), Nat.add_sub_cancel_left, List.getElem?_take_of_lt (by omega), List.getElem?_eq_getElem hk]
  · rw [if_neg e]
    by_cases hi : o ≤ i ∧ i < o + k
    · rw [if_pos hi, if_pos (by omega), List.getElem?_take_of_lt (by omega), List.getElem?_take_of_lt (by omega)]
    · rw [if_neg hi, if_neg (by omega)]

theorem be_get (w n k : Nat) (h : k < (be w n).length) : (be w n)[k] = beB w n k := by
  have hk : k < w := by rw [be_length] at h; exact h
  have := be_at w n k hk
  rw [List.getElem?_eq_getElem h] at this
  exact Option.some.inj this

theorem upd_val {B i : Nat} {l : List UInt8} {w wr : World} {x y : Int} (h : Upd B l w (wr.setCell ⟨B, i, none⟩ (.int .u8 x))) (e : x = y) :
    Upd B l w (wr.setCell ⟨B, i, none⟩ (.int .u8 y)) := by rw [← e]; exact h

theorem beB_val (m n k : Nat) : (n : Int) / 2 ^ (8 * (m - 1 - k)) % 256 = ((beB m n k).toNat : Int) := by
  unfold beB
  rw [UInt8.toNat_ofNat']
  generalize m - 1 - k = j
  have e : (2 : Int) ^ (8 * j) = ((256 ^ j : Nat) : Int) := by
    rw [show (256 : Nat) = 2 ^ 8 from rfl, ← Nat.pow_mul]; simp
  rw [e]; simp

set_option maxHeartbeats 400000 in
theorem put_1 (A B : Nat) (l : List UInt8) (o n : Nat) (w : World) (ha : Area 73 w A B l) (h : o + 1 ≤ l.length) (hn : n < 256 ^ 1) :
    Calls Tryd.prog 20 #[.pointer (some ⟨A, 0, none⟩), .int .i64 (o : Int), .int .i64 1, .int .u32 (n : Int)] w fun e w' => e = .returned (.int .i64 0) ∧ Upd B (putAt l o (be 1 n)) w w' := by
  have hq : ((n : Int) / 256 != 0) = false := by
    have : (n : Int) / 256 = 0 := by omega
    rw [this]; rfl
  go_enter Tryd.func20, Tryd.ntmps20
  go_wp2_with (go_at_call 32; refine (number_ok A B l o 1 _ ha (by omega) h).mono ?_; rintro e w' ⟨rfl, rfl⟩)
  clear hq
  have HN := hid hn; clear hn
  go_loopw [11, 30] (fun _ i wr => ∃ k : Nat, k ≤ 1 ∧ i = .int .i64 k ∧ Upd B (putAt l o ((be 1 n).take k)) w wr) (fun _ i _ => 1 - (intOf i).toNat)
  case atStart => exact ⟨0, by omega, rfl, by rw [List.take_zero, putAt_none]; exact Upd.refl ha.row⟩
  case round =>
    obtain ⟨k, hk, rfl, hU⟩ := hrel
    have HU := hid hU; clear hU
    have HA := hid ha; clear ha
    by_cases hlt : k < 1
    · have hlen : o + k < (putAt l o ((be 1 n).take k)).length := by
        rw [putAt_length _ _ _ (by rw [List.length_take, be_length]; omega)]; omega
      have hc := HU.out.row.cell (o + k) hlen
      have hf := HU.out.row.free (o + k)
      have hv := beB_val 1 n k
      go_wp2_with fail
      go_roundw
      case rel =>
        refine ⟨k + 1, by omega, by go_num, ?_⟩
        have hkl : k < (be 1 n).length := by rw [be_length]; exact hlt
        have hs := putAt_step l (be 1 n) o k (by rw [be_length]; exact h) hkl
        rw [be_get] at hs
        have := HU.out.setCell (o + k) (beB 1 n k)
        rw [hs] at this
        first | exact this | exact upd_val this (by rw [← beB_val 1 n k, show (8 * -(k : Int)).toNat = 8 * (1 - 1 - k) by omega])
      case measure => simp [intOf]; omega
    · obtain rfl : k = 1 := by omega
      go_wp2_with fail
      go_ret
      exact ⟨rfl, by have := HU.out; rwa [List.take_of_length_le (by rw [be_length]; omega)] at this⟩

set_option maxHeartbeats 400000 in
theorem put_2 (A B : Nat) (l : List UInt8) (o n : Nat) (w : World) (ha : Area 73 w A B l) (h : o + 2 ≤ l.length) (hn : n < 256 ^ 2) :
    Calls Tryd.prog 20 #[.pointer (some ⟨A, 0, none⟩), .int .i64 (o : Int), .int .i64 2, .int .u32 (n : Int)] w fun e w' => e = .returned (.int .i64 0) ∧ Upd B (putAt l o (be 2 n)) w w' := by
  have hq : ((n : Int) / 65536 != 0) = false := by
    have : (n : Int) / 65536 = 0 := by omega
    rw [this]; rfl
  go_enter Tryd.func20, Tryd.ntmps20
  go_wp2_with (go_at_call 32; refine (number_ok A B l o 2 _ ha (by omega) h).mono ?_; rintro e w' ⟨rfl, rfl⟩)
  clear hq
  have HN := hid hn; clear hn
  go_loopw [11, 30] (fun _ i wr => ∃ k : Nat, k ≤ 2 ∧ i = .int .i64 k ∧ Upd B (putAt l o ((be 2 n).take k)) w wr) (fun _ i _ => 2 - (intOf i).toNat)
  case atStart => exact ⟨0, by omega, rfl, by rw [List.take_zero, putAt_none]; exact Upd.refl ha.row⟩
  case round =>
    obtain ⟨k, hk, rfl, hU⟩ := hrel
    have HU := hid hU; clear hU
    have HA := hid ha; clear ha
    by_cases hlt : k < 2
    · have hlen : o + k < (putAt l o ((be 2 n).take k)).length := by
        rw [putAt_length _ _ _ (by rw [List.length_take, be_length]; omega)]; omega
      have hc := HU.out.row.cell (o + k) hlen
      have hf := HU.out.row.free (o + k)
      have hv := beB_val 2 n k
      go_wp2_with fail
      go_roundw
      case rel =>
        refine ⟨k + 1, by omega, by go_num, ?_⟩
        have hkl : k < (be 2 n).length := by rw [be_length]; exact hlt
        have hs := putAt_step l (be 2 n) o k (by rw [be_length]; exact h) hkl
        rw [be_get] at hs
        have := HU.out.setCell (o + k) (beB 2 n k)
        rw [hs] at this
        first | exact this | exact upd_val this (by rw [← beB_val 2 n k, show (8 * -(k : Int)).toNat = 8 * (1 - 1 - k) by omega])
      case measure => simp [intOf]; omega
    · obtain rfl : k = 2 := by omega
      go_wp2_with fail
      go_ret
      exact ⟨rfl, by have := HU.out; rwa [List.take_of_length_le (by rw [be_length]; omega)] at this⟩

set_option maxHeartbeats 400000 in
theorem put_4 (A B : Nat) (l : List UInt8) (o n : Nat) (w : World) (ha : Area 73 w A B l) (h : o + 4 ≤ l.length) (hn : n < 256 ^ 4) :
    Calls Tryd.prog 20 #[.pointer (some ⟨A, 0, none⟩), .int .i64 (o : Int), .int .i64 4, .int .u32 (n : Int)] w fun e w' => e = .returned (.int .i64 0) ∧ Upd B (putAt l o (be 4 n)) w w' := by
  have hq : ((n : Int) / 4294967296 != 0) = false := by
    have : (n : Int) / 4294967296 = 0 := by omega
    rw [this]; rfl
  go_enter Tryd.func20, Tryd.ntmps20
  go_wp2_with (go_at_call 32; refine (number_ok A B l o 4 _ ha (by omega) h).mono ?_; rintro e w' ⟨rfl, rfl⟩)
  clear hq
  have HN := hid hn; clear hn
  go_loopw [11, 30] (fun _ i wr => ∃ k : Nat, k ≤ 4 ∧ i = .int .i64 k ∧ Upd B (putAt l o ((be 4 n).take k)) w wr) (fun _ i _ => 4 - (intOf i).toNat)
  case atStart => exact ⟨0, by omega, rfl, by rw [List.take_zero, putAt_none]; exact Upd.refl ha.row⟩
  case round =>
    obtain ⟨k, hk, rfl, hU⟩ := hrel
    have HU := hid hU; clear hU
    have HA := hid ha; clear ha
    by_cases hlt : k < 4
    · have hlen : o + k < (putAt l o ((be 4 n).take k)).length := by
        rw [putAt_length _ _ _ (by rw [List.length_take, be_length]; omega)]; omega
      have hc := HU.out.row.cell (o + k) hlen
      have hf := HU.out.row.free (o + k)
      have hv := beB_val 4 n k
      go_wp2_with fail
      go_roundw
      case rel =>
        refine ⟨k + 1, by omega, by go_num, ?_⟩
        have hkl : k < (be 4 n).length := by rw [be_length]; exact hlt
        have hs := putAt_step l (be 4 n) o k (by rw [be_length]; exact h) hkl
        rw [be_get] at hs
        have := HU.out.setCell (o + k) (beB 4 n k)
        rw [hs] at this
        first | exact this | exact upd_val this (by rw [← beB_val 4 n k, show (8 * -(k : Int)).toNat = 8 * (1 - 1 - k) by omega])
      case measure => simp [intOf]; omega
    · obtain rfl : k = 4 := by omega
      go_wp2_with fail
      go_ret
      exact ⟨rfl, by have := HU.out; rwa [List.take_of_length_le (by rw [be_length]; omega)] at this⟩

end Go.Proofs.YtigaddpjmgncmaaDoor.Fd
