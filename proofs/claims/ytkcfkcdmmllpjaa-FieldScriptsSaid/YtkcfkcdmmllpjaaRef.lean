/- The document's answer for areas, as the reference package computes it: what each of its calls returns, and what its area holds behind it. -/
import Derived.Test.YtkcfkcdmmllpjaaField2
namespace Go.Proofs.Ytkcfkcdmmllpjaa
open Go.RowKit
open Go.Lib

theorem ret_bool {a b : Bool} (h : a = b) : Ending.returned (.bool a) = .returned (.bool b) := by rw [h]

/-- the greatest number of so many bytes; 0: there are none of so many -/
def mostOf (wd : Int) : Int := if wd = 1 then 255 else if wd = 2 then 65535 else if wd = 4 then 4294967295 else 0

set_option maxHeartbeats 400000 in
theorem most_any (wd : Int) (w : World) :
    Calls Try.prog 25 #[.int .i64 wd] w fun e w' => e = .returned (.int .u32 (mostOf wd)) ∧ w = w' := by
  by_cases h1 : wd = 1
  · subst h1
    go_enter Try.func25, Try.ntmps25
    go_wp2_with fail
    go_ret; exact ⟨rfl, rfl⟩
  · by_cases h2 : wd = 2
    · subst h2
      go_enter Try.func25, Try.ntmps25
      go_wp2_with fail
      go_ret; exact ⟨rfl, rfl⟩
    · by_cases h4 : wd = 4
      · subst h4
        go_enter Try.func25, Try.ntmps25
        go_wp2_with fail
        go_ret; exact ⟨rfl, rfl⟩
      · have e : mostOf wd = 0 := by unfold mostOf; rw [if_neg h1, if_neg h2, if_neg h4]
        rw [e]
        have c1 : (wd == 1) = false := by rw [beq_eq_false_iff_ne]; exact h1
        have c2 : (wd == 2) = false := by rw [beq_eq_false_iff_ne]; exact h2
        have c4 : (wd == 4) = false := by rw [beq_eq_false_iff_ne]; exact h4
        clear h1 h2 h4 e
        go_enter Try.func25, Try.ntmps25
        go_wp2_with fail
        go_ret; exact ⟨rfl, rfl⟩

set_option maxHeartbeats 400000 in
theorem is_yes (A B : Nat) (l : List UInt8) (o n : Nat) (w : World) (ha : Area 44 w A B l) (h : o + n ≤ l.length) :
    Calls Try.prog 26 #[.pointer (some ⟨A, 0, none⟩), .int .i64 (o : Int), .int .i64 (n : Int)] w fun e w' => e = .returned (.bool true) ∧ w = w' := by
  have hc := ha.cell
  have hl := ha.len
  have h1 : (o : Int) ≤ (l.length : Int) := by omega
  have h2 : (n : Int) ≤ (l.length : Int) - (o : Int) := by omega
  go_enter Try.func26, Try.ntmps26
  go_wp2_with fail
  go_ret; exact ⟨rfl, rfl⟩
set_option maxHeartbeats 400000 in
theorem is_no (A B : Nat) (l : List UInt8) (o n : Int) (w : World) (ha : Area 44 w A B l) (h : ¬ isRange o n l.length) (ho : isInt o) (hn : isInt n) :
    Calls Try.prog 26 #[.pointer (some ⟨A, 0, none⟩), .int .i64 o, .int .i64 n] w fun e w' => e = .returned (.bool false) ∧ w = w' := by
  have hc := ha.cell
  have hl := ha.len
  unfold isRange at h
  unfold isInt at ho hn
  by_cases h1 : o < 0
  · clear h
    go_enter Try.func26, Try.ntmps26
    go_wp2_with fail
    go_ret; exact ⟨rfl, rfl⟩
  · by_cases h2 : n < 0
    · clear h
      go_enter Try.func26, Try.ntmps26
      go_wp2_with fail
      go_ret; exact ⟨rfl, rfl⟩
    · by_cases h3 : (l.length : Int) < o
      · clear h
        go_enter Try.func26, Try.ntmps26
        go_wp2_with fail
        go_ret; exact ⟨rfl, rfl⟩
      · have h4 : (l.length : Int) - o < n := by omega
        clear h
        go_enter Try.func26, Try.ntmps26
        go_wp2_with fail
        go_ret
        exact ⟨ret_bool (decide_eq_false (by omega)), rfl⟩
theorem putAt_back (l t : List UInt8) (o i : Nat) (h : o + t.length ≤ l.length) (hi : i < t.length) :
    (putAt l (o + (i + 1)) (t.drop (i + 1))).set (o + i) t[i] = putAt l (o + i) (t.drop i) := by
  have h1 : o + (i + 1) + (t.drop (i + 1)).length ≤ l.length := by simp; omega
  have h2 : o + i + (t.drop i).length ≤ l.length := by simp; omega
  apply List.ext_getElem?
  intro j
  rw [List.getElem?_set, putAt_at _ _ _ h1, putAt_at _ _ _ h2, putAt_length _ _ _ h1]
  simp only [List.length_drop]
  by_cases e : o + i = j
  · subst e
    rw [if_pos rfl, if_pos (by omega), if_pos (by omega), Nat.sub_self, List.getElem?_drop, Nat.add_zero, List.getElem?_eq_getElem hi]
  · rw [if_neg e]
    by_cases hj : o + i < j ∧ j < o + t.length
    · rw [if_pos (by omega), if_pos (by omega), List.getElem?_drop, List.getElem?_drop]; congr 1; omega
    · rw [if_neg (by omega), if_neg (by omega)]

theorem mostOf_wide {wd : Nat} (h : wd = 1 ∨ wd = 2 ∨ wd = 4) : mostOf wd = (256 ^ wd : Nat) - 1 := by
  rcases h with rfl | rfl | rfl <;> rfl
theorem mostOf_narrow {wd : Int} (h : ¬ wide wd) : mostOf wd = 0 := by
  unfold wide at h; unfold mostOf
  rw [if_neg (by omega), if_neg (by omega), if_neg (by omega)]

set_option maxHeartbeats 400000 in
theorem refPut_narrow (p : Value) (o wd n : Int) (w : World) (h : ¬ wide wd) :
    Calls Try.prog 12 #[p, .int .i64 o, .int .i64 wd, .int .u32 n] w fun e w' => e = .returned (.int .i64 1) ∧ w = w' := by
  have hm := most_any wd w
  rw [mostOf_narrow h] at hm
  have HM := hid hm; clear hm h
  go_enter Try.func12, Try.ntmps12
  go_wp2_with (go_at_call 25; refine (HM.out).mono ?_; rintro e w' ⟨rfl, rfl⟩)
  go_ret; exact ⟨rfl, rfl⟩

/-- so wide a number has a greatest one -/
theorem most_ne {wd : Nat} (h : wd = 1 ∨ wd = 2 ∨ wd = 4) : (mostOf wd == 0) = false := by
  rcases h with rfl | rfl | rfl <;> rfl
theorem most_lt {wd : Nat} (h : wd = 1 ∨ wd = 2 ∨ wd = 4) (n : Nat) : mostOf wd < (n : Int) ↔ ¬ n < 256 ^ wd := by
  rcases h with rfl | rfl | rfl <;> simp [mostOf] <;> omega

set_option maxHeartbeats 400000 in
theorem refPut_far (A B : Nat) (l : List UInt8) (o : Int) (wd : Nat) (n : Int) (w : World) (ha : Area 44 w A B l) (hw : wd = 1 ∨ wd = 2 ∨ wd = 4) (h : ¬ isRange o wd l.length) (ho : isInt o) :
    Calls Try.prog 12 #[.pointer (some ⟨A, 0, none⟩), .int .i64 o, .int .i64 (wd : Int), .int .u32 n] w fun e w' => e = .returned (.int .i64 1) ∧ w = w' := by
  have H := hid (is_no A B l o wd w ha h ho (by unfold isInt; omega)); clear h ha ho
  have hne := most_ne hw
  clear hw
  go_enter Try.func12, Try.ntmps12
  go_wp2_with (first
    | (go_at_call 25; refine (most_any _ _).mono ?_; rintro e w' ⟨rfl, rfl⟩)
    | (go_at_call 26; refine (H.out).mono ?_; rintro e w' ⟨rfl, rfl⟩))
  go_ret; exact ⟨rfl, rfl⟩

set_option maxHeartbeats 400000 in
theorem refPut_great (A B : Nat) (l : List UInt8) (o wd n : Nat) (w : World) (ha : Area 44 w A B l) (hw : wd = 1 ∨ wd = 2 ∨ wd = 4) (h : o + wd ≤ l.length) (hn : ¬ n < 256 ^ wd) :
    Calls Try.prog 12 #[.pointer (some ⟨A, 0, none⟩), .int .i64 (o : Int), .int .i64 (wd : Int), .int .u32 (n : Int)] w fun e w' => e = .returned (.int .i64 1) ∧ w = w' := by
  have hne := most_ne hw
  have hlt := (most_lt hw n).2 hn
  clear hw hn
  generalize hm : mostOf wd = m at hne hlt
  have HM := hid hm; clear hm
  go_enter Try.func12, Try.ntmps12
  go_wp2_with (first
    | (go_at_call 25; refine (most_any _ _).mono ?_; rintro e w' ⟨rfl, rfl⟩; rw [HM.out])
    | (go_at_call 26; refine (is_yes A B l o wd _ ha h).mono ?_; rintro e w' ⟨rfl, rfl⟩))
  go_ret; exact ⟨rfl, rfl⟩

set_option maxHeartbeats 1000000 in
theorem refPut_ok (A B : Nat) (l : List UInt8) (o wd n : Nat) (w : World) (ha : Area 44 w A B l) (hw : wd = 1 ∨ wd = 2 ∨ wd = 4) (h : o + wd ≤ l.length) (hn : n < 256 ^ wd) :
    Calls Try.prog 12 #[.pointer (some ⟨A, 0, none⟩), .int .i64 (o : Int), .int .i64 (wd : Int), .int .u32 (n : Int)] w fun e w' => e = .returned (.int .i64 0) ∧ Upd B (putAt l o (be wd n)) w w' := by
  have hne := most_ne hw
  have hlt : ¬ mostOf wd < (n : Int) := fun c => (most_lt hw n).1 c hn
  have hwd : 1 ≤ wd ∧ wd ≤ 4 := by omega
  have hlen := ha.len
  have hn32 : n < 4294967296 := by
    have : 256 ^ wd ≤ 256 ^ 4 := Nat.pow_le_pow_right (by decide) hwd.2
    omega
  generalize hm : mostOf wd = m at hne hlt
  have HM := hid hm; clear hm
  have HN := hid hn; clear hn
  have HW := hid hw; clear hw
  have HA := hid ha; clear ha
  go_enter Try.func12, Try.ntmps12
  go_wp2_with (first
    | (go_at_call 25; refine (most_any _ _).mono ?_; rintro e w' ⟨rfl, rfl⟩; rw [HM.out])
    | (go_at_call 26; refine (is_yes A B l o wd _ HA.out h).mono ?_; rintro e w' ⟨rfl, rfl⟩))
  clear hne hlt
  go_loopw [3, 9] (fun x i wr => ∃ k : Nat, k ≤ wd ∧ i = .int .i64 ((k : Int) - 1) ∧ x = .int .u32 (n / 256 ^ (wd - k) : Nat) ∧ Upd B (putAt l (o + k) ((be wd n).drop k)) w wr) (fun _ i _ => (intOf i + 1).toNat)
  case atStart =>
    refine ⟨wd, Nat.le_refl _, rfl, by simp, ?_⟩
    rw [List.drop_of_length_le (by rw [be_length]; exact Nat.le_refl _), putAt_none]
    exact Upd.refl HA.out.row
  case round =>
    obtain ⟨k, hk, rfl, rfl, hU⟩ := hrel
    have HU := hid hU; clear hU
    have hx : n / 256 ^ (wd - k) < 4294967296 := Nat.lt_of_le_of_lt (Nat.div_le_self _ _) hn32
    generalize hxv : n / 256 ^ (wd - k) = x at hx
    have HX := hid hxv; clear hxv
    by_cases hlt : 0 < k
    · obtain ⟨j, rfl⟩ : ∃ j, k = j + 1 := ⟨k - 1, by omega⟩
      have hfit : o + (j + 1) + ((be wd n).drop (j + 1)).length ≤ l.length := by simp [be_length]; omega
      have hj : o + j < (putAt l (o + (j + 1)) ((be wd n).drop (j + 1))).length := by rw [putAt_length _ _ _ hfit]; omega
      have hptr := (HA.out.upd HU.out (putAt_length _ _ _ hfit)).cell
      rw [putAt_length _ _ _ hfit] at hptr
      have hc := HU.out.row.cell (o + j) hj
      have hf := HU.out.row.free (o + j)
      go_wp2_with fail
      go_roundw
      case rel =>
        refine ⟨j, by omega, by go_num, ?_, ?_⟩
        · rw [← HX.out, show wd - j = wd - (j + 1) + 1 by omega, Nat.pow_succ, ← Nat.div_div_eq_div_mul]; simp
        · have hjl : j < (be wd n).length := by rw [be_length]; omega
          have hs := putAt_back l (be wd n) o j (by rw [be_length]; exact h) hjl
          rw [be_get] at hs
          have := HU.out.setCell (o + j) (beB wd n j)
          rw [hs] at this
          refine upd_val this ?_
          unfold beB
          rw [UInt8.toNat_ofNat', show wd - 1 - j = wd - (j + 1) by omega, HX.out]; simp
      case measure => simp [intOf]
    · obtain rfl : k = 0 := by omega
      go_wp2_with fail
      go_ret
      exact ⟨rfl, by have := HU.out; rwa [List.drop_zero, Nat.add_zero] at this⟩

set_option maxHeartbeats 400000 in
theorem refGet_narrow (p : Value) (o wd : Int) (w : World) (h : ¬ wide wd) :
    Calls Try.prog 14 #[p, .int .i64 o, .int .i64 wd] w fun e w' => e = .returned (.tuple #[.int .u32 0, .int .i64 1]) ∧ w = w' := by
  have hm := most_any wd w
  rw [mostOf_narrow h] at hm
  have HM := hid hm; clear hm h
  go_enter Try.func14, Try.ntmps14
  go_wp2_with (go_at_call 25; refine (HM.out).mono ?_; rintro e w' ⟨rfl, rfl⟩)
  go_ret2; exact ⟨rfl, rfl⟩
set_option maxHeartbeats 400000 in
theorem refGet_far (A B : Nat) (l : List UInt8) (o : Int) (wd : Nat) (w : World) (ha : Area 44 w A B l) (hw : wd = 1 ∨ wd = 2 ∨ wd = 4) (h : ¬ isRange o wd l.length) (ho : isInt o) :
    Calls Try.prog 14 #[.pointer (some ⟨A, 0, none⟩), .int .i64 o, .int .i64 (wd : Int)] w fun e w' => e = .returned (.tuple #[.int .u32 0, .int .i64 1]) ∧ w = w' := by
  have H := hid (is_no A B l o wd w ha h ho (by unfold isInt; omega)); clear h ha ho
  have hne := most_ne hw
  clear hw
  go_enter Try.func14, Try.ntmps14
  go_wp2_with (first
    | (go_at_call 25; refine (most_any _ _).mono ?_; rintro e w' ⟨rfl, rfl⟩)
    | (go_at_call 26; refine (H.out).mono ?_; rintro e w' ⟨rfl, rfl⟩))
  go_ret2; exact ⟨rfl, rfl⟩

theorem add_byte (x : Nat) (b : UInt8) (h : x < 16777216) : (256 * (x : Int) % 4294967296 + (b.toNat : Int) % 4294967296) % 4294967296 = ((256 * x + b.toNat : Nat) : Int) := by
  have hb := b.toNat_lt
  omega

set_option maxHeartbeats 400000 in
theorem refGet_ok (A B : Nat) (l : List UInt8) (o wd : Nat) (w : World) (ha : Area 44 w A B l) (hw : wd = 1 ∨ wd = 2 ∨ wd = 4) (h : o + wd ≤ l.length) :
    Calls Try.prog 14 #[.pointer (some ⟨A, 0, none⟩), .int .i64 (o : Int), .int .i64 (wd : Int)] w fun e w' => e = .returned (.tuple #[.int .u32 (num (getAt l o wd) : Int), .int .i64 0]) ∧ w = w' := by
  have hwd : wd ≤ 4 := by omega
  have hlen := ha.len
  have hne := most_ne hw
  have hptr := ha.cell
  have HW := hid hw; clear hw
  have HA := hid ha; clear ha
  go_enter Try.func14, Try.ntmps14
  go_wp2_with (first
    | (go_at_call 25; refine (most_any _ _).mono ?_; rintro e w' ⟨rfl, rfl⟩)
    | (go_at_call 26; refine (is_yes A B l o wd _ HA.out h).mono ?_; rintro e w' ⟨rfl, rfl⟩))
  clear hne
  go_loop [8, 9] (fun x i => ∃ k : Nat, k ≤ wd ∧ i = .int .i64 k ∧ x = .int .u32 (num ((getAt l o wd).take k) : Int)) (fun _ i => wd - (intOf i).toNat)
  case atStart => exact ⟨0, by omega, rfl, rfl⟩
  case round =>
    obtain ⟨k, hk, rfl, rfl⟩ := hrel
    by_cases hlt : k < wd
    · have hc := HA.out.row.cell (o + k) (by omega)
      have hs := num_small (getAt l o wd) k (by omega)
      have hnt := num_take l o wd k h hlt
      generalize num ((getAt l o wd).take k) = x at hs hnt ⊢
      have HT := hid hnt; clear hnt
      have hb := (l[o + k]'(by omega)).toNat_lt
      go_wp2_with fail
      go_round
      case rel => exact ⟨k + 1, by omega, by go_num, by rw [HT.out]; go_num⟩
      case measure => simp [intOf]; omega
    · obtain rfl : k = wd := by omega
      have hg := getAt_length l o k h
      go_wp2_with fail
      rw [List.take_of_length_le (by omega)]
      go_ret2
      exact ⟨rfl, rfl⟩

set_option maxHeartbeats 400000 in
theorem refPutText_no (p : Value) (o : Int) (s : ByteArray) (w : World)
    (h : Calls Try.prog 26 #[p, .int .i64 o, .int .i64 (s.size : Int)] w fun e w' => e = .returned (.bool false) ∧ w = w') :
    Calls Try.prog 16 #[p, .int .i64 o, .string s] w fun e w' => e = .returned (.int .i64 1) ∧ w = w' := by
  have H := hid h; clear h
  go_enter Try.func16, Try.ntmps16
  go_wp2_with (go_at_call 26; refine (H.out).mono ?_; rintro e w' ⟨rfl, rfl⟩)
  go_ret; exact ⟨rfl, rfl⟩

set_option maxHeartbeats 1000000 in
theorem refPutText_ok (A B : Nat) (l : List UInt8) (o : Nat) (s : ByteArray) (w : World) (ha : Area 44 w A B l) (h : o + s.size ≤ l.length) :
    Calls Try.prog 16 #[.pointer (some ⟨A, 0, none⟩), .int .i64 (o : Int), .string s] w fun e w' => e = .returned (.int .i64 0) ∧ Upd B (putAt l o s.data.toList) w w' := by
  have hlen := ha.len
  have HS := hid (size_list s)
  have HA := hid ha; clear ha
  go_enter Try.func16, Try.ntmps16
  go_wp2_with (go_at_call 26; refine (is_yes A B l o s.size _ HA.out h).mono ?_; rintro e w' ⟨rfl, rfl⟩)
  go_loopw [7] (fun i wr => ∃ k : Nat, k ≤ s.size ∧ i = .int .i64 k ∧ Upd B (putAt l o (s.data.toList.take k)) w wr) (fun i _ => s.size - (intOf i).toNat)
  case atStart => exact ⟨0, by omega, rfl, by rw [List.take_zero, putAt_none]; exact Upd.refl HA.out.row⟩
  case round =>
    obtain ⟨k, hk, rfl, hU⟩ := hrel
    have HU := hid hU; clear hU
    by_cases hlt : k < s.size
    · have hfit : o + (s.data.toList.take k).length ≤ l.length := by rw [List.length_take, HS.out]; omega
      have hj : o + k < (putAt l o (s.data.toList.take k)).length := by rw [putAt_length _ _ _ hfit]; omega
      have hptr := (HA.out.upd HU.out (putAt_length _ _ _ hfit)).cell
      rw [putAt_length _ _ _ hfit] at hptr
      obtain ⟨v, hc⟩ : ∃ v, wr.cell? ⟨B, o + k, none⟩ = some v := ⟨_, HU.out.row.cell (o + k) hj⟩
      have hf := HU.out.row.free (o + k)
      have hol : o + k < l.length := by omega
      have HJ := hid hj; clear hj
      have HF := hid hfit; clear hfit
      go_wp2_with fail
      go_region
      clear hptr hc hf
      go_wp2_with fail
      go_roundw
      case rel =>
        refine ⟨k + 1, by omega, by go_num, ?_⟩
        have hkl : k < s.data.toList.length := by rw [HS.out]; exact hlt
        have hs := putAt_step l s.data.toList o k (by rw [HS.out]; exact h) hkl
        have := HU.out.setCell (o + k) (s.data.toList[k])
        rw [hs] at this
        exact this.drew
      case measure => simp [intOf]; omega
    · obtain rfl : k = s.size := by omega
      go_wp2_with fail
      go_ret
      exact ⟨rfl, by have := HU.out; rwa [List.take_of_length_le (by rw [HS.out]; exact Nat.le_refl _)] at this⟩

set_option maxHeartbeats 400000 in
theorem refGetText_no (p : Value) (o n : Int) (w : World)
    (h : Calls Try.prog 26 #[p, .int .i64 o, .int .i64 n] w fun e w' => e = .returned (.bool false) ∧ w = w') :
    Calls Try.prog 18 #[p, .int .i64 o, .int .i64 n] w fun e w' => e = .returned (.tuple #[.string ⟨#[]⟩, .int .i64 1]) ∧ w = w' := by
  have H := hid h; clear h
  go_enter Try.func18, Try.ntmps18
  go_wp2_with (go_at_call 26; refine (H.out).mono ?_; rintro e w' ⟨rfl, rfl⟩)
  go_ret2; exact ⟨rfl, rfl⟩

set_option maxHeartbeats 400000 in
theorem refGetText_ok (A B : Nat) (l : List UInt8) (o n : Nat) (w : World) (ha : Area 44 w A B l) (h : o + n ≤ l.length) :
    Calls Try.prog 18 #[.pointer (some ⟨A, 0, none⟩), .int .i64 (o : Int), .int .i64 (n : Int)] w fun e w' => e = .returned (.tuple #[.string ⟨(getAt l o n).toArray⟩, .int .i64 0]) ∧ w = w' := by
  have hlen := ha.len
  have hptr := ha.cell
  by_cases c : o = l.length
  · obtain rfl : n = 0 := by omega
    subst c
    have hb := back_none w B 0 0
    rw [getAt_none]
    have HA := hid ha; clear ha
    go_enter Try.func18, Try.ntmps18
    go_wp2_with (go_at_call 26; refine (is_yes A B l _ 0 _ HA.out h).mono ?_; rintro e w' ⟨rfl, rfl⟩)
    go_ret2; exact ⟨rfl, rfl⟩
  · have hb := back_run ha.row o n (l.length - o) h
    have c' : ¬ l.length = o := fun e => c e.symm
    have HA := hid ha; clear ha
    generalize (getAt l o n).toArray = t at hb ⊢
    go_enter Try.func18, Try.ntmps18
    go_wp2_with (go_at_call 26; refine (is_yes A B l o n _ HA.out h).mono ?_; rintro e w' ⟨rfl, rfl⟩)
    go_ret2; exact ⟨rfl, rfl⟩

set_option maxHeartbeats 400000 in
theorem refMove_no1 (p : Value) (o f n : Int) (w : World)
    (h : Calls Try.prog 26 #[p, .int .i64 o, .int .i64 n] w fun e w' => e = .returned (.bool false) ∧ w = w') :
    Calls Try.prog 20 #[p, .int .i64 o, .int .i64 f, .int .i64 n] w fun e w' => e = .returned (.int .i64 1) ∧ w = w' := by
  have H := hid h; clear h
  go_enter Try.func20, Try.ntmps20
  go_wp2_with (go_at_call 26; refine (H.out).mono ?_; rintro e w' ⟨rfl, rfl⟩)
  go_ret; exact ⟨rfl, rfl⟩
set_option maxHeartbeats 400000 in
theorem refMove_no2 (p : Value) (o f n : Int) (w : World)
    (h : Calls Try.prog 26 #[p, .int .i64 o, .int .i64 n] w fun e w' => e = .returned (.bool true) ∧ w = w')
    (g : Calls Try.prog 26 #[p, .int .i64 f, .int .i64 n] w fun e w' => e = .returned (.bool false) ∧ w = w') :
    Calls Try.prog 20 #[p, .int .i64 o, .int .i64 f, .int .i64 n] w fun e w' => e = .returned (.int .i64 1) ∧ w = w' := by
  have H := hid h; clear h
  have G := hid g; clear g
  go_enter Try.func20, Try.ntmps20
  go_wp2_with fail
  refine (H.out).mono ?_; rintro e w' ⟨rfl, rfl⟩
  go_wp2_with fail
  refine (G.out).mono ?_; rintro e w' ⟨rfl, rfl⟩
  go_wp2_with fail
  go_ret; exact ⟨rfl, rfl⟩

theorem size_mk (t : List UInt8) : (⟨t.toArray⟩ : ByteArray).size = t.length := by
  rw [← size_list]

set_option maxHeartbeats 400000 in
theorem refMove_ok (A B : Nat) (l : List UInt8) (o f n : Nat) (w : World) (ha : Area 44 w A B l) (h : o + n ≤ l.length) (hf : f + n ≤ l.length) :
    Calls Try.prog 20 #[.pointer (some ⟨A, 0, none⟩), .int .i64 (o : Int), .int .i64 (f : Int), .int .i64 (n : Int)] w fun e w' => e = .returned (.int .i64 0) ∧ Upd B (putAt l o (getAt l f n)) w w' := by
  have hlen := ha.len
  have hptr := ha.cell
  have hput := refPutText_ok A B l o ⟨(getAt l f n).toArray⟩ w ha (by rw [size_mk, getAt_length _ _ _ hf]; exact h)
  have hdl : (⟨(getAt l f n).toArray⟩ : ByteArray).data.toList = getAt l f n := rfl
  rw [hdl] at hput
  by_cases c : f = l.length
  · obtain rfl : n = 0 := by omega
    subst c
    have hb := back_none w B 0 0
    rw [getAt_none] at hput ⊢
    have HA := hid ha; clear ha hdl
    have HP := hid hput; clear hput
    go_enter Try.func20, Try.ntmps20
    go_wp2_with fail
    refine (is_yes A B l o 0 _ HA.out h).mono ?_; rintro e w' ⟨rfl, rfl⟩
    go_wp2_with fail
    refine (is_yes A B l _ 0 _ HA.out hf).mono ?_; rintro e w' ⟨rfl, rfl⟩
    go_wp2_with fail
    refine (HP.out).mono ?_; rintro e w' ⟨rfl, hU⟩
    have HU := hid hU; clear hU
    go_wp2_with fail
    go_ret; exact ⟨rfl, HU.out⟩
  · have hb := back_run ha.row f n (l.length - f) hf
    have c' : ¬ l.length = f := fun e => c e.symm
    have HA := hid ha; clear ha hdl
    have HP := hid hput; clear hput
    generalize (getAt l f n).toArray = t at hb HP
    go_enter Try.func20, Try.ntmps20
    go_wp2_with fail
    refine (is_yes A B l o n _ HA.out h).mono ?_; rintro e w' ⟨rfl, rfl⟩
    go_wp2_with fail
    refine (is_yes A B l f n _ HA.out hf).mono ?_; rintro e w' ⟨rfl, rfl⟩
    go_wp2_with fail
    refine (HP.out).mono ?_; rintro e w' ⟨rfl, hU⟩
    have HU := hid hU; clear hU
    go_wp2_with fail
    go_ret; exact ⟨rfl, HU.out⟩
end Go.Proofs.Ytkcfkcdmmllpjaa
