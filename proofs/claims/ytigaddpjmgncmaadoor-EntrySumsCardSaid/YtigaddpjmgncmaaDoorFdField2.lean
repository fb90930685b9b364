/- The calls of package field on an area, all cases: what each returns, and what the area holds behind it. -/
import Derived.Test.YtigaddpjmgncmaaDoorFdField
import Derived.Laws.BitsAllLaws
namespace Go.Proofs.YtigaddpjmgncmaaDoor.Fd
open Go.RowKit
open Go.Lib

/-- an int's range -/
def isInt (x : Int) : Prop := -9223372036854775808 ≤ x ∧ x ≤ 9223372036854775807

set_option maxHeartbeats 400000 in
theorem put_bad (p : Value) (o wd n : Int) (w : World)
    (h : Calls Tryd.prog 32 #[p, .int .i64 o, .int .i64 wd] w fun e w' => e = .returned (.tuple #[.slice none 0 0, .bool false]) ∧ w = w') :
    Calls Tryd.prog 20 #[p, .int .i64 o, .int .i64 wd, .int .u32 n] w fun e w' => e = .returned (.int .i64 1) ∧ w = w' := by
  have H := hid h; clear h
  go_enter Tryd.func20, Tryd.ntmps20
  go_wp2_with (go_at_call 32; refine (H.out).mono ?_; rintro e w' ⟨rfl, rfl⟩)
  go_ret
  exact ⟨rfl, rfl⟩

theorem quo_ne {n : Int} {P : Int} (hP : 0 < P) (h : P ≤ n) : (n / P != 0) = true := by
  have : 1 ≤ n / P := (Int.le_ediv_iff_mul_le hP).2 (by omega)
  rw [bne_iff_ne]; omega

set_option maxHeartbeats 400000 in
theorem put_great (A B : Nat) (l : List UInt8) (o wd : Nat) (n : Int) (w : World) (ha : Area 73 w A B l) (hw : wd = 1 ∨ wd = 2 ∨ wd = 4) (h : o + wd ≤ l.length) (hn : (256 : Int) ^ wd ≤ n) :
    Calls Tryd.prog 20 #[.pointer (some ⟨A, 0, none⟩), .int .i64 (o : Int), .int .i64 (wd : Int), .int .u32 n] w fun e w' => e = .returned (.int .i64 1) ∧ w = w' := by
  rcases hw with rfl | rfl | rfl
  · have hq : (n / 256 != 0) = true := quo_ne (by omega) hn
    clear hn
    go_enter Tryd.func20, Tryd.ntmps20
    go_wp2_with (go_at_call 32; refine (number_ok A B l o 1 _ ha (by omega) h).mono ?_; rintro e w' ⟨rfl, rfl⟩)
    go_ret
    exact ⟨rfl, rfl⟩
  · have hq : (n / 65536 != 0) = true := quo_ne (by omega) hn
    clear hn
    go_enter Tryd.func20, Tryd.ntmps20
    go_wp2_with (go_at_call 32; refine (number_ok A B l o 2 _ ha (by omega) h).mono ?_; rintro e w' ⟨rfl, rfl⟩)
    go_ret
    exact ⟨rfl, rfl⟩
  · have hq : (n / 4294967296 != 0) = true := quo_ne (by omega) hn
    clear hn
    go_enter Tryd.func20, Tryd.ntmps20
    go_wp2_with (go_at_call 32; refine (number_ok A B l o 4 _ ha (by omega) h).mono ?_; rintro e w' ⟨rfl, rfl⟩)
    go_ret
    exact ⟨rfl, rfl⟩

theorem or_byte (x : Nat) (b : UInt8) (h : x < 16777216) : bits .or .u32 (((x : Int) * 256) % 4294967296) ((b.toNat : Int) % 4294967296) = ((256 * x + b.toNat : Nat) : Int) := by
  have hb := b.toNat_lt
  have e1 : ((x : Int) * 256) % 4294967296 = ((256 * x : Nat) : Int) := by omega
  have e2 : ((b.toNat : Int)) % 4294967296 = ((b.toNat : Nat) : Int) := by omega
  rw [e1, e2, u32_or_nat _ _ (by omega) (by omega), nat_join 8 (256 * x) b.toNat (by omega) (by omega)]

theorem num_take (l : List UInt8) (o n k : Nat) (h : o + n ≤ l.length) (hk : k < n) :
    num ((getAt l o n).take (k + 1)) = 256 * num ((getAt l o n).take k) + (l[o + k]'(by omega)).toNat := by
  have hl := getAt_length l o n h
  have e := getAt_at l o n k
  rw [if_pos hk, List.getElem?_eq_getElem (by omega), List.getElem?_eq_getElem (by omega)] at e
  rw [List.take_succ_eq_append_getElem (by omega), num_snoc, Option.some.inj e]
theorem num_small (l : List UInt8) (k : Nat) (h : k ≤ 3) : num (l.take k) < 16777216 := by
  have h1 := num_lt (l.take k)
  have h2 : (l.take k).length ≤ 3 := by simp; omega
  exact Nat.lt_of_lt_of_le h1 (Nat.pow_le_pow_right (by decide) h2)

set_option maxHeartbeats 400000 in
theorem get_ok (A B : Nat) (l : List UInt8) (o wd : Nat) (w : World) (ha : Area 73 w A B l) (hw : wd = 1 ∨ wd = 2 ∨ wd = 4) (h : o + wd ≤ l.length) :
    Calls Tryd.prog 40 #[.pointer (some ⟨A, 0, none⟩), .int .i64 (o : Int), .int .i64 (wd : Int)] w fun e w' => e = .returned (.tuple #[.int .u32 (num (getAt l o wd) : Int), .int .i64 0]) ∧ w = w' := by
  have hwd : wd ≤ 4 := by omega
  have hlen := ha.len
  go_enter Tryd.func40, Tryd.ntmps40
  go_wp2_with (go_at_call 32; refine (number_ok A B l o wd _ ha hw h).mono ?_; rintro e w' ⟨rfl, rfl⟩)
  have HW := hid hw; clear hw
  have HA := hid ha; clear ha
  go_loop [10, 12, 24] (fun x _ i => ∃ k : Nat, k ≤ wd ∧ i = .int .i64 k ∧ x = .int .u32 (num ((getAt l o wd).take k) : Int)) (fun _ _ i => wd - (intOf i).toNat)
  case atStart => exact ⟨0, by omega, rfl, rfl⟩
  case round =>
    obtain ⟨k, hk, rfl, rfl⟩ := hrel
    by_cases hlt : k < wd
    · have hc := HA.out.row.cell (o + k) (by omega)
      go_wp2_with fail
      go_round
      case rel => exact ⟨k + 1, by omega, by go_num, by rw [or_byte _ _ (num_small _ k (by omega)), num_take l o wd k h hlt]⟩
      case measure => simp [intOf]; omega
    · obtain rfl : k = wd := by omega
      have hg := getAt_length l o k h
      go_wp2_with fail
      rw [List.take_of_length_le (by omega)]
      go_ret2
      exact ⟨rfl, rfl⟩

set_option maxHeartbeats 400000 in
theorem get_bad (p : Value) (o wd : Int) (w : World)
    (h : Calls Tryd.prog 32 #[p, .int .i64 o, .int .i64 wd] w fun e w' => e = .returned (.tuple #[.slice none 0 0, .bool false]) ∧ w = w') :
    Calls Tryd.prog 40 #[p, .int .i64 o, .int .i64 wd] w fun e w' => e = .returned (.tuple #[.int .u32 0, .int .i64 1]) ∧ w = w' := by
  have H := hid h; clear h
  go_enter Tryd.func40, Tryd.ntmps40
  go_wp2_with (go_at_call 32; refine (H.out).mono ?_; rintro e w' ⟨rfl, rfl⟩)
  go_ret2
  exact ⟨rfl, rfl⟩

theorem size_list (s : ByteArray) : s.data.toList.length = s.size := by simp

set_option maxHeartbeats 400000 in
theorem putText_ok (A B : Nat) (l : List UInt8) (o : Nat) (s : ByteArray) (w : World) (ha : Area 73 w A B l) (h : o + s.size ≤ l.length) :
    Calls Tryd.prog 21 #[.pointer (some ⟨A, 0, none⟩), .int .i64 (o : Int), .string s] w fun e w' => e = .returned (.int .i64 0) ∧ Upd B (putAt l o s.data.toList) w w' := by
  have hlen := ha.len
  have hsz := size_list s
  by_cases h0 : s.size = 0
  · have e : putAt l o s.data.toList = l := by
      rw [List.eq_nil_of_length_eq_zero (hsz.trans h0), putAt_none]
    rw [e]
    have hcp : ∀ ty, (Builtin.copy_ #[48, 9] ty #[.slice (some ⟨B, cutAt o s.size, none⟩) s.size s.size, .string s]).run Tryd.prog w = .ok (goInt 0) w := fun ty =>
      run_copy_empty_string (P := Tryd.prog) w 48 9 ty 5 _ _ _ s Tryd.underlying48 (by rw [size5]; rfl) h0
    have HZ := hid h0; clear h0 hsz e
    go_enter Tryd.func21, Tryd.ntmps21
    go_wp2_with (go_at_call 33; refine (cut_ok A B l o s.size _ ha h).mono ?_; rintro e w' ⟨rfl, rfl⟩)
    go_ret
    exact ⟨rfl, Upd.refl ha.row⟩
  · have e0 : cutAt o s.size = o := by unfold cutAt; rw [if_neg h0]
    have hcp : ∀ ty, (Builtin.copy_ #[48, 9] ty #[.slice (some ⟨B, cutAt o s.size, none⟩) s.size s.size, .string s]).run Tryd.prog w = .ok (goInt s.size) (w.setRow B (rowOf (putAt l o s.data.toList))) := fun ty => by
      rw [e0, run_copy_row_string (P := Tryd.prog) w 48 9 ty 5 B o s.size s.size s (rowOf l) 5 Tryd.underlying48 size5 ha.row (Nat.le_refl _) (by rw [rowOf_size]; exact h), ← hsz, rowOf_put]
    clear e0 hsz
    go_enter Tryd.func21, Tryd.ntmps21
    go_wp2_with (go_at_call 33; refine (cut_ok A B l o s.size _ ha h).mono ?_; rintro e w' ⟨rfl, rfl⟩)
    go_ret
    exact ⟨rfl, (Upd.refl ha.row).setRow _⟩

set_option maxHeartbeats 400000 in
theorem putText_bad (p : Value) (o : Int) (s : ByteArray) (w : World)
    (h : Calls Tryd.prog 33 #[p, .int .i64 o, .int .i64 (s.size : Int)] w fun e w' => e = .returned (.tuple #[.slice none 0 0, .bool false]) ∧ w = w') :
    Calls Tryd.prog 21 #[p, .int .i64 o, .string s] w fun e w' => e = .returned (.int .i64 1) ∧ w = w' := by
  have H := hid h; clear h
  go_enter Tryd.func21, Tryd.ntmps21
  go_wp2_with (go_at_call 33; refine (H.out).mono ?_; rintro e w' ⟨rfl, rfl⟩)
  go_ret
  exact ⟨rfl, rfl⟩

set_option maxHeartbeats 400000 in
theorem getText_ok (A B : Nat) (l : List UInt8) (o n : Nat) (w : World) (ha : Area 73 w A B l) (h : o + n ≤ l.length) :
    Calls Tryd.prog 41 #[.pointer (some ⟨A, 0, none⟩), .int .i64 (o : Int), .int .i64 (n : Int)] w fun e w' => e = .returned (.tuple #[.string ⟨(getAt l o n).toArray⟩, .int .i64 0]) ∧ w = w' := by
  have hlen := ha.len
  have hb : (convert 48 9 (.slice (some ⟨B, cutAt o n, none⟩) n n)).run Tryd.prog w = .ok (.string ⟨(getAt l o n).toArray⟩) w := by
    by_cases h0 : n = 0
    · subst h0; rw [getAt_none]; exact back_none _ _ _ _
    · have e0 : cutAt o n = o := by unfold cutAt; rw [if_neg h0]
      rw [e0]; exact back_run ha.row o n n h
  generalize (getAt l o n).toArray = t at hb ⊢
  go_enter Tryd.func41, Tryd.ntmps41
  go_wp2_with (go_at_call 33; refine (cut_ok A B l o n _ ha h).mono ?_; rintro e w' ⟨rfl, rfl⟩)
  go_ret2
  exact ⟨rfl, rfl⟩

set_option maxHeartbeats 400000 in
theorem getText_bad (p : Value) (o n : Int) (w : World)
    (h : Calls Tryd.prog 33 #[p, .int .i64 o, .int .i64 n] w fun e w' => e = .returned (.tuple #[.slice none 0 0, .bool false]) ∧ w = w') :
    Calls Tryd.prog 41 #[p, .int .i64 o, .int .i64 n] w fun e w' => e = .returned (.tuple #[.string ⟨#[]⟩, .int .i64 1]) ∧ w = w' := by
  have H := hid h; clear h
  go_enter Tryd.func41, Tryd.ntmps41
  go_wp2_with (go_at_call 33; refine (H.out).mono ?_; rintro e w' ⟨rfl, rfl⟩)
  go_ret2
  exact ⟨rfl, rfl⟩

set_option maxHeartbeats 400000 in
theorem bytes_ok (A B : Nat) (l : List UInt8) (w : World) (ha : Area 73 w A B l) :
    Calls Tryd.prog 22 #[.pointer (some ⟨A, 0, none⟩)] w fun e w' => e = .returned (.string ⟨l.toArray⟩) ∧ w = w' := by
  have hlen := ha.len
  have hc := ha.cell
  have hb := back_run ha.row 0 l.length l.length (by omega)
  rw [getAt_all] at hb
  go_enter Tryd.func22, Tryd.ntmps22
  go_wp2_with fail
  go_ret
  exact ⟨rfl, rfl⟩
set_option maxHeartbeats 400000 in
theorem bytes_nil (w : World) :
    Calls Tryd.prog 22 #[.pointer none] w fun e w' => e = .returned (.string ⟨#[]⟩) ∧ w = w' := by
  go_enter Tryd.func22, Tryd.ntmps22
  go_wp2_with fail
  go_ret
  exact ⟨rfl, rfl⟩
end Go.Proofs.YtigaddpjmgncmaaDoor.Fd
