/- The calls of package field on an area, all cases: what each returns, and what the area holds behind it. -/
import Derived.Test.YtjjplkfgihogkaaFdField
import Derived.Laws.BitsAllLaws
namespace Go.Proofs.Ytjjplkfgihogkaa.Fd
open Go.RowKit
open Go.Lib

/-- an int's range -/
def isInt (x : Int) : Prop := -9223372036854775808 ≤ x ∧ x ≤ 9223372036854775807

theorem quo_ne {n : Int} {P : Int} (hP : 0 < P) (h : P ≤ n) : (n / P != 0) = true := by
  have : 1 ≤ n / P := (Int.le_ediv_iff_mul_le hP).2 (by omega)
  rw [bne_iff_ne]; omega

theorem or_byte (x : Nat) (b : UInt8) (h : x < 16777216) : bits .or .u32 (((x : Int) * 256) % 4294967296) ((b.toNat : Int) % 4294967296) = ((256 * x + b.toNat : Nat) : Int) := by
  have hb := b.toNat_lt
  have e1 : ((x : Int) * 256) % 4294967296 = ((256 * x : Nat) : Int) := by omega
  have e2 : ((b.toNat : Int)) % 4294967296 = ((b.toNat : Nat) : Int) := by omega
  rw [e1, e2, u32_or_nat _ _ (by omega) (by omega), nat_join 8 (256 * x) b.toNat (by omega) (by omega)]

theorem num_take (l : List UInt8) (o n k : Nat) (h : o + n ≤ l.length) (hk : k < n) :
    num ((getAt l o n).take (k + 1)) = 256 * num ((getAt l o n).take k) + (l[o + k]'(by omega)).toNat := by
  have hl := getAt_length l o n h
  have e := getAt_at l o n k
  rw [if_pos hk, List.getElem?_eq_getElem (by omega), List.getElem?_eq_getElem (by omega)] at e
  rw [List.take_succ_eq_append_getElem (by omega), num_snoc, Option.some.inj e]
theorem num_small (l : List UInt8) (k : Nat) (h : k ≤ 3) : num (l.take k) < 16777216 := by
  have h1 := num_lt (l.take k)
  have h2 : (l.take k).length ≤ 3 := by simp; omega
  exact Nat.lt_of_lt_of_le h1 (Nat.pow_le_pow_right (by decide) h2)

theorem size_list (s : ByteArray) : s.data.toList.length = s.size := by simp

set_option maxHeartbeats 400000 in
theorem putText_ok (A B : Nat) (l : List UInt8) (o : Nat) (s : ByteArray) (w : World) (ha : Area 100 w A B l) (h : o + s.size ≤ l.length) :
    Calls Try.prog 54 #[.pointer (some ⟨A, 0, none⟩), .int .i64 (o : Int), .string s] w fun e w' => e = .returned (.int .i64 0) ∧ Upd B (putAt l o s.data.toList) w w' := by
  have hlen := ha.len
  have hsz := size_list s
  by_cases h0 : s.size = 0
  · have e : putAt l o s.data.toList = l := by
      rw [List.eq_nil_of_length_eq_zero (hsz.trans h0), putAt_none]
    rw [e]
    have hcp : ∀ ty, (Builtin.copy_ #[64, 9] ty #[.slice (some ⟨B, cutAt o s.size, none⟩) s.size s.size, .string s]).run Try.prog w = .ok (goInt 0) w := fun ty =>
      run_copy_empty_string (P := Try.prog) w 64 9 ty 5 _ _ _ s Try.underlying64 (by rw [size5]; rfl) h0
    have HZ := hid h0; clear h0 hsz e
    go_enter Try.func54, Try.ntmps54
    go_wp2_with (go_at_call 60; refine (cut_ok A B l o s.size _ ha h).mono ?_; rintro e w' ⟨rfl, rfl⟩)
    go_ret
    exact ⟨rfl, Upd.refl ha.row⟩
  · have e0 : cutAt o s.size = o := by unfold cutAt; rw [if_neg h0]
    have hcp : ∀ ty, (Builtin.copy_ #[64, 9] ty #[.slice (some ⟨B, cutAt o s.size, none⟩) s.size s.size, .string s]).run Try.prog w = .ok (goInt s.size) (w.setRow B (rowOf (putAt l o s.data.toList))) := fun ty => by
      rw [e0, run_copy_row_string (P := Try.prog) w 64 9 ty 5 B o s.size s.size s (rowOf l) 5 Try.underlying64 size5 ha.row (Nat.le_refl _) (by rw [rowOf_size]; exact h), ← hsz, rowOf_put]
    clear e0 hsz
    go_enter Try.func54, Try.ntmps54
    go_wp2_with (go_at_call 60; refine (cut_ok A B l o s.size _ ha h).mono ?_; rintro e w' ⟨rfl, rfl⟩)
    go_ret
    exact ⟨rfl, (Upd.refl ha.row).setRow _⟩

set_option maxHeartbeats 400000 in
theorem putText_bad (p : Value) (o : Int) (s : ByteArray) (w : World)
    (h : Calls Try.prog 60 #[p, .int .i64 o, .int .i64 (s.size : Int)] w fun e w' => e = .returned (.tuple #[.slice none 0 0, .bool false]) ∧ w = w') :
    Calls Try.prog 54 #[p, .int .i64 o, .string s] w fun e w' => e = .returned (.int .i64 1) ∧ w = w' := by
  have H := hid h; clear h
  go_enter Try.func54, Try.ntmps54
  go_wp2_with (go_at_call 60; refine (H.out).mono ?_; rintro e w' ⟨rfl, rfl⟩)
  go_ret
  exact ⟨rfl, rfl⟩

set_option maxHeartbeats 400000 in
theorem bytes_ok (A B : Nat) (l : List UInt8) (w : World) (ha : Area 100 w A B l) :
    Calls Try.prog 55 #[.pointer (some ⟨A, 0, none⟩)] w fun e w' => e = .returned (.string ⟨l.toArray⟩) ∧ w = w' := by
  have hlen := ha.len
  have hc := ha.cell
  have hb := back_run ha.row 0 l.length l.length (by omega)
  rw [getAt_all] at hb
  go_enter Try.func55, Try.ntmps55
  go_wp2_with fail
  go_ret
  exact ⟨rfl, rfl⟩
set_option maxHeartbeats 400000 in
theorem bytes_nil (w : World) :
    Calls Try.prog 55 #[.pointer none] w fun e w' => e = .returned (.string ⟨#[]⟩) ∧ w = w' := by
  go_enter Try.func55, Try.ntmps55
  go_wp2_with fail
  go_ret
  exact ⟨rfl, rfl⟩
end Go.Proofs.Ytjjplkfgihogkaa.Fd
