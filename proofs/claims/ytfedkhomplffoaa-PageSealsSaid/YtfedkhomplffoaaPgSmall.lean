/- The small calls of page and of its document's answer: what each returns, whatever it is called with. -/
import Derived.Test.YtfedkhomplffoaaPgBits
import Derived.Test.YtfedkhomplffoaaFdOf
import Derived.Test.YtfedkhomplffoaaSmRef
import Derived.Test.YtfedkhomplffoaaShelf
namespace Go.Proofs.Ytfedkhomplffoaa.Pg
open Go.RowKit
open Go.Lib
open Go.Proofs.Ytfedkhomplffoaa.Fd (Area Row Upd rowOf be be_length be_at beB num getAt putAt make_run back_run on_below rowOf_zeros madeBytes size5 info5)
open Go.Proofs.Ytfedkhomplffoaa.Sm (U B32 sumB)

theorem repeat_one (c : UInt8) (n : Nat) : repeatL [c] n = List.replicate n c := by
  induction n with
  | zero => rfl
  | succ n ih => show [c] ++ repeatL [c] n = _; rw [ih]; rfl

set_option maxHeartbeats 400000 in
theorem blank_any (w : World) :
    Calls Try.prog 14 #[] w fun e w' => e = .returned (.string ⟨blankL.toArray⟩) ∧ Below w.heap.size w w' := by
  go_enter Try.func14, Try.ntmps14
  go_wp2_with (go_at_call 30; refine (Try.strings_Repeat_main ⟨#[0]⟩ 256 _ (by decide) (by decide) (by decide) (by decide)).mono ?_; rintro e w' ⟨rfl, hb⟩; have HB := hid hb; clear hb)
  go_ret
  exact ⟨by rw [repeat_one]; rfl, HB.out⟩

set_option maxHeartbeats 400000 in
theorem may_yes (k n : Int) (b : ByteArray) (w : World) (h : mayP k n b.size) :
    Calls Try.prog 18 #[.agg #[.int .i64 k, .int .i64 n, .string b]] w fun e w' => e = .returned (.bool true) ∧ Below w.heap.size w w' := by
  unfold mayP at h
  obtain ⟨h1, h2, h3, h4, h5⟩ := h
  have e5 : decide ((b.size : Int) ≤ 244) = true := by simp; omega
  go_enter Try.func18, Try.ntmps18
  go_wp2_with fail
  go_ret
  exact ⟨rfl, (Below.refl _ _).alloc (Nat.le_refl _) _⟩
set_option maxHeartbeats 400000 in
theorem may_no (k n : Int) (b : ByteArray) (w : World) (h : ¬ mayP k n b.size) :
    Calls Try.prog 18 #[.agg #[.int .i64 k, .int .i64 n, .string b]] w fun e w' => e = .returned (.bool false) ∧ Below w.heap.size w w' := by
  unfold mayP at h
  by_cases h1 : 1 ≤ k
  · by_cases h2 : k ≤ 5
    · by_cases h3 : 0 ≤ n
      · by_cases h4 : n < 1000
        · have e5 : decide ((b.size : Int) ≤ 244) = false := by simp; omega
          clear h
          go_enter Try.func18, Try.ntmps18
          go_wp2_with fail
          go_ret
          exact ⟨rfl, (Below.refl _ _).alloc (Nat.le_refl _) _⟩
        · have e4 : decide (n < 1000) = false := by simp; omega
          clear h h4
          go_enter Try.func18, Try.ntmps18
          go_wp2_with fail
          go_ret
          exact ⟨rfl, (Below.refl _ _).alloc (Nat.le_refl _) _⟩
      · have e3 : decide (0 ≤ n) = false := by simp; omega
        clear h h3
        go_enter Try.func18, Try.ntmps18
        go_wp2_with fail
        go_ret
        exact ⟨rfl, (Below.refl _ _).alloc (Nat.le_refl _) _⟩
    · have e2 : decide (k ≤ 5) = false := by simp; omega
      clear h h2
      go_enter Try.func18, Try.ntmps18
      go_wp2_with fail
      go_ret
      exact ⟨rfl, (Below.refl _ _).alloc (Nat.le_refl _) _⟩
  · have e1 : decide (1 ≤ k) = false := by simp; omega
    clear h h1
    go_enter Try.func18, Try.ntmps18
    go_wp2_with fail
    go_ret
    exact ⟨rfl, (Below.refl _ _).alloc (Nat.le_refl _) _⟩
set_option maxHeartbeats 400000 in
theorem refMay_yes (k n : Int) (b : ByteArray) (w : World) (h : mayP k n b.size) :
    Calls Try.prog 25 #[.agg #[.int .i64 k, .int .i64 n, .string b]] w fun e w' => e = .returned (.bool true) ∧ Below w.heap.size w w' := by
  unfold mayP at h
  obtain ⟨h1, h2, h3, h4, h5⟩ := h
  have e5 : decide ((b.size : Int) ≤ 244) = true := by simp; omega
  go_enter Try.func25, Try.ntmps25
  go_wp2_with fail
  go_ret
  exact ⟨rfl, (Below.refl _ _).alloc (Nat.le_refl _) _⟩
set_option maxHeartbeats 400000 in
theorem refMay_no (k n : Int) (b : ByteArray) (w : World) (h : ¬ mayP k n b.size) :
    Calls Try.prog 25 #[.agg #[.int .i64 k, .int .i64 n, .string b]] w fun e w' => e = .returned (.bool false) ∧ Below w.heap.size w w' := by
  unfold mayP at h
  by_cases h1 : 1 ≤ k
  · by_cases h2 : k ≤ 5
    · by_cases h3 : 0 ≤ n
      · by_cases h4 : n < 1000
        · have e5 : decide ((b.size : Int) ≤ 244) = false := by simp; omega
          clear h
          go_enter Try.func25, Try.ntmps25
          go_wp2_with fail
          go_ret
          exact ⟨rfl, (Below.refl _ _).alloc (Nat.le_refl _) _⟩
        · have e4 : decide (n < 1000) = false := by simp; omega
          clear h h4
          go_enter Try.func25, Try.ntmps25
          go_wp2_with fail
          go_ret
          exact ⟨rfl, (Below.refl _ _).alloc (Nat.le_refl _) _⟩
      · have e3 : decide (0 ≤ n) = false := by simp; omega
        clear h h3
        go_enter Try.func25, Try.ntmps25
        go_wp2_with fail
        go_ret
        exact ⟨rfl, (Below.refl _ _).alloc (Nat.le_refl _) _⟩
    · have e2 : decide (k ≤ 5) = false := by simp; omega
      clear h h2
      go_enter Try.func25, Try.ntmps25
      go_wp2_with fail
      go_ret
      exact ⟨rfl, (Below.refl _ _).alloc (Nat.le_refl _) _⟩
  · have e1 : decide (1 ≤ k) = false := by simp; omega
    clear h h1
    go_enter Try.func25, Try.ntmps25
    go_wp2_with fail
    go_ret
    exact ⟨rfl, (Below.refl _ _).alloc (Nat.le_refl _) _⟩

theorem mask_U : (16711935 : Int) = U 16711935#32 := rfl
theorem ret_rev {a b : Int} (h : a = b) : Ending.returned (.int .u32 a) = .returned (.int .u32 b) := by rw [h]

set_option maxHeartbeats 400000 in
theorem revBytes_any (a : B32) (w : World) :
    Calls Try.prog 37 #[.int .u32 (U a)] w fun e w' => e = .returned (.int .u32 (rev32 a.toNat : Int)) ∧ w = w' := by
  go_enter Try.func37, Try.ntmps37
  go_wp2_with fail
  go_ret
  refine ⟨ret_rev ?_, rfl⟩
  rw [← revB_rev]
  have e1 : U a / (256 : Int) = U (a >>> 8) := U_shr a 8
  have e2 : ∀ x : B32, U x / (65536 : Int) = U (x >>> 16) := fun x => U_shr x 16
  have e3 : ∀ x : B32, U x * (256 : Int) % (4294967296 : Int) = U (x <<< 8) := fun x => U_shl x 8
  have e4 : ∀ x : B32, U x * (65536 : Int) % (4294967296 : Int) = U (x <<< 16) := fun x => U_shl x 16
  rw [mask_U, e1, U_and, U_and, e3, U_or, e2, e4, U_or]
  rfl

set_option maxHeartbeats 400000 in
theorem lowest_any (a : B32) (w : World) :
    Calls Try.prog 22 #[.int .u32 (U a)] w fun e w' => e = .returned (.int .u32 (rev32 a.toNat : Int)) ∧ w = w' := by
  go_enter Try.func22, Try.ntmps22
  go_wp2_with (go_at_call 37; refine (revBytes_any _ _).mono ?_; rintro e w' ⟨rfl, rfl⟩)
  go_ret
  exact ⟨rfl, rfl⟩

/-- so many cells 0 -/
def zcells (n : Nat) : Array Value := Array.replicate n (.int .u8 0)
theorem zcells_row (n : Nat) : zcells n = rowOf (zs n) := (rowOf_zeros n).symm
theorem zmake (n : Nat) (h : n ≤ 1000000) (w : World) :
    (Instr.makeSlice 36 (.int .i64 (n : Int)) (.int .i64 (n : Int))).run Try.prog w = .ok (.slice (some ⟨w.heap.size, 0, none⟩) n n) (w.alloc (.cells (zcells n) 5)) := make_run n h w
theorem zback (n : Nat) (w : World) :
    (convert 36 9 (.slice (some ⟨w.heap.size, 0, none⟩) n n)).run Try.prog (w.alloc (.cells (zcells n) 5)) = .ok (.string ⟨(zs n).toArray⟩) (w.alloc (.cells (zcells n) 5)) := by
  have hr : Row (w.alloc (.cells (zcells n) 5)) w.heap.size (zs n) := by
    unfold Row; rw [heap_alloc_new, zcells_row]
  have := back_run hr 0 n n (by rw [zs_length]; omega)
  have e : getAt (zs n) 0 n = zs n := by
    have := Fd.getAt_all (zs n); rwa [zs_length] at this
  rwa [e] at this

set_option maxHeartbeats 400000 in
theorem refBlank_any (w : World) :
    Calls Try.prog 15 #[] w fun e w' => e = .returned (.string ⟨blankL.toArray⟩) ∧ Below w.heap.size w w' := by
  have hm : (Instr.makeSlice 36 (.int .i64 256) (.int .i64 256)).run Try.prog w = .ok (.slice (some ⟨w.heap.size, 0, none⟩) 256 256) (w.alloc (.cells (zcells 256) 5)) := zmake 256 (by decide) w
  have hb := zback 256 w
  go_enter Try.func15, Try.ntmps15
  go_wp2_with fail
  go_ret
  exact ⟨rfl, (Below.refl _ _).alloc (Nat.le_refl _) _⟩

theorem beB_mod (w n i : Nat) : ((beB w n i).toNat : Int) = (n : Int) / ((256 ^ (w - 1 - i) : Nat) : Int) % 256 := by
  unfold beB; rw [UInt8.toNat_ofNat']; simp

/-- what stands in a block of so many bytes -/
theorem row_four (b0 b1 b2 b3 : UInt8) (x0 x1 x2 x3 : Int) (h0 : x0 = b0.toNat) (h1 : x1 = b1.toNat) (h2 : x2 = b2.toNat) (h3 : x3 = b3.toNat) :
    (#[.int .u8 x0, .int .u8 x1, .int .u8 x2, .int .u8 x3] : Array Value) = rowOf [b0, b1, b2, b3] := by
  subst h0 h1 h2 h3; rfl

end Go.Proofs.Ytfedkhomplffoaa.Pg
