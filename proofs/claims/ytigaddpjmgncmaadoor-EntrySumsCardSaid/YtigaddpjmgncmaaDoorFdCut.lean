/- New and cut of package field, and New of the document's answer: what each returns, whatever it is called with. -/
import Derived.Test.YtigaddpjmgncmaaDoorFdBase
namespace Go.Proofs.YtigaddpjmgncmaaDoor.Fd
open Go.RowKit
open Go.Lib

/-- the world behind a New of n bytes -/
def madeArea (T : TypeId) (n : Nat) (w : World) : World :=
  (w.alloc (.cells (Array.replicate n (.int .u8 0)) 5)).alloc (.cells #[.slice (some ⟨w.heap.size, 0, none⟩) n n] T)

theorem madeArea_area (T : TypeId) (n : Nat) (w : World) (hn : n ≤ 4096) : Area T (madeArea T n w) (w.heap.size + 1) w.heap.size (List.replicate n 0) := by
  refine ⟨?_, ?_, by omega, by simpa using hn⟩
  · unfold madeArea; rw [heap_alloc2_new]; simp
  · unfold madeArea Row; rw [heap_alloc2_old, rowOf_zeros]
theorem madeArea_below (T : TypeId) (n : Nat) (w : World) : Below w.heap.size w (madeArea T n w) :=
  ((Below.refl _ _).alloc (Nat.le_refl _) _).alloc (by simp) _
theorem madeArea_size (T : TypeId) (n : Nat) (w : World) : (madeArea T n w).heap.size = w.heap.size + 2 := by simp [madeArea]

set_option maxHeartbeats 400000 in
theorem new_ok (n : Nat) (w : World) (hn : n ≤ 4096) :
    Calls Tryd.prog 19 #[.int .i64 (n : Int)] w fun e w' => e = .returned (.tuple #[.pointer (some ⟨w.heap.size + 1, 0, none⟩), .int .i64 0]) ∧ madeArea 73 n w = w' := by
  have hm := make_run n (by omega)
  go_enter Tryd.func19, Tryd.ntmps19
  go_wp2_with fail
  go_ret2
  exact ⟨rfl, rfl⟩
set_option maxHeartbeats 400000 in
theorem new_no (n : Int) (w : World) (hn : n < 0 ∨ 4096 < n) :
    Calls Tryd.prog 19 #[.int .i64 n] w fun e w' => e = .returned (.tuple #[.pointer none, .int .i64 1]) ∧ w = w' := by
  by_cases h0 : n < 0
  · go_enter Tryd.func19, Tryd.ntmps19
    go_wp2_with fail
    go_ret2
    exact ⟨rfl, rfl⟩
  · have h1 : 4096 < n := by omega
    go_enter Tryd.func19, Tryd.ntmps19
    go_wp2_with fail
    go_ret2
    exact ⟨rfl, rfl⟩
set_option maxHeartbeats 400000 in
theorem cut_yes (A B : Nat) (l : List UInt8) (o n : Nat) (w : World) (ha : Area 73 w A B l) (h : o + n ≤ l.length) (h0 : n ≠ 0) :
    Calls Tryd.prog 33 #[.pointer (some ⟨A, 0, none⟩), .int .i64 (o : Int), .int .i64 (n : Int)] w fun e w' => e = .returned (.tuple #[.slice (some ⟨B, o, none⟩) n n, .bool true]) ∧ w = w' := by
  have hc := ha.cell
  have hl := ha.len
  go_enter Tryd.func33, Tryd.ntmps33
  go_wp2_with fail
  go_ret2
  rw [Nat.add_sub_cancel_left]
  exact ⟨rfl, rfl⟩

set_option maxHeartbeats 400000 in
theorem cut_empty (A B : Nat) (l : List UInt8) (o : Nat) (w : World) (ha : Area 73 w A B l) (h : o ≤ l.length) :
    Calls Tryd.prog 33 #[.pointer (some ⟨A, 0, none⟩), .int .i64 (o : Int), .int .i64 0] w fun e w' => e = .returned (.tuple #[.slice (some ⟨B, 0, none⟩) 0 0, .bool true]) ∧ w = w' := by
  have hc := ha.cell
  have hl := ha.len
  go_enter Tryd.func33, Tryd.ntmps33
  go_wp2_with fail
  go_ret2
  exact ⟨rfl, rfl⟩

set_option maxHeartbeats 400000 in
theorem cut_no (A B : Nat) (l : List UInt8) (o n : Int) (w : World) (ha : Area 73 w A B l) (h : ¬ isRange o n l.length)
    (ho : -9223372036854775808 ≤ o ∧ o ≤ 9223372036854775807) (hn : -9223372036854775808 ≤ n ∧ n ≤ 9223372036854775807) :
    Calls Tryd.prog 33 #[.pointer (some ⟨A, 0, none⟩), .int .i64 o, .int .i64 n] w fun e w' => e = .returned (.tuple #[.slice none 0 0, .bool false]) ∧ w = w' := by
  have hc := ha.cell
  have hl := ha.len
  unfold isRange at h
  by_cases h1 : o < 0
  · clear h
    go_enter Tryd.func33, Tryd.ntmps33
    go_wp2_with fail
    go_ret2
    exact ⟨rfl, rfl⟩
  · by_cases h2 : n < 0
    · clear h
      go_enter Tryd.func33, Tryd.ntmps33
      go_wp2_with fail
      go_ret2
      exact ⟨rfl, rfl⟩
    · have h3 : (l.length : Int) - o < n := by omega
      clear h
      go_enter Tryd.func33, Tryd.ntmps33
      go_wp2_with fail
      go_ret2
      exact ⟨rfl, rfl⟩

set_option maxHeartbeats 400000 in
theorem cut_nil (o n : Int) (w : World) :
    Calls Tryd.prog 33 #[.pointer none, .int .i64 o, .int .i64 n] w fun e w' => e = .returned (.tuple #[.slice none 0 0, .bool false]) ∧ w = w' := by
  go_enter Tryd.func33, Tryd.ntmps33
  go_wp2_with fail
  go_ret2
  exact ⟨rfl, rfl⟩

/-- where a cut begins: of no bytes at the block's head -/
def cutAt (o n : Nat) : Nat := if n = 0 then 0 else o

theorem cut_ok (A B : Nat) (l : List UInt8) (o n : Nat) (w : World) (ha : Area 73 w A B l) (h : o + n ≤ l.length) :
    Calls Tryd.prog 33 #[.pointer (some ⟨A, 0, none⟩), .int .i64 (o : Int), .int .i64 (n : Int)] w fun e w' => e = .returned (.tuple #[.slice (some ⟨B, cutAt o n, none⟩) n n, .bool true]) ∧ w = w' := by
  by_cases h0 : n = 0
  · subst h0
    have : cutAt o 0 = 0 := rfl
    rw [this]; exact cut_empty A B l o w ha (by omega)
  · have : cutAt o n = o := by unfold cutAt; rw [if_neg h0]
    rw [this]; exact cut_yes A B l o n w ha h h0

set_option maxHeartbeats 400000 in
theorem number_ok (A B : Nat) (l : List UInt8) (o n : Nat) (w : World) (ha : Area 73 w A B l) (hw : n = 1 ∨ n = 2 ∨ n = 4) (h : o + n ≤ l.length) :
    Calls Tryd.prog 32 #[.pointer (some ⟨A, 0, none⟩), .int .i64 (o : Int), .int .i64 (n : Int)] w fun e w' => e = .returned (.tuple #[.slice (some ⟨B, o, none⟩) n n, .bool true]) ∧ w = w' := by
  rcases hw with rfl | rfl | rfl
  · go_enter Tryd.func32, Tryd.ntmps32
    go_wp2_with (go_at_call 33; refine (cut_yes A B l o 1 _ ha h (by omega)).mono ?_; rintro e w' ⟨rfl, rfl⟩)
    go_ret2
    exact ⟨rfl, rfl⟩
  · go_enter Tryd.func32, Tryd.ntmps32
    go_wp2_with (go_at_call 33; refine (cut_yes A B l o 2 _ ha h (by omega)).mono ?_; rintro e w' ⟨rfl, rfl⟩)
    go_ret2
    exact ⟨rfl, rfl⟩
  · go_enter Tryd.func32, Tryd.ntmps32
    go_wp2_with (go_at_call 33; refine (cut_yes A B l o 4 _ ha h (by omega)).mono ?_; rintro e w' ⟨rfl, rfl⟩)
    go_ret2
    exact ⟨rfl, rfl⟩

set_option maxHeartbeats 400000 in
theorem number_narrow (p : Value) (o n : Int) (w : World) (hw : ¬ wide n) :
    Calls Tryd.prog 32 #[p, .int .i64 o, .int .i64 n] w fun e w' => e = .returned (.tuple #[.slice none 0 0, .bool false]) ∧ w = w' := by
  unfold wide at hw
  have h1 : (n == 1) = false := by rw [beq_eq_false_iff_ne]; omega
  have h2 : (n == 2) = false := by rw [beq_eq_false_iff_ne]; omega
  have h4 : (n == 4) = false := by rw [beq_eq_false_iff_ne]; omega
  clear hw
  go_enter Tryd.func32, Tryd.ntmps32
  go_wp2_with fail
  go_ret2
  exact ⟨rfl, rfl⟩

set_option maxHeartbeats 400000 in
theorem number_no (A B : Nat) (l : List UInt8) (o n : Int) (w : World) (ha : Area 73 w A B l) (h : ¬ isRange o n l.length)
    (ho : -9223372036854775808 ≤ o ∧ o ≤ 9223372036854775807) (hn : -9223372036854775808 ≤ n ∧ n ≤ 9223372036854775807) :
    Calls Tryd.prog 32 #[.pointer (some ⟨A, 0, none⟩), .int .i64 o, .int .i64 n] w fun e w' => e = .returned (.tuple #[.slice none 0 0, .bool false]) ∧ w = w' := by
  by_cases hw : wide n
  · rcases hw with rfl | rfl | rfl
    · go_enter Tryd.func32, Tryd.ntmps32
      go_wp2_with (go_at_call 33; refine (cut_no A B l o _ _ ha h ho hn).mono ?_; rintro e w' ⟨rfl, rfl⟩)
      go_ret2
      exact ⟨rfl, rfl⟩
    · go_enter Tryd.func32, Tryd.ntmps32
      go_wp2_with (go_at_call 33; refine (cut_no A B l o _ _ ha h ho hn).mono ?_; rintro e w' ⟨rfl, rfl⟩)
      go_ret2
      exact ⟨rfl, rfl⟩
    · go_enter Tryd.func32, Tryd.ntmps32
      go_wp2_with (go_at_call 33; refine (cut_no A B l o _ _ ha h ho hn).mono ?_; rintro e w' ⟨rfl, rfl⟩)
      go_ret2
      exact ⟨rfl, rfl⟩
  · exact number_narrow _ o n w hw

set_option maxHeartbeats 400000 in
theorem number_nil (o n : Int) (w : World) :
    Calls Tryd.prog 32 #[.pointer none, .int .i64 o, .int .i64 n] w fun e w' => e = .returned (.tuple #[.slice none 0 0, .bool false]) ∧ w = w' := by
  by_cases hw : wide n
  · rcases hw with rfl | rfl | rfl
    · go_enter Tryd.func32, Tryd.ntmps32
      go_wp2_with (go_at_call 33; refine (cut_nil o _ _).mono ?_; rintro e w' ⟨rfl, rfl⟩)
      go_ret2
      exact ⟨rfl, rfl⟩
    · go_enter Tryd.func32, Tryd.ntmps32
      go_wp2_with (go_at_call 33; refine (cut_nil o _ _).mono ?_; rintro e w' ⟨rfl, rfl⟩)
      go_ret2
      exact ⟨rfl, rfl⟩
    · go_enter Tryd.func32, Tryd.ntmps32
      go_wp2_with (go_at_call 33; refine (cut_nil o _ _).mono ?_; rintro e w' ⟨rfl, rfl⟩)
      go_ret2
      exact ⟨rfl, rfl⟩
  · exact number_narrow _ o n w hw
end Go.Proofs.YtigaddpjmgncmaaDoor.Fd
