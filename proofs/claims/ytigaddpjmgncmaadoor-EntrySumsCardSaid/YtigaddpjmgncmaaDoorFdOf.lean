/- Of of package field, and the law's own examples. -/
import Derived.Test.YtigaddpjmgncmaaDoorFdField2
namespace Go.Proofs.YtigaddpjmgncmaaDoor.Fd
open Go.RowKit
open Go.Lib

set_option maxHeartbeats 400000 in
theorem of_ok (s : ByteArray) (w : World) (hs : s.size ≤ 4096) :
    Calls Tryd.prog 38 #[.string s] w fun e w' => e = .returned (.tuple #[.pointer (some ⟨w.heap.size + 1, 0, none⟩), .int .i64 0]) ∧ Area 73 w' (w.heap.size + 1) w.heap.size s.data.toList ∧ Below w.heap.size w w' := by
  have ha := madeArea_area 73 s.size w hs
  have hb := madeArea_below 73 s.size w
  have hsz := size_list s
  have hp : putAt (List.replicate s.size 0) 0 s.data.toList = s.data.toList := putAt_all _ _ (by simp)
  have hc := ha.cell
  rw [List.length_replicate] at hc
  by_cases h0 : s.size = 0
  · have hcp : ∀ ty, (Builtin.copy_ #[48, 9] ty #[.slice (some ⟨w.heap.size, 0, none⟩) s.size s.size, .string s]).run Tryd.prog (madeArea 73 s.size w) = .ok (goInt 0) (madeArea 73 s.size w) := fun ty =>
      run_copy_empty_string (P := Tryd.prog) _ 48 9 ty 5 _ _ _ s Tryd.underlying48 (by rw [size5]; rfl) h0
    have hA : Area 73 (madeArea 73 s.size w) (w.heap.size + 1) w.heap.size s.data.toList := by
      rw [List.eq_nil_of_length_eq_zero (hsz.trans h0)]; rw [h0] at ha ⊢; exact ha
    have HB := hid (And.intro hA hb); clear hA hb ha h0 hsz hp
    go_enter Tryd.func38, Tryd.ntmps38
    go_wp2_with (go_at_call 19; refine (new_ok s.size _ hs).mono ?_; rintro e w' ⟨rfl, rfl⟩)
    go_ret2
    exact ⟨rfl, HB.out⟩
  · have hcp : ∀ ty, (Builtin.copy_ #[48, 9] ty #[.slice (some ⟨w.heap.size, 0, none⟩) s.size s.size, .string s]).run Tryd.prog (madeArea 73 s.size w) = .ok (goInt s.size) ((madeArea 73 s.size w).setRow w.heap.size (rowOf s.data.toList)) := fun ty => by
      rw [run_copy_row_string (P := Tryd.prog) _ 48 9 ty 5 w.heap.size 0 s.size s.size s _ 5 Tryd.underlying48 size5 ha.row (Nat.le_refl _) (by rw [rowOf_size]; simp), ← hsz, rowOf_put, hsz, hp]
    have hA : Area 73 ((madeArea 73 s.size w).setRow w.heap.size (rowOf s.data.toList)) (w.heap.size + 1) w.heap.size s.data.toList :=
      ha.upd ((Upd.refl ha.row).setRow _) (by simp)
    have hB : Below w.heap.size w ((madeArea 73 s.size w).setRow w.heap.size (rowOf s.data.toList)) := below_setRow hb (Nat.le_refl _) _
    have HB := hid (And.intro hA hB); clear hA hB hb ha h0 hsz hp
    go_enter Tryd.func38, Tryd.ntmps38
    go_wp2_with (go_at_call 19; refine (new_ok s.size _ hs).mono ?_; rintro e w' ⟨rfl, rfl⟩)
    go_ret2
    exact ⟨rfl, HB.out⟩

set_option maxHeartbeats 400000 in
theorem of_no (s : ByteArray) (w : World) (hs : 4096 < s.size) (hm : s.size ≤ maxLen) :
    Calls Tryd.prog 38 #[.string s] w fun e w' => e = .returned (.tuple #[.pointer none, .int .i64 1]) ∧ w = w' := by
  unfold maxLen at hm
  go_enter Tryd.func38, Tryd.ntmps38
  go_wp2_with (go_at_call 19; refine (new_no _ _ (by omega)).mono ?_; rintro e w' ⟨rfl, rfl⟩)
  go_ret2
  exact ⟨rfl, rfl⟩
end Go.Proofs.YtigaddpjmgncmaaDoor.Fd
