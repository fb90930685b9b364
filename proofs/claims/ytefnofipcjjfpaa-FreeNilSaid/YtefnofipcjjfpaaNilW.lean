/- The walk of FreeNil. -/
import Derived.Test.YtefnofipcjjfpaaFrOpen
namespace Go.Proofs.Ytefnofipcjjfpaa
open Go.RowKit
open Go.Lib
open Go.ChangeShapes Go.WideShapes Go.Joins
open Go.Proofs.Ytefnofipcjjfpaa.Fr

set_option maxRecDepth 100000 in
set_option maxHeartbeats 2000000 in
theorem FreeNil_walk (v : Value) (h : ∃ a b : Int, v = .agg #[.int .i64 a, .int .i64 b] ∧ isInt a ∧ isInt b) (w : World) :
    Calls Try.prog 5 #[v] w fun e w' => e = .returned (.bool true) ∧ Below w.heap.size w w' := by
  obtain ⟨a, b, rfl, ha, hb⟩ := h
  clear ha hb
  have HB : Hid (Below w.heap.size w (w.alloc (.cells #[.int .i64 a, .int .i64 b] 31))) := hid ((Below.refl _ _).alloc (Nat.le_refl _) _)
  go_enter Try.func5, Try.ntmps5
  have cb : (w.alloc (.cells #[.int .i64 a, .int .i64 b] 31)).cell? ⟨w.heap.size, 1, none⟩ = some (.int .i64 b) := by rw [cell_of_row _ _ _ _ _ _ (heap_alloc_new _ _)]; rfl
  go_wp2_with (first
    | (go_at_call 8; refine (new_bad 0 0 _ (by decide)).mono ?_; rintro e w' ⟨rfl, rfl⟩)
    | (go_at_call 12; refine (take_nil _).mono ?_; rintro e w' ⟨rfl, rfl⟩))
  generalize w.alloc (.cells #[.int .i64 a, .int .i64 b] 31) = w1 at HB cb ⊢
  refine (mark_nil b _).mono ?_; rintro e w' ⟨rfl, rfl⟩
  go_wp2_with fail
  refine (give_nil b _).mono ?_; rintro e w' ⟨rfl, m1, rfl⟩; replace HB := on_drewN HB m1
  go_wp2_with fail
  refine (is_nil b _).mono ?_; rintro e w' ⟨rfl, m2, rfl⟩; replace HB := on_drewN HB m2
  have HB2 := HB.out
  rw [World.drewN_drewN] at HB2
  replace HB := hid HB2
  clear HB2
  go_wp2_with fail
  refine (left_nil _).mono ?_; rintro e w' ⟨rfl, rfl⟩
  go_wp2_with fail
  refine (encode_nil _).mono ?_; rintro e w' ⟨rfl, rfl⟩
  go_wp2_with fail
  refine (copy_nil _).mono ?_; rintro e w' ⟨rfl, rfl⟩
  go_wp2_with fail
  refine (live_any _).mono ?_; rintro e w3 ⟨rfl, hb⟩; replace HB := on_below HB hb; clear hb
  go_wp2_with fail
  go_ret
  exact ⟨rfl, HB.out⟩
theorem FreeNil_open0 {H : Type} {enc : TypeId × Value → H} {W : World} {base : Nat} {v : Value} {d : DataW H} {p : List MemPlace}
    (hv : Value.okWide Try.prog W .any base 31 v) (h : DataW.Trod enc Try.prog W 0 (fun _ => true) true 31 v d p) :
    ∃ a b : Int, v = .agg #[.int .i64 a, .int .i64 b] ∧ isInt a ∧ isInt b := open_op hv h
end Go.Proofs.Ytefnofipcjjfpaa
