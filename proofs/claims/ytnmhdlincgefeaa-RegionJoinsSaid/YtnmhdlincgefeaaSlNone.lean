/- A slab that is none: hasCell, hasRange, Place, Get. -/
import Derived.Test.YtnmhdlincgefeaaSlRange
namespace Go.Proofs.Ytnmhdlincgefeaa.Sl
open Go.RowKit
open Go.Lib (hid)

set_option maxRecDepth 100000 in
set_option maxHeartbeats 1000000 in
theorem cell_none (v : Value) (w : World) : Calls Try.prog 53 #[.pointer none, v] w fun e w' => e = .returned (.bool false) ∧ w' = w := by
  have HD := hid fun (V : World) => dims_none V
  go_enter Try.func53, Try.ntmps53
  go_wp2_with fail
  refine (HD.out _).mono ?_
  rintro e w1 ⟨rfl, rfl⟩
  go_wp2_with fail
  go_ret
  exact ⟨rfl, rfl⟩
set_option maxRecDepth 100000 in
set_option maxHeartbeats 1000000 in
theorem range_none (v u : Value) (w : World) : Calls Try.prog 38 #[.pointer none, v, u] w fun e w' => e = .returned (.bool false) ∧ w' = w := by
  have HD := hid fun (V : World) (x : Value) => cell_none x V
  go_enter Try.func38, Try.ntmps38
  go_wp2_with fail
  refine (HD.out _ _).mono ?_
  rintro e w1 ⟨rfl, rfl⟩
  go_wp2_with fail
  go_ret
  exact ⟨rfl, rfl⟩
set_option maxRecDepth 100000 in
set_option maxHeartbeats 1000000 in
theorem Fill_none (v u : Value) (n : Int) (w : World) : Calls Try.prog 21 #[.pointer none, v, u, .int .i64 n] w fun e w' => e = .returned (.int .i64 1) ∧ Below w.heap.size w w' := by
  have HD := hid fun (V : World) (x y : Value) => range_none x y V
  go_enter Try.func21, Try.ntmps21
  go_wp2_with fail
  refine (HD.out _ _ _).mono ?_
  rintro e w1 ⟨rfl, rfl⟩
  go_wp2_with fail
  go_ret
  exact ⟨rfl, (below_alloc w _).alloc (below_alloc w _).size _⟩
set_option maxRecDepth 100000 in
set_option maxHeartbeats 1000000 in
theorem Sizes_none  (w : World) : Calls Try.prog 26 #[.pointer none] w fun e w' => e = .returned (.slice none 0 0) ∧ Below w.heap.size w w' := by
  go_enter Try.func26, Try.ntmps26
  go_wp2_with fail
  go_ret
  refine ⟨rfl, ?_⟩
  first | exact Below.refl _ _ | exact below_alloc w _ | exact (below_alloc w _).alloc (below_alloc w _).size _ | exact below_drewN (Below.refl _ _) _ | exact below_drewN (below_alloc w _) _ | exact below_drewN ((below_alloc w _).alloc (below_alloc w _).size _) _
set_option maxRecDepth 100000 in
set_option maxHeartbeats 1000000 in
theorem Cells_none  (w : World) : Calls Try.prog 16 #[.pointer none] w fun e w' => e = .returned (.slice none 0 0) ∧ Below w.heap.size w w' := by
  go_enter Try.func16, Try.ntmps16
  go_wp2_with fail
  go_ret
  refine ⟨rfl, ?_⟩
  first | exact Below.refl _ _ | exact below_alloc w _ | exact (below_alloc w _).alloc (below_alloc w _).size _ | exact below_drewN (Below.refl _ _) _ | exact below_drewN (below_alloc w _) _ | exact below_drewN ((below_alloc w _).alloc (below_alloc w _).size _) _
end Go.Proofs.Ytnmhdlincgefeaa.Sl
