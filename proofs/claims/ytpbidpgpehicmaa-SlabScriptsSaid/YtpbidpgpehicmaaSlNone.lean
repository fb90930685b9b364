/- A slab that is none: hasCell, hasRange, Place, Get. -/
import Derived.Test.YtpbidpgpehicmaaSlRange
namespace Go.Proofs.Ytpbidpgpehicmaa.Sl
open Go.RowKit
open Go.Lib (hid)

set_option maxRecDepth 100000 in
set_option maxHeartbeats 1000000 in
theorem cell_none (v : Value) (w : World) : Calls Try.prog 40 #[.pointer none, v] w fun e w' => e = .returned (.bool false) ∧ w' = w := by
  have HD := hid fun (V : World) => dims_none V
  go_enter Try.func40, Try.ntmps40
  go_wp2_with fail
  refine (HD.out _).mono ?_
  rintro e w1 ⟨rfl, rfl⟩
  go_wp2_with fail
  go_ret
  exact ⟨rfl, rfl⟩
set_option maxRecDepth 100000 in
set_option maxHeartbeats 1000000 in
theorem range_none (v u : Value) (w : World) : Calls Try.prog 36 #[.pointer none, v, u] w fun e w' => e = .returned (.bool false) ∧ w' = w := by
  have HD := hid fun (V : World) (x : Value) => cell_none x V
  go_enter Try.func36, Try.ntmps36
  go_wp2_with fail
  refine (HD.out _ _).mono ?_
  rintro e w1 ⟨rfl, rfl⟩
  go_wp2_with fail
  go_ret
  exact ⟨rfl, rfl⟩
set_option maxRecDepth 100000 in
set_option maxHeartbeats 1000000 in
theorem Place_none (v : Value) (w : World) : Calls Try.prog 20 #[.pointer none, v] w fun e w' => e = .returned (.tuple #[.int .i64 0, .int .i64 1]) ∧ w' = w := by
  have HD := hid fun (V : World) (x : Value) => cell_none x V
  go_enter Try.func20, Try.ntmps20
  go_wp2_with fail
  refine (HD.out _ _).mono ?_
  rintro e w1 ⟨rfl, rfl⟩
  go_wp2_with fail
  go_ret2
  exact ⟨rfl, rfl⟩
set_option maxRecDepth 100000 in
set_option maxHeartbeats 1000000 in
theorem Get_none (v : Value) (w : World) : Calls Try.prog 18 #[.pointer none, v] w fun e w' => e = .returned (.tuple #[.int .i64 0, .int .i64 1]) ∧ w' = w := by
  have HD := hid fun (V : World) (x : Value) => Place_none x V
  go_enter Try.func18, Try.ntmps18
  go_wp2_with fail
  refine (HD.out _ _).mono ?_
  rintro e w1 ⟨rfl, rfl⟩
  go_wp2_with fail
  go_ret2
  exact ⟨rfl, rfl⟩
set_option maxRecDepth 100000 in
set_option maxHeartbeats 1000000 in
theorem Fill_none (v u : Value) (n : Int) (w : World) : Calls Try.prog 16 #[.pointer none, v, u, .int .i64 n] w fun e w' => e = .returned (.int .i64 1) ∧ Below w.heap.size w w' := by
  have HD := hid fun (V : World) (x y : Value) => range_none x y V
  go_enter Try.func16, Try.ntmps16
  go_wp2_with fail
  refine (HD.out _ _ _).mono ?_
  rintro e w1 ⟨rfl, rfl⟩
  go_wp2_with fail
  go_ret
  exact ⟨rfl, (below_alloc w _).alloc (below_alloc w _).size _⟩
set_option maxRecDepth 100000 in
set_option maxHeartbeats 1000000 in
theorem Seen_none (v u : Value) (w : World) : Calls Try.prog 22 #[.pointer none, v, u] w fun e w' => e = .returned (.tuple #[.slice none 0 0, .int .i64 1]) ∧ Below w.heap.size w w' := by
  have HD := hid fun (V : World) (x y : Value) => range_none x y V
  go_enter Try.func22, Try.ntmps22
  go_wp2_with fail
  refine (HD.out _ _ _).mono ?_
  rintro e w1 ⟨rfl, rfl⟩
  go_wp2_with fail
  go_ret2
  refine ⟨rfl, ?_⟩
  first | exact Below.refl _ _ | exact below_alloc w _ | exact (below_alloc w _).alloc (below_alloc w _).size _ | exact below_drewN (Below.refl _ _) _ | exact below_drewN (below_alloc w _) _ | exact below_drewN ((below_alloc w _).alloc (below_alloc w _).size _) _
set_option maxRecDepth 100000 in
set_option maxHeartbeats 1000000 in
theorem Grow_none (d i : Int) (w : World) : Calls Try.prog 12 #[.pointer none, .int .i64 d, .int .i64 i] w fun e w' => e = .returned (.int .i64 1) ∧ Below w.heap.size w w' := by
  have HD := hid fun (V : World) (x y : Int) => has_none x y V
  go_enter Try.func12, Try.ntmps12
  go_wp2_with fail
  refine (HD.out _ _ _).mono ?_
  rintro e w1 ⟨rfl, n, rfl⟩
  go_wp2_with fail
  go_ret
  refine ⟨rfl, ?_⟩
  first | exact Below.refl _ _ | exact below_alloc w _ | exact (below_alloc w _).alloc (below_alloc w _).size _ | exact below_drewN (Below.refl _ _) _ | exact below_drewN (below_alloc w _) _ | exact below_drewN ((below_alloc w _).alloc (below_alloc w _).size _) _
set_option maxRecDepth 100000 in
set_option maxHeartbeats 1000000 in
theorem Sizes_none  (w : World) : Calls Try.prog 25 #[.pointer none] w fun e w' => e = .returned (.slice none 0 0) ∧ Below w.heap.size w w' := by
  go_enter Try.func25, Try.ntmps25
  go_wp2_with fail
  go_ret
  refine ⟨rfl, ?_⟩
  first | exact Below.refl _ _ | exact below_alloc w _ | exact (below_alloc w _).alloc (below_alloc w _).size _ | exact below_drewN (Below.refl _ _) _ | exact below_drewN (below_alloc w _) _ | exact below_drewN ((below_alloc w _).alloc (below_alloc w _).size _) _
set_option maxRecDepth 100000 in
set_option maxHeartbeats 1000000 in
theorem Cells_none  (w : World) : Calls Try.prog 26 #[.pointer none] w fun e w' => e = .returned (.slice none 0 0) ∧ Below w.heap.size w w' := by
  go_enter Try.func26, Try.ntmps26
  go_wp2_with fail
  go_ret
  refine ⟨rfl, ?_⟩
  first | exact Below.refl _ _ | exact below_alloc w _ | exact (below_alloc w _).alloc (below_alloc w _).size _ | exact below_drewN (Below.refl _ _) _ | exact below_drewN (below_alloc w _) _ | exact below_drewN ((below_alloc w _).alloc (below_alloc w _).size _) _
end Go.Proofs.Ytpbidpgpehicmaa.Sl
