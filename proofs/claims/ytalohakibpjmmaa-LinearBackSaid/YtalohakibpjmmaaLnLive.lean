/- The law's own examples of linear. -/
import Derived.Test.YtalohakibpjmmaaLnRngA
import Derived.Test.YtalohakibpjmmaaLnBox
import Derived.Test.YtalohakibpjmmaaExCx
namespace Go.Proofs.Ytalohakibpjmmaa.Ln
open Go.RowKit
open Go.Lib (hid)
open Go.Proofs.Ytalohakibpjmmaa.Ky
open Go.Proofs.Ytalohakibpjmmaa.Pt
open Go.Proofs.Ytalohakibpjmmaa.Bk
open Go.Proofs.Ytalohakibpjmmaa.Ex

theorem cells_new (V : World) (l : List Int) {cs : Array Value} (hc : cs = (iv l).toArray) : CellsAt (V.alloc (.cells cs 3)) (some ⟨V.heap.size, 0, none⟩) (iv l) := fun j hj => by
  subst hc
  refine ⟨V.heap.size, 0, rfl, ?_⟩
  rw [cell_of_row _ _ _ _ _ _ (heap_alloc_new V _), Nat.zero_add]
  simp [hj]
theorem lv1 (V : World) : Calls Try.prog 10 #[.int .i64 1, .int .i64 1] V fun e w' => e = .returned (.tuple #[.int .i64 3, .int .i64 0]) ∧ V = w' := by
  have := count_ok 1 1 V
  rw [show cntV 1 1 = 3 by decide, show err (lvB 1 1) = 0 by decide] at this
  exact this
theorem lv2 (V : World) : Calls Try.prog 10 #[.int .i64 1, .int .i64 2] V fun e w' => e = .returned (.tuple #[.int .i64 0, .int .i64 1]) ∧ V = w' := by
  have := count_ok 1 2 V
  rw [show cntV 1 2 = 0 by decide, show err (lvB 1 2) = 1 by decide] at this
  exact this
theorem lv3 (p : Option Addr) (V : World) (h : Pt V p [1073741824]) : Calls Try.prog 12 #[.slice p 1 1, .int .i64 1, .int .i64 1] V fun e w' => e = .returned (.tuple #[.int .i64 1, .int .i64 0]) ∧ ∃ m, w' = V.drewN m := by
  have := findL_ok [1073741824] p 1 1 1 V h (by simp)
  rw [show fV [1073741824] 1 1 = 1 by decide, show err (fB [1073741824] 1 1) = 0 by decide] at this
  exact this
theorem lv4 (V : World) : Calls Try.prog 14 #[.int .i64 1, .int .i64 1, .int .i64 1, .int .i64 2] V (AnyBox V ([2147483648], [4294967295]) 0) := by
  have := boxL_any 1 1 1 2 (by decide) V
  rw [show bL 1 1 1 2 = ([2147483648], [4294967295]) by decide, show err (bB 1 1 1 2) = 0 by decide] at this
  exact this
theorem lv5 (p q : Option Addr) (V : World) (h : Pt V p [0]) (h' : Pt V q [1073741824]) : Calls Try.prog 17 #[.agg #[.slice p 1 1, .slice q 1 1], .int .i64 1, .int .i64 1] V fun e w' => ∃ r c, e = .returned (.tuple #[.slice r 2 c, .int .i64 0]) ∧ CellsAt w' r (iv [0, 1]) ∧ Below V.heap.size V w' := by
  have := rangeL_any (bl := [0]) (bh := [1073741824]) 1 1 p q 1 1 V h h' (by simp)
  unfold AnyList at this
  rw [show rnL [0] [1073741824] 1 1 = [0, 1] by decide, show err (rnB [0] [1073741824] 1 1) = 0 by decide] at this
  exact this
theorem lv6 (V : World) : Calls Try.prog 20 #[.int .i64 1, .int .i64 1] V fun e w' => e = .returned (.tuple #[.int .i64 2, .int .i64 0, .int .i64 2, .int .i64 0]) ∧ V = w' := by
  have := grow_ok 1 1 V
  rw [show grA 1 1 = 2 by decide, show grX 1 1 = 0 by decide, show grC 1 1 = 2 by decide, show grE 1 1 = 0 by decide] at this
  exact this
theorem lv7 (V : World) : Calls Try.prog 22 #[.int .i64 2, .int .i64 0] V fun e w' => e = .returned (.tuple #[.int .i64 1, .int .i64 1, .int .i64 2, .int .i64 0]) ∧ V = w' := by
  have := shrink_ok 2 0 V
  rw [show shA 2 0 = 1 by decide, show shX 2 0 = 1 by decide, show shC 2 0 = 2 by decide, show shE 2 0 = 0 by decide] at this
  exact this
theorem lv8 (V : World) : Calls Try.prog 22 #[.int .i64 0, .int .i64 0] V fun e w' => e = .returned (.tuple #[.int .i64 0, .int .i64 0, .int .i64 0, .int .i64 1]) ∧ V = w' := by
  have := shrink_ok 0 0 V
  rw [show shA 0 0 = 0 by decide, show shX 0 0 = 0 by decide, show shC 0 0 = 0 by decide, show shE 0 0 = 1 by decide] at this
  exact this
theorem lv9 (p q r s : Option Addr) (c c' : Nat) (V : World) (h1 : Pt V p [2147483648]) (h2 : Pt V q [4294967295]) (h3 : Pt V r [2147483648]) (h4 : Pt V s [4294967295]) : Calls Try.prog 16 #[.agg #[.slice p 1 c, .slice q 1 c'], .agg #[.slice r 1 1, .slice s 1 1]] V fun e w' => e = .returned (.bool true) ∧ Below V.heap.size V w' := by
  have := sameBox_ok [2147483648] [4294967295] [2147483648] [4294967295] p q r s c c' 1 1 V h1 h2 h3 h4 (by simp) (by simp)
  rw [show sameBoxB [2147483648] [4294967295] [2147483648] [4294967295] = true by decide] at this
  exact this
theorem lv10 (p q : Option Addr) (c : Nat) (V : World) (h1 : CellsAt V p (iv [0, 1])) (h2 : CellsAt V q (iv [0, 1])) : Calls Try.prog 19 #[.slice p 2 c, .slice q 2 2] V fun e w' => e = .returned (.bool true) ∧ ∃ n, w' = V.drewN n := by
  have := ints_ok [0, 1] [0, 1] p q c 2 V h1 h2 (by simp)
  rw [show decide (([0, 1] : List Int) = [0, 1]) = true by decide] at this
  exact this
set_option maxRecDepth 100000 in
set_option maxHeartbeats 4000000 in
theorem live_any (w : World) : Calls Try.prog 9 #[] w fun e w' => e = .returned (.bool true) ∧ Below w.heap.size w w' := by
  go_enter Try.func9, Try.ntmps9
  go_wp2_with fail
  refine (lv1 _).mono ?_
  rintro e w1 ⟨rfl, rfl⟩
  go_wp2_with fail
  refine (lv2 _).mono ?_
  rintro e w1 ⟨rfl, rfl⟩
  have H2 := hid ((Cx.start w).point (l := [1073741824]) (by simp) (cs := #[.int .u32 1073741824]) rfl)
  try simp only [World.size_alloc] at H2
  go_wp2_with fail
  refine (lv3 _ _ (H2.out.pt (by simp))).mono ?_
  rintro e w2 ⟨rfl, m, hw⟩
  have H3 : Hid (Cx w w2 _ _) := hid (hw ▸ H2.out.drewN m)
  clear hw H2
  go_wp2_with fail
  refine (lv4 _).mono ?_
  rintro e w3 ⟨p, c, q, c', rfl, q1, q2, hb⟩
  have H4 := hid ((((H3.out.step hb).more q2).more q1).box #[.slice p 1 c, .slice q 1 c'])
  have H5 := hid ((H4.out.point (l := [0]) (by simp) (cs := #[.int .u32 0]) rfl).point (l := [1073741824]) (by simp) (cs := #[.int .u32 1073741824]) rfl)
  try simp only [World.size_alloc] at H5
  clear q1 q2 hb H3 H4
  go_wp2_with fail
  refine (lv5 _ _ _ (H5.out.pt (by simp)) (H5.out.pt (by simp))).mono ?_
  rintro e w4 ⟨r, cr, rfl, hr, hb⟩
  have H7 := hid (H5.out.step hb)
  have HR := hid hr
  clear hb hr H5
  go_wp2_with fail
  refine (lv6 _).mono ?_
  rintro e w5 ⟨rfl, rfl⟩
  go_wp2_with fail
  refine (lv7 _).mono ?_
  rintro e w5 ⟨rfl, rfl⟩
  go_wp2_with fail
  refine (lv8 _).mono ?_
  rintro e w5 ⟨rfl, rfl⟩
  have x := H7.out.cells (g := w3.heap.size) (x := .slice p 1 c) (y := .slice q 1 c') (by simp)
  have H8 := hid ((H7.out.point (l := [2147483648]) (by simp) (cs := #[.int .u32 2147483648]) rfl).point (l := [4294967295]) (by simp) (cs := #[.int .u32 4294967295]) rfl)
  have HR8 := hid ((HR.out.below (below_alloc _ (.cells #[.int .u32 2147483648] 47))).below (below_alloc _ (.cells #[.int .u32 4294967295] 47)))
  try simp only [World.size_alloc] at H8
  go_wp2_with fail
  refine (lv9 p q _ _ c c' _ (H8.out.pt (p := p) (by simp)) (H8.out.pt (p := q) (by simp)) (H8.out.pt (by simp)) (H8.out.pt (by simp))).mono ?_
  rintro e w6 ⟨rfl, hb⟩
  have H9 := hid (H8.out.step hb)
  have HR9 := hid ((HR8.out.below hb).below (below_alloc _ (.cells #[.int .i64 0, .int .i64 1] 3)))
  have H10 := hid (H9.out.alloc (.cells #[.int .i64 0, .int .i64 1] 3))
  have HN := hid (cells_new w6 [0, 1] (cs := #[.int .i64 0, .int .i64 1]) rfl)
  clear hb x H7 H8 HR HR8
  go_wp2_with fail
  refine (lv10 r _ cr _ HR9.out HN.out).mono ?_
  rintro e w7 ⟨rfl, m7, hw⟩
  have H11 : Hid (Cx w w7 _ _) := hid (hw ▸ H10.out.drewN m7)
  clear hw
  go_wp2_with fail
  go_ret
  exact ⟨rfl, H11.out.below⟩
end Go.Proofs.Ytalohakibpjmmaa.Ln
