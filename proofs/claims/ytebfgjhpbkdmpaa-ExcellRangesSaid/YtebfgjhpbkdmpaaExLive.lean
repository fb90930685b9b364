/- The law's own examples of excell. -/
import Derived.Test.YtebfgjhpbkdmpaaExRng
import Derived.Test.YtebfgjhpbkdmpaaExBuddy
import Derived.Test.YtebfgjhpbkdmpaaExCx
namespace Go.Proofs.Ytebfgjhpbkdmpaa.Ex
open Go.RowKit
open Go.Lib (hid)
open Go.Proofs.Ytebfgjhpbkdmpaa.Ky
open Go.Proofs.Ytebfgjhpbkdmpaa.Pt
open Go.Proofs.Ytebfgjhpbkdmpaa.Bk

theorem cells_new (V : World) (l : List Int) {cs : Array Value} (hc : cs = (iv l).toArray) : CellsAt (V.alloc (.cells cs 3)) (some ⟨V.heap.size, 0, none⟩) (iv l) := fun j hj => by
  subst hc
  refine ⟨V.heap.size, 0, rfl, ?_⟩
  rw [cell_of_row _ _ _ _ _ _ (heap_alloc_new V _), Nat.zero_add]
  simp [hj]
theorem CellsAt.drewN {w : World} {p : Option Addr} {l : List Value} (h : CellsAt w p l) (n : Nat) : CellsAt (w.drewN n) p l := h
theorem lv1 (w : World) : Calls Try.prog 12 #[.int .i64 2, .int .i64 2, .int .i64 2] w (CellPost w 2 ([2147483648, 0], [4294967295, 2147483647])) := by
  have := boxE_yes (n := 2) (D := 2) (A := 2) (by decide) (by decide) (by decide) w
  rw [show cell 2 2 2 = ([2147483648, 0], [4294967295, 2147483647]) by decide] at this
  exact this
theorem lv2 (p : Option Addr) (V : World) (h : Pt V p [2147483648, 5]) : Calls Try.prog 14 #[.slice p 2 2, .int .i64 2] V fun e w' => e = .returned (.tuple #[.int .i64 2, .int .i64 0]) ∧ ∃ m, w' = V.drewN m := by
  have := find_okE [2147483648, 5] p 2 2 V h (by simp)
  rw [show findV [2147483648, 5] 2 = 2 by decide, show err (findB [2147483648, 5] 2) = 0 by decide] at this
  exact this
theorem lv3 (p : Option Addr) (V : World) (h : Pt V p [1]) : Calls Try.prog 14 #[.slice p 1 1, .int .i64 13] V fun e w' => e = .returned (.tuple #[.int .i64 0, .int .i64 1]) ∧ ∃ m, w' = V.drewN m := by
  have := find_okE [1] p 1 13 V h (by simp)
  rw [show findV [1] 13 = 0 by decide, show err (findB [1] 13) = 1 by decide] at this
  exact this
theorem lv4 (p q : Option Addr) (V : World) (h : Pt V p [0, 0]) (h' : Pt V q [0, 4294967295]) : Calls Try.prog 19 #[.agg #[.slice p 2 2, .slice q 2 2], .int .i64 2, .int .i64 2] V fun e w' => ∃ r c, e = .returned (.tuple #[.slice r 2 c, .int .i64 0]) ∧ CellsAt w' r (iv [0, 1]) ∧ Below V.heap.size V w' := by
  have := rangeE_yes (n := 2) (D := 2) (bl := [0, 0]) (bh := [0, 4294967295]) (by decide) (by decide) rfl rfl (by decide) p q 2 2 V h h'
  unfold ListPost at this
  rw [show rangeL 2 2 [0, 0] [0, 4294967295] = [0, 1] by decide] at this
  exact this
theorem lv5 (V : World) : Calls Try.prog 16 #[.int .i64 3, .int .i64 5, .int .i64 2] V fun e w' => e = .returned (.tuple #[.int .i64 6, .int .i64 0]) ∧ V = w' := by
  have := buddy_ok 3 5 2 V
  rw [show buddyV 3 5 2 = 6 by decide, show err (buddyB 3 5 2) = 0 by decide] at this
  exact this
theorem lv6 (p q r s : Option Addr) (c c' : Nat) (V : World) (h1 : Pt V p [2147483648, 0]) (h2 : Pt V q [4294967295, 2147483647]) (h3 : Pt V r [2147483648, 0]) (h4 : Pt V s [4294967295, 2147483647]) : Calls Try.prog 18 #[.agg #[.slice p 2 c, .slice q 2 c'], .agg #[.slice r 2 2, .slice s 2 2]] V fun e w' => e = .returned (.bool true) ∧ Below V.heap.size V w' := by
  have := sameBox_ok [2147483648, 0] [4294967295, 2147483647] [2147483648, 0] [4294967295, 2147483647] p q r s c c' 2 2 V h1 h2 h3 h4 (by simp) (by simp)
  rw [show sameBoxB [2147483648, 0] [4294967295, 2147483647] [2147483648, 0] [4294967295, 2147483647] = true by decide] at this
  exact this
theorem lv7 (p q : Option Addr) (c : Nat) (V : World) (h1 : CellsAt V p (iv [0, 1])) (h2 : CellsAt V q (iv [0, 1])) : Calls Try.prog 21 #[.slice p 2 c, .slice q 2 2] V fun e w' => e = .returned (.bool true) ∧ ∃ n, w' = V.drewN n := by
  have := ints_ok [0, 1] [0, 1] p q c 2 V h1 h2 (by simp)
  rw [show decide (([0, 1] : List Int) = [0, 1]) = true by decide] at this
  exact this
set_option maxRecDepth 100000 in
set_option maxHeartbeats 4000000 in
theorem live_any (w : World) : Calls Try.prog 11 #[] w fun e w' => e = .returned (.bool true) ∧ Below w.heap.size w w' := by
  go_enter Try.func11, Try.ntmps11
  go_wp2_with fail
  refine (lv1 w).mono ?_
  rintro e w1 ⟨p, c, q, c', rfl, q1, q2, hb⟩
  have H1 := hid (((((Cx.start w).step hb).more q2).more q1).box #[.slice p 2 c, .slice q 2 c'])
  have H2 := hid (H1.out.point (l := [2147483648, 5]) (by simp) (cs := #[.int .u32 2147483648, .int .u32 5]) rfl)
  try simp only [World.size_alloc] at H2
  clear q1 q2 hb
  go_wp2_with fail
  refine (lv2 _ _ (H2.out.pt (by simp))).mono ?_
  rintro e w2 ⟨rfl, m, hw⟩
  have H3 : Hid (Cx w w2 _ _) := hid (hw ▸ H2.out.drewN m)
  have H4 := hid (H3.out.point (l := [1]) (by simp) (cs := #[.int .u32 1]) rfl)
  try simp only [World.size_alloc] at H4
  clear hw H1 H2
  go_wp2_with fail
  refine (lv3 _ _ (H4.out.pt (by simp))).mono ?_
  rintro e w3 ⟨rfl, m3, hw⟩
  have H5 : Hid (Cx w w3 _ _) := hid (hw ▸ H4.out.drewN m3)
  have H6 := hid ((H5.out.point (l := [0, 0]) (by simp) (cs := #[.int .u32 0, .int .u32 0]) rfl).point (l := [0, 4294967295]) (by simp) (cs := #[.int .u32 0, .int .u32 4294967295]) rfl)
  try simp only [World.size_alloc] at H6
  clear hw H3 H4
  go_wp2_with fail
  refine (lv4 _ _ _ (H6.out.pt (by simp)) (H6.out.pt (by simp))).mono ?_
  rintro e w4 ⟨r, cr, rfl, hr, hb⟩
  have H7 := hid (H6.out.step hb)
  have HR := hid hr
  clear hb hr H5 H6
  go_wp2_with fail
  refine (lv5 _).mono ?_
  rintro e w5 ⟨rfl, rfl⟩
  have x := H7.out.cells (g := w1.heap.size) (x := .slice p 2 c) (y := .slice q 2 c') (by simp)
  have H8 := hid ((H7.out.point (l := [2147483648, 0]) (by simp) (cs := #[.int .u32 2147483648, .int .u32 0]) rfl).point (l := [4294967295, 2147483647]) (by simp) (cs := #[.int .u32 4294967295, .int .u32 2147483647]) rfl)
  try simp only [World.size_alloc] at H8
  have HR8 := hid ((HR.out.below (below_alloc _ (.cells #[.int .u32 2147483648, .int .u32 0] 102))).below (below_alloc _ (.cells #[.int .u32 4294967295, .int .u32 2147483647] 102)))
  go_wp2_with fail
  refine (lv6 p q _ _ c c' _ (H8.out.pt (p := p) (by simp)) (H8.out.pt (p := q) (by simp)) (H8.out.pt (by simp)) (H8.out.pt (by simp))).mono ?_
  rintro e w6 ⟨rfl, hb⟩
  have H9 := hid (H8.out.step hb)
  have HR9 := hid ((HR8.out.below hb).below (below_alloc _ (.cells #[.int .i64 0, .int .i64 1] 3)))
  have H10 := hid (H9.out.alloc (.cells #[.int .i64 0, .int .i64 1] 3))
  have HN := hid (cells_new w6 [0, 1] (cs := #[.int .i64 0, .int .i64 1]) rfl)
  clear hb x H7 H8 HR HR8
  go_wp2_with fail
  refine (lv7 r _ cr _ HR9.out HN.out).mono ?_
  rintro e w7 ⟨rfl, m7, hw⟩
  have H11 : Hid (Cx w w7 _ _) := hid (hw ▸ H10.out.drewN m7)
  clear hw
  go_wp2_with fail
  go_ret
  exact ⟨rfl, H11.out.below⟩
end Go.Proofs.Ytebfgjhpbkdmpaa.Ex
