/- The law's own live. -/
import Derived.Test.YtgnacoejahpjoaaKyPart
import Derived.Test.YtgnacoejahpjoaaKyBits
namespace Go.Proofs.Ytgnacoejahpjoaa.Ky
open Go.RowKit
open Go.Lib (hid)

/-- what is known on the way: points, and boxes in memory -/
structure Cx (w V : World) (L : List (Option Addr × List Nat)) (M : List (Nat × Array Value)) : Prop where
  below : Below w.heap.size w V
  pts : ∀ x ∈ L, Pt V x.1 x.2
  bxs : ∀ x ∈ M, V.heap[x.1]? = some (.cells x.2 33 (0, 0))
section
variable {w V V' : World} {L : List (Option Addr × List Nat)} {M : List (Nat × Array Value)}
theorem Cx.step (h : Cx w V L M) (hb : Below V.heap.size V V') : Cx w V' L M :=
  ⟨h.below.trans (hb.mono h.below.size), fun x hx => (h.pts x hx).below hb, fun x hx => (hb.block _ (lt_of (h.bxs x hx))).trans (h.bxs x hx)⟩
theorem Cx.alloc (h : Cx w V L M) (o : Obj) : Cx w (V.alloc o) L M := h.step (below_alloc V o)
theorem Cx.drewN (h : Cx w V L M) (n : Nat) : Cx w (V.drewN n) L M := ⟨below_drewN h.below n, fun x hx => (h.pts x hx).drewN n, h.bxs⟩
theorem Cx.point (h : Cx w V L M) {l : List Nat} (hf : ∀ x ∈ l, x < 4294967296) {cs : Array Value} (hc : cs = kcs l) : Cx w (V.alloc (.cells cs 46)) ((some ⟨V.heap.size, 0, none⟩, l) :: L) M := by
  subst hc
  have h2 := h.alloc (.cells (kcs l) 46)
  refine ⟨h2.below, fun x hx => ?_, h2.bxs⟩
  rcases List.mem_cons.1 hx with rfl | hx
  · exact (show Own (V.alloc (.cells (kcs l) 46)) V.heap.size l from heap_alloc_new _ _).pt hf
  · exact h2.pts x hx
theorem Cx.box (h : Cx w V L M) (cs : Array Value) : Cx w (V.alloc (.cells cs 33)) L ((V.heap.size, cs) :: M) := by
  have h2 := h.alloc (.cells cs 33)
  refine ⟨h2.below, h2.pts, fun x hx => ?_⟩
  rcases List.mem_cons.1 hx with rfl | hx
  · exact heap_alloc_new _ _
  · exact h2.bxs x hx
theorem Cx.more (h : Cx w V L M) {p : Option Addr} {l : List Nat} (hp : Pt V p l) : Cx w V ((p, l) :: L) M :=
  ⟨h.below, fun x hx => by
    rcases List.mem_cons.1 hx with rfl | hx
    · exact hp
    · exact h.pts x hx, h.bxs⟩
theorem Cx.pt (h : Cx w V L M) {p : Option Addr} {l : List Nat} (hm : (p, l) ∈ L) : Pt V p l := h.pts _ hm
theorem Cx.cells (h : Cx w V L M) {g : Nat} {x y : Value} (hm : (g, #[x, y]) ∈ M) : V.cell? ⟨g, 0, none⟩ = some x ∧ V.cell? ⟨g, 1, none⟩ = some y := by
  have hb := h.bxs _ hm
  exact ⟨by rw [cell_of_row _ _ _ _ _ _ hb]; rfl, by rw [cell_of_row _ _ _ _ _ _ hb]; rfl⟩
end
theorem Cx.start (w : World) : Cx w w [] [] := ⟨Below.refl _ _, fun x hx => absurd hx (by simp), fun x hx => absurd hx (by simp)⟩
theorem is_new (V : World) (l : List Int) (hf : ∀ x ∈ l, -9223372036854775808 ≤ x ∧ x ≤ 9223372036854775807) : Is (V.alloc (.cells (l.map fun x => Value.int .i64 x).toArray 3)) (some ⟨V.heap.size, 0, none⟩) l := by
  refine ⟨fun j hj => ⟨V.heap.size, 0, rfl, by simp, ?_⟩, fun j hj => hf _ (List.getElem_mem hj)⟩
  rw [cell_of_row _ _ _ _ _ _ (heap_alloc_new V _), Nat.zero_add]
  simp [hj]
theorem field33 (A A' : Option Addr) (n c n' c' : Nat) (w : World) : (Instr.field 33 (.agg #[.slice A n c, .slice A' n' c']) 0).run Try.prog w = .ok (.slice A n c) w := by
  first | rfl | kernel_rfl
set_option maxRecDepth 100000 in
set_option maxHeartbeats 4000000 in
theorem live_any (w : World) : Calls Try.prog 11 #[] w fun e w' => e = .returned (.bool true) ∧ Below w.heap.size w w' := by
  have H0 := hid ((((Cx.start w).point (l := [1, 2]) (by simp) (cs := #[.int .u32 1, .int .u32 2]) rfl).point (l := [5, 6]) (by simp) (cs := #[.int .u32 5, .int .u32 6]) rfl).box #[.slice (some ⟨w.heap.size, 0, none⟩) 2 2, .slice (some ⟨w.heap.size + 1, 0, none⟩) 2 2])
  have H1 := hid ((H0.out.point (l := [3, 0]) (by simp) (cs := #[.int .u32 3, .int .u32 0]) rfl).point (l := [9, 2]) (by simp) (cs := #[.int .u32 9, .int .u32 2]) rfl)
  simp only [World.size_alloc] at H0 H1
  go_enter Try.func11, Try.ntmps11
  go_wp2_with fail
  refine (meet_ok [1, 2] [5, 6] [3, 0] [9, 2] _ _ _ _ _ _ _ _ _ (H1.out.pt (by simp)) (H1.out.pt (by simp)) (H1.out.pt (by simp)) (H1.out.pt (by simp)) (by simp) (by simp)).mono ?_
  rintro e w1 ⟨A, c, A', c', rfl, p1, p2, hb⟩
  have H2 := hid (((H0.out.step ((((below_alloc _ _).alloc (below_alloc _ _).size _)).trans (hb.mono (by simp)))).more p2 |>.more p1).box #[.slice A 2 c, .slice A' 2 c'])
  clear p1 p2 hb H0 H1
  rw [show meetLo [1, 2] [5, 6] [3, 0] [9, 2] = [3, 2] by decide, show meetHi [1, 2] [5, 6] [3, 0] [9, 2] = [5, 2] by decide] at H2
  rw [show meetLo [1, 2] [5, 6] [3, 0] [9, 2] = [3, 2] by decide, show meetHi [1, 2] [5, 6] [3, 0] [9, 2] = [5, 2] by decide, show meetB [1, 2] [5, 6] [3, 0] [9, 2] = true by decide]
  have H3 := hid ((H2.out.point (l := [6, 0]) (by simp) (cs := #[.int .u32 6, .int .u32 0]) rfl).point (l := [9, 2]) (by simp) (cs := #[.int .u32 9, .int .u32 2]) rfl)
  simp only [World.size_alloc] at H3
  have x := H2.out.cells (g := w.heap.size + 1 + 1) (x := .slice (some ⟨w.heap.size, 0, none⟩) 2 2) (y := .slice (some ⟨w.heap.size + 1, 0, none⟩) 2 2) (by simp)
  go_wp2_with fail
  refine (meet_ok [1, 2] [5, 6] [6, 0] [9, 2] _ _ _ _ _ _ _ _ _ (H3.out.pt (by simp)) (H3.out.pt (by simp)) (H3.out.pt (by simp)) (H3.out.pt (by simp)) (by simp) (by simp)).mono ?_
  rintro e w2 ⟨A2, c2, A2', c2', rfl, -, -, hb⟩
  have H4 := hid ((H3.out.step hb).box #[.slice A2 0 c2, .slice A2' 0 c2'])
  clear hb H2 H3 x
  rw [show meetLo [1, 2] [5, 6] [6, 0] [9, 2] = [] by decide, show meetHi [1, 2] [5, 6] [6, 0] [9, 2] = [] by decide, show meetB [1, 2] [5, 6] [6, 0] [9, 2] = false by decide]
  have H5 := hid ((H4.out.alloc (.cells #[.int .i64 1] 3)).point (l := [7]) (by simp) (cs := #[.int .u32 7]) rfl)
  simp only [World.size_alloc] at H5
  go_wp2_with fail
  have HI : Hid (Is (((w2.alloc (.cells #[.slice A2 0 c2, .slice A2' 0 c2'] 33)).alloc (.cells #[.int .i64 1] 3)).alloc (.cells #[.int .u32 7] 46)) (some ⟨w2.heap.size + 1, 0, none⟩) [1]) := hid (by
    have h := (is_new (w2.alloc (.cells #[.slice A2 0 c2, .slice A2' 0 c2'] 33)) [1] (by simp)).below (below_alloc _ (.cells #[.int .u32 7] 46))
    rw [World.size_alloc] at h; exact h)
  refine (partial_ok 2 [1] [7] (some ⟨w2.heap.size + 1, 0, none⟩) (some ⟨w2.heap.size + 1 + 1, 0, none⟩) 1 1 _ HI.out (H5.out.pt (by simp)) (by simp)).mono ?_
  rintro e w3 ⟨A3, c3, A3', c3', rfl, p1, p2, hb⟩
  have H6 := hid ((((H4.out.step (((below_alloc _ _).alloc (below_alloc _ _).size _).trans (hb.mono (by simp)))).more p2).more p1).box #[.slice A3 2 c3, .slice A3' 2 c3'])
  clear p1 p2 hb H4 H5
  rw [show partLo 2 [1] [7] = [0, 7] by decide, show partHi 2 [1] [7] = [4294967295, 7] by decide] at H6
  rw [show partLo 2 [1] [7] = [0, 7] by decide, show partHi 2 [1] [7] = [4294967295, 7] by decide, show err (partOk 2 [1] [7]) = 0 by decide]
  have H7 := hid ((H6.out.alloc (.cells #[.int .i64 1, .int .i64 1] 3)).point (l := [7, 7]) (by simp) (cs := #[.int .u32 7, .int .u32 7]) rfl)
  simp only [World.size_alloc] at H7
  go_wp2_with fail
  have HJ : Hid (Is (((w3.alloc (.cells #[.slice A3 2 c3, .slice A3' 2 c3'] 33)).alloc (.cells #[.int .i64 1, .int .i64 1] 3)).alloc (.cells #[.int .u32 7, .int .u32 7] 46)) (some ⟨w3.heap.size + 1, 0, none⟩) [1, 1]) := hid (by
    have h := (is_new (w3.alloc (.cells #[.slice A3 2 c3, .slice A3' 2 c3'] 33)) [1, 1] (by simp)).below (below_alloc _ (.cells #[.int .u32 7, .int .u32 7] 46))
    rw [World.size_alloc] at h; exact h)
  clear HI
  refine (partial_ok 2 [1, 1] [7, 7] (some ⟨w3.heap.size + 1, 0, none⟩) (some ⟨w3.heap.size + 1 + 1, 0, none⟩) 2 2 _ HJ.out (H7.out.pt (by simp)) (by simp)).mono ?_
  rintro e w4 ⟨A4, c4, A4', c4', rfl, -, -, hb⟩
  have H8 := hid ((H7.out.step hb).box #[.slice A4 0 c4, .slice A4' 0 c4'])
  clear hb H6 H7
  rw [show partLo 2 [1, 1] [7, 7] = [] by decide, show partHi 2 [1, 1] [7, 7] = [] by decide, show err (partOk 2 [1, 1] [7, 7]) = 1 by decide]
  have H9 := hid (H8.out.point (l := [2147483648, 1073741824]) (by simp) (cs := #[.int .u32 2147483648, .int .u32 1073741824]) rfl)
  go_wp2_with fail
  refine (bits_ok [2147483648, 1073741824] _ _ 4 _ (H9.out.pt (by simp)) (by simp)).mono ?_
  rintro e w5 ⟨rfl, n, hw5⟩
  rw [show bitsV [2147483648, 1073741824] 4 = 9 by decide, show err (bitsOk [2147483648, 1073741824].length 4) = 0 by decide]
  have H10 : Hid (Cx w w5 _ _) := hid (hw5 ▸ H9.out.drewN n)
  clear H8 H9 hw5
  have H11 := hid ((H10.out.point (l := [1, 2]) (by simp) (cs := #[.int .u32 1, .int .u32 2]) rfl).point (l := [1, 3]) (by simp) (cs := #[.int .u32 1, .int .u32 3]) rfl)
  simp only [World.size_alloc] at H11
  go_wp2_with fail
  all_goals
    refine (compare_ok [1, 2] [1, 3] _ _ _ _ _ (H11.out.pt (by simp)) (H11.out.pt (by simp)) (by simp)).mono ?_
    rintro e w6 ⟨rfl, rfl⟩
    rw [show cmp [1, 2] [1, 3] = -1 by decide]
    have H12 := hid (H11.out.point (l := [1, 6]) (by simp) (cs := #[.int .u32 1, .int .u32 6]) rfl)
    clear H10 H11
    simp only [World.size_alloc] at H12
    have x := H12.out.cells (g := w.heap.size + 1 + 1) (x := .slice (some ⟨w.heap.size, 0, none⟩) 2 2) (y := .slice (some ⟨w.heap.size + 1, 0, none⟩) 2 2) (by simp)
    go_wp2_with fail
    refine (in_ok [1, 6] [1, 2] [5, 6] _ _ _ _ _ _ _ (H12.out.pt (by simp)) (H12.out.pt (by simp)) (H12.out.pt (by simp)) (by simp) (by simp)).mono ?_
    rintro e w7 ⟨rfl, hb⟩
    rw [show inB [1, 6] [1, 2] [5, 6] = true by decide]
    have H13 := hid ((H12.out.step hb).point (l := [1, 7]) (by simp) (cs := #[.int .u32 1, .int .u32 7]) rfl)
    clear hb H12 x
    have x := H13.out.cells (g := w.heap.size + 1 + 1) (x := .slice (some ⟨w.heap.size, 0, none⟩) 2 2) (y := .slice (some ⟨w.heap.size + 1, 0, none⟩) 2 2) (by simp)
    go_wp2_with fail
    refine (in_ok [1, 7] [1, 2] [5, 6] _ _ _ _ _ _ _ (H13.out.pt (by simp)) (H13.out.pt (by simp)) (H13.out.pt (by simp)) (by simp) (by simp)).mono ?_
    rintro e w8 ⟨rfl, hb⟩
    rw [show inB [1, 7] [1, 2] [5, 6] = false by decide]
    have x14 := (H13.out.step hb).cells (g := w1.heap.size) (x := .slice A 2 c) (y := .slice A' 2 c') (by simp)
    have H14 := hid (((H13.out.step hb).point (l := [3, 2]) (by simp) (cs := #[.int .u32 3, .int .u32 2]) rfl).point (l := [5, 2]) (by simp) (cs := #[.int .u32 5, .int .u32 2]) rfl)
    clear hb H13 x
    simp only [World.size_alloc] at H14
    go_wp2_with fail
    refine (sameBox_ok [3, 2] [5, 2] [3, 2] [5, 2] _ _ _ _ _ _ _ _ _ (H14.out.pt (p := A) (by simp)) (H14.out.pt (p := A') (by simp)) (H14.out.pt (p := some ⟨w8.heap.size, 0, none⟩) (by simp)) (H14.out.pt (p := some ⟨w8.heap.size + 1, 0, none⟩) (by simp)) (by simp) (by simp)).mono ?_
    rintro e w9 ⟨rfl, hb⟩
    rw [show sameBoxB [3, 2] [5, 2] [3, 2] [5, 2] = true by decide]
    have x15 := (H14.out.step hb).cells (g := w3.heap.size) (x := .slice A3 2 c3) (y := .slice A3' 2 c3') (by simp)
    have H15 := hid (((H14.out.step hb).point (l := [0, 7]) (by simp) (cs := #[.int .u32 0, .int .u32 7]) rfl).point (l := [4294967295, 7]) (by simp) (cs := #[.int .u32 4294967295, .int .u32 7]) rfl)
    clear hb H14 x14
    simp only [World.size_alloc] at H15
    go_wp2_with fail
    refine (sameBox_ok [0, 7] [4294967295, 7] [0, 7] [4294967295, 7] _ _ _ _ _ _ _ _ _ (H15.out.pt (p := A3) (by simp)) (H15.out.pt (p := A3') (by simp)) (H15.out.pt (p := some ⟨w9.heap.size, 0, none⟩) (by simp)) (H15.out.pt (p := some ⟨w9.heap.size + 1, 0, none⟩) (by simp)) (by simp) (by simp)).mono ?_
    rintro e w10 ⟨rfl, hb⟩
    rw [show sameBoxB [0, 7] [4294967295, 7] [0, 7] [4294967295, 7] = true by decide]
    have H16 := hid ((H15.out.step hb).point (l := [1]) (by simp) (cs := #[.int .u32 1]) rfl)
    clear hb H15 x15
    go_wp2_with fail
    refine (check_ok _ 1 1 1 _).mono ?_
    rintro e w11 ⟨rfl, rfl⟩
    rw [show err (checkB 1 1) = 0 by decide]
    have x := H16.out.cells (g := w.heap.size + 1 + 1) (x := .slice (some ⟨w.heap.size, 0, none⟩) 2 2) (y := .slice (some ⟨w.heap.size + 1, 0, none⟩) 2 2) (by simp)
    go_wp2_with fail
    refine (checkBox_ok [1, 2] [5, 6] _ _ _ _ 1 _ (H16.out.pt (by simp)) (H16.out.pt (by simp)) (by simp)).mono ?_
    rintro e w12 ⟨rfl, hb⟩
    rw [show err (boxB [1, 2] [5, 6] 1) = 1 by decide]
    have H17 := hid (H16.out.step hb)
    clear hb H16 x
    go_wp2_with fail
    refine (whole_ok 3 _).mono ?_
    rintro e w13 ⟨A5, c5, A5', c5', rfl, -, -, hb⟩
    rw [show wholeLo 3 = [0, 0, 0] by decide, show wholeHi 3 = [4294967295, 4294967295, 4294967295] by decide]
    have H18 := hid (H17.out.step hb)
    clear hb H17
    have hf := field33 A5 A5' 3 c5 3 c5'
    go_wp2_with fail
    go_ret
    exact ⟨rfl, H18.out.below⟩
end Go.Proofs.Ytgnacoejahpjoaa.Ky
