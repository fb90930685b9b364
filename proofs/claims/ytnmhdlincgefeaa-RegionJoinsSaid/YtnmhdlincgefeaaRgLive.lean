/- live of region. -/
import Derived.Test.YtnmhdlincgefeaaRgAll
import Derived.Test.YtnmhdlincgefeaaRgJoin
import Derived.Test.YtnmhdlincgefeaaSlEq
namespace Go.Proofs.Ytnmhdlincgefeaa.Rg
open Go.RowKit
open Go.Lib (hid)
open Go.Proofs.Ytnmhdlincgefeaa.Sl
open Go.Proofs.Ytnmhdlincgefeaa.Ky (Pt sameBox_ok sameBoxB sameB)

set_option maxRecDepth 100000 in
set_option maxHeartbeats 2000000 in
theorem of_none (n : Int) (w : World) : Calls Try.prog 11 #[.pointer none, .int .i64 n] w (FRet w none) := by
  go_enter Try.func11, Try.ntmps11
  go_wp2_with fail
  refine (Cells_none w).mono ?_
  rintro e w1 ⟨rfl, hb⟩
  have HB := hid hb; clear hb
  go_wp2_with fail
  refine wp_loop_rounds 1 ?_
  rw [rounds_succ]
  go_wp2_with fail
  refine (Sizes_none w1).mono ?_
  rintro e w2 ⟨rfl, hb⟩
  have HB := hid (HB.out.trans (hb.mono HB.out.size)); clear hb
  have HF := hid (filled_nil none none 0 0 w2)
  go_wp2_with fail
  refine HF.out.mono ?_
  rintro e w3 ⟨rfl, rfl⟩
  go_wp2_with fail
  go_ret3
  exact FRet.none HB.out
/-- Joined, whatever is asked -/
theorem joined_any (al ah bl bh : List Nat) (p q r s : Option Addr) (c1 c2 c3 c4 : Nat) (w : World) (hp : Pt w p al) (hq : Pt w q ah) (hr : Pt w r bl) (hs : Pt w s bh) (hl : al.length ≤ 1000000) (hl2 : bl.length ≤ 1000000) :
    Calls Try.prog 17 #[.agg #[.slice p al.length c1, .slice q ah.length c2], .agg #[.slice r bl.length c3, .slice s bh.length c4]] w (JRet w al ah bl bh (joinL al ah bl bh)) := by
  cases ho : okJ al ah bl bh with
  | true => exact joined_ok al ah bl bh p q r s c1 c2 c3 c4 w hp hq hr hs ho
  | false => rw [joinL_no ho]; exact joined_bad al ah bl bh p q r s c1 c2 c3 c4 w hp hq hr hs hl hl2 ho
theorem row_lit {w : World} {g : Nat} (l : List Int) {cs : Array Value} (h : w.heap[g]? = some (.cells cs 3 (0, 0))) (hc : cs = (iv l).toArray) : Row w g l := ⟨[], by rw [List.append_nil, ← hc]; exact h⟩
theorem slab_lit {w W : World} {S : List Nat} {C : List Int} {g1 g2 n m : Nat} (c c' : Nat) (h1 : Row W g1 (zs S)) (h2 : Row W g2 C) (hn : S.length = n) (hm : C.length = m) (hb : Below w.heap.size w W) (hp : prodAns (zs S) = some C.length) (hl : S.length ≤ 6) (hl2 : C.length ≤ 4096) :
    Calls Try.prog 9 #[.slice (some ⟨g1, 0, none⟩) n c, .slice (some ⟨g2, 0, none⟩) m c'] W fun e w' => ∃ b g h, e = .returned (.tuple #[.pointer (some ⟨b, 0, none⟩), .int .i64 0]) ∧ Slb w' b g h (zs S) C ∧ Below w.heap.size w w' := by
  have := of_ok_slab (zs S) C (some ⟨g1, 0, none⟩) (some ⟨g2, 0, none⟩) c c' W h1.cells h2.cells (by rw [zs_len]; omega) (by omega) hp
  rw [zs_len, hn, hm] at this
  exact this.mono fun e w' ⟨b, g, h, e1, e2, _, e4⟩ => ⟨b, g, h, e1, e2, hb.trans (e4.mono hb.size)⟩
theorem two_rows (w : World) (l m : List Int) {cs ds : Array Value} (h1 : cs = (iv l).toArray) (h2 : ds = (iv m).toArray) : Row ((w.alloc (.cells cs 3)).alloc (.cells ds 3)) w.heap.size l ∧ Row ((w.alloc (.cells cs 3)).alloc (.cells ds 3)) (w.heap.size + 1) m ∧ Below w.heap.size w ((w.alloc (.cells cs 3)).alloc (.cells ds 3)) := by
  obtain ⟨a, b, c⟩ := two_new w (.cells cs 3) (.cells ds 3)
  exact ⟨row_lit l a h1, row_lit m b h2, c⟩
theorem one_row (w : World) (l : List Int) {cs : Array Value} (h1 : cs = (iv l).toArray) : Row (w.alloc (.cells cs 3)) w.heap.size l ∧ Below w.heap.size w (w.alloc (.cells cs 3)) := ⟨row_lit l (heap_alloc_new w _) h1, below_alloc w _⟩
theorem pt_one {w : World} {g n : Nat} (h : w.heap[g]? = some (.cells #[.int .u32 (n : Int)] 55 (0, 0))) (hn : n < 4294967296) : Pt w (some ⟨g, 0, none⟩) [n] :=
  ⟨fun j hj => by
    have : j = 0 := by simpa using hj
    subst this
    exact ⟨g, 0, rfl, (Array.getElem?_eq_some_iff.1 h).1, by rw [cell_of_row _ _ _ _ _ _ h]; rfl⟩, fun j hj => by
    have : j = 0 := by simpa using hj
    subst this
    exact hn⟩
theorem four_pts (w : World) (a b c d : Nat) (ha : a < 4294967296) (hb : b < 4294967296) (hc : c < 4294967296) (hd : d < 4294967296) {W : World} (hW : W = (((w.alloc (.cells #[.int .u32 (a : Int)] 55)).alloc (.cells #[.int .u32 (b : Int)] 55)).alloc (.cells #[.int .u32 (c : Int)] 55)).alloc (.cells #[.int .u32 (d : Int)] 55)) :
    Pt W (some ⟨w.heap.size, 0, none⟩) [a] ∧ Pt W (some ⟨w.heap.size + 1, 0, none⟩) [b] ∧ Pt W (some ⟨w.heap.size + 1 + 1, 0, none⟩) [c] ∧ Pt W (some ⟨w.heap.size + 1 + 1 + 1, 0, none⟩) [d] ∧ Below w.heap.size w W := by
  obtain ⟨a1, a2, a3⟩ := two_new w (.cells #[.int .u32 (a : Int)] 55) (.cells #[.int .u32 (b : Int)] 55)
  obtain ⟨V, hV⟩ : ∃ V, (w.alloc (.cells #[.int .u32 (a : Int)] 55)).alloc (.cells #[.int .u32 (b : Int)] 55) = V := ⟨_, rfl⟩
  have hs : V.heap.size = w.heap.size + 1 + 1 := by rw [← hV]; simp
  rw [hV] at a1 a2 a3 hW
  obtain ⟨c1, c2, c3⟩ := two_new V (.cells #[.int .u32 (c : Int)] 55) (.cells #[.int .u32 (d : Int)] 55)
  rw [← hW] at c1 c2 c3
  rw [hs] at c1 c2
  exact ⟨(pt_one a1 ha).below c3, (pt_one a2 hb).below c3, pt_one c1 hc, pt_one c2 hd, a3.trans (c3.mono a3.size)⟩
theorem two_pts (w : World) (a b : Nat) (ha : a < 4294967296) (hb : b < 4294967296) : Pt ((w.alloc (.cells #[.int .u32 (a : Int)] 55)).alloc (.cells #[.int .u32 (b : Int)] 55)) (some ⟨w.heap.size, 0, none⟩) [a] ∧ Pt ((w.alloc (.cells #[.int .u32 (a : Int)] 55)).alloc (.cells #[.int .u32 (b : Int)] 55)) (some ⟨w.heap.size + 1, 0, none⟩) [b] ∧ Below w.heap.size w ((w.alloc (.cells #[.int .u32 (a : Int)] 55)).alloc (.cells #[.int .u32 (b : Int)] 55)) := by
  obtain ⟨a1, a2, a3⟩ := two_new w (.cells #[.int .u32 (a : Int)] 55) (.cells #[.int .u32 (b : Int)] 55)
  exact ⟨pt_one a1 ha, pt_one a2 hb, a3⟩
theorem ints_lit (l : List Int) (n : Nat) (p q : Option Addr) (c c' : Nat) (w : World) (hp : CellsAt w p (iv l)) (hq : CellsAt w q (iv l)) (hn : l.length = n) (hl : n ≤ 1000) :
    Calls Try.prog 15 #[.slice p n c, .slice q n c'] w fun e w' => e = .returned (.bool true) ∧ Below w.heap.size w w' := by
  have := ints_ok l l p q c c' w hp hq (by omega)
  rw [hn] at this
  exact this.mono fun e w' ⟨h1, N, h2⟩ => ⟨by rw [h1]; simp, by rw [h2]; exact below_drewN (Below.refl _ _) N⟩
theorem f1 : filledL [2, 3] (plc [1, 1, 2, 1, 1, 3] 6 1) = some ([0, 0], [1, 1]) := by decide
theorem f2 : filledL [2, 2] (plc [1, 2, 2, 1] 4 1) = none := by decide
theorem f3 : numL [1, 1, 2, 1, 1, 3] = [1, 2, 3] ∧ allB [2, 3] [1, 1, 2, 1, 1, 3] = true := by decide
theorem f4 : numL [1, 2, 2, 1] = [1, 2] ∧ allB [2, 2] [1, 2, 2, 1] = false := by decide
theorem f5 : joinL [5] [9] [0] [4] = some 0 ∧ zmin [5] [0] = [0] ∧ zmax [9] [4] = [9] := by decide
theorem f6 : joinL [0] [5] [6] [9] = none := by decide
set_option maxRecDepth 100000 in
set_option maxHeartbeats 8000000 in
theorem live_any (w : World) : Calls Try.prog 8 #[] w fun e w' => e = .returned (.bool true) ∧ Below w.heap.size w w' := by
  have HR1 := hid (two_rows w [2, 3] [1, 1, 2, 1, 1, 3] (cs := #[.int .i64 2, .int .i64 3]) (ds := #[.int .i64 1, .int .i64 1, .int .i64 2, .int .i64 1, .int .i64 1, .int .i64 3]) rfl rfl)
  go_enter Try.func8, Try.ntmps8
  go_wp2_with fail
  refine (slab_lit (S := [2, 3]) (C := [1, 1, 2, 1, 1, 3]) 2 6 HR1.out.1 HR1.out.2.1 rfl rfl HR1.out.2.2 (by decide) (by decide) (by decide)).mono ?_
  rintro e w1 ⟨b1, g1, h1, rfl, hs1, hb1⟩
  have HS1 := hid hs1; have HB1 := hid hb1
  have HR2 := hid (two_rows w1 [2, 2] [1, 2, 2, 1] (cs := #[.int .i64 2, .int .i64 2]) (ds := #[.int .i64 1, .int .i64 2, .int .i64 2, .int .i64 1]) rfl rfl)
  clear hs1 hb1
  go_wp2_with fail
  refine (slab_lit (S := [2, 2]) (C := [1, 2, 2, 1]) 2 4 HR2.out.1 HR2.out.2.1 rfl rfl HR2.out.2.2 (by decide) (by decide) (by decide)).mono ?_
  rintro e w2 ⟨b2, g2, h2, rfl, hs2, hb2⟩
  have HS2 := hid hs2; have HB2 := hid (HB1.out.trans (hb2.mono HB1.out.size))
  have HS1 := hid (HS1.out.below hb2)
  have fit1 : Fits [2, 3] ([1, 1, 2, 1, 1, 3] : List Int) := ⟨by decide, by decide, by decide, by decide, by decide⟩
  have fit2 : Fits [2, 2] ([1, 2, 2, 1] : List Int) := ⟨by decide, by decide, by decide, by decide, by decide⟩
  have HF1 := hid fit1; have HF2 := hid fit2
  clear hs2 hb2 fit1 fit2
  have HC := hid (of_ok HS1.out HF1.out 1)
  go_wp2_with fail
  refine HC.out.mono ?_
  rintro e w3 ⟨p3, q3, k3, m3, rfl, hp3, hq3, hb3⟩
  rw [show ([1, 1, 2, 1, 1, 3] : List Int).length = 6 from rfl, f1] at *
  have HP3 := hid (show CellsAt w3 p3 (iv (zs [0, 0])) from hp3); have HQ3 := hid (show CellsAt w3 q3 (iv (zs [1, 1])) from hq3)
  have HB3 := hid (HB2.out.trans (hb3.mono HB2.out.size))
  have HS1 := hid (HS1.out.below hb3); have HS2 := hid (HS2.out.below hb3)
  clear hp3 hq3 hb3 HC
  have HC := hid (of_ok HS2.out HF2.out 1)
  go_wp2_with fail
  refine HC.out.mono ?_
  rw [show ([1, 2, 2, 1] : List Int).length = 4 from rfl, f2]
  rintro e w4 ⟨p4, q4, k4, m4, rfl, hp4, hq4, hb4⟩
  have HB4 := hid (HB3.out.trans (hb4.mono HB3.out.size))
  have HS1 := hid (HS1.out.below hb4); have HS2 := hid (HS2.out.below hb4)
  have HP3 := hid (HP3.out.below hb4); have HQ3 := hid (HQ3.out.below hb4)
  clear hp4 hq4 hb4 HC
  have HC := hid (all_ok HS1.out HF1.out (by decide))
  go_wp2_with fail
  refine HC.out.mono ?_
  rintro e w5 ⟨p5, k5, rfl, hp5, hb5⟩
  rw [f3.1] at hp5
  rw [f3.1, f3.2]
  have HP5 := hid hp5
  have HB5 := hid (HB4.out.trans (hb5.mono HB4.out.size))
  have HS2 := hid (HS2.out.below hb5)
  have HP3 := hid (HP3.out.below hb5); have HQ3 := hid (HQ3.out.below hb5)
  clear hp5 hb5 HC
  have HC := hid (all_ok HS2.out HF2.out (by decide))
  go_wp2_with fail
  refine HC.out.mono ?_
  rintro e w6 ⟨p6, k6, rfl, hp6, hb6⟩
  rw [f4.1, f4.2]
  have HB6 := hid (HB5.out.trans (hb6.mono HB5.out.size))
  have HP3 := hid (HP3.out.below hb6); have HQ3 := hid (HQ3.out.below hb6); have HP5 := hid (HP5.out.below hb6)
  clear hp6 hb6 HC
  obtain ⟨V6, hV6⟩ : ∃ V6, V6 = (((w6.alloc (.cells #[.int .u32 5] 55)).alloc (.cells #[.int .u32 9] 55)).alloc (.cells #[.int .u32 0] 55)).alloc (.cells #[.int .u32 4] 55) := ⟨_, rfl⟩
  have HQ6 := hid (four_pts w6 5 9 0 4 (by decide) (by decide) (by decide) (by decide) hV6)
  have HJ := hid (joined_any [5] [9] [0] [4] (some ⟨w6.heap.size, 0, none⟩) (some ⟨w6.heap.size + 1, 0, none⟩) (some ⟨w6.heap.size + 1 + 1, 0, none⟩) (some ⟨w6.heap.size + 1 + 1 + 1, 0, none⟩) 1 1 1 1 V6 HQ6.out.1 HQ6.out.2.1 HQ6.out.2.2.1 HQ6.out.2.2.2.1 (by decide) (by decide))
  rw [f5.1] at HJ
  rw [show (lowR (some (([0, 0], [1, 1]) : List Nat × List Nat))).length = 2 from rfl, show (highR (some (([0, 0], [1, 1]) : List Nat × List Nat))).length = 2 from rfl]
  go_wp2_with fail
  rw [← hV6]
  clear hV6
  refine HJ.out.mono ?_
  rintro e w7 ⟨p7, k7, q7, m7, rfl, hp7, hq7, hb7⟩
  have HP7 := hid (show Pt w7 p7 [0] from hp7); have HQ7 := hid (show Pt w7 q7 [9] from hq7)
  rw [show (jlo [5] [0] (some 0)).length = 1 from rfl, show (jhi [9] [4] (some 0)).length = 1 from rfl, show ((((some 0 : Option Nat).getD 0 : Nat)) : Int) = 0 from rfl, show (some 0 : Option Nat).isSome = true from rfl]
  have hb67 := HQ6.out.2.2.2.2.trans (hb7.mono HQ6.out.2.2.2.2.size)
  have HB7 := hid (HB6.out.trans (hb67.mono HB6.out.size))
  have HP3 := hid (HP3.out.below hb67); have HQ3 := hid (HQ3.out.below hb67); have HP5 := hid (HP5.out.below hb67)
  clear hp7 hq7 hb7 hb67 HJ HQ6
  obtain ⟨Z7, hZ7⟩ : ∃ Z7, Z7 = w7.alloc (.cells #[.slice p7 1 k7, .slice q7 1 m7] 43) := ⟨_, rfl⟩
  have hz7b : Below w7.heap.size w7 Z7 := by rw [hZ7]; exact below_alloc w7 _
  have hz7c : Z7.heap[w7.heap.size]? = some (.cells #[.slice p7 1 k7, .slice q7 1 m7] 43 (0, 0)) := by rw [hZ7]; exact heap_alloc_new w7 _
  have HZB := hid hz7b; have HZC := hid hz7c
  have HB7 := hid (HB7.out.trans (hz7b.mono HB7.out.size))
  have HP3 := hid (HP3.out.below hz7b); have HQ3 := hid (HQ3.out.below hz7b); have HP5 := hid (HP5.out.below hz7b); have HP7 := hid (HP7.out.below hz7b); have HQ7 := hid (HQ7.out.below hz7b)
  obtain ⟨V7, hV7⟩ : ∃ V7, V7 = (((Z7.alloc (.cells #[.int .u32 0] 55)).alloc (.cells #[.int .u32 5] 55)).alloc (.cells #[.int .u32 6] 55)).alloc (.cells #[.int .u32 9] 55) := ⟨_, rfl⟩
  have HQ6 := hid (four_pts Z7 0 5 6 9 (by decide) (by decide) (by decide) (by decide) hV7)
  have hsz : Z7.heap.size = w7.heap.size + 1 := by rw [hZ7]; simp
  have HJ := hid (joined_any [0] [5] [6] [9] (some ⟨Z7.heap.size, 0, none⟩) (some ⟨Z7.heap.size + 1, 0, none⟩) (some ⟨Z7.heap.size + 1 + 1, 0, none⟩) (some ⟨Z7.heap.size + 1 + 1 + 1, 0, none⟩) 1 1 1 1 V7 HQ6.out.1 HQ6.out.2.1 HQ6.out.2.2.1 HQ6.out.2.2.2.1 (by decide) (by decide))
  rw [f6] at HJ
  rw [hsz] at HJ
  clear hz7b hz7c hsz
  rw [show (lowR (none : Option (List Nat × List Nat))).length = 0 from rfl, show (highR (none : Option (List Nat × List Nat))).length = 0 from rfl]
  go_wp2_with fail
  rw [← hZ7, ← hV7]
  clear hZ7 hV7
  refine HJ.out.mono ?_
  rintro e w8 ⟨p8, k8, q8, m8, rfl, -, -, hb8⟩
  rw [show (jlo [0] [6] none).length = 0 from rfl, show (jhi [5] [9] none).length = 0 from rfl, show ((((none : Option Nat).getD 0 : Nat)) : Int) = 0 from rfl, show (none : Option Nat).isSome = false from rfl]
  have hb78 := HQ6.out.2.2.2.2.trans (hb8.mono HQ6.out.2.2.2.2.size)
  obtain ⟨Z8, hZ8⟩ : ∃ Z8, w8.alloc (.cells #[.slice p8 0 k8, .slice q8 0 m8] 43) = Z8 := ⟨_, rfl⟩
  have hz8 : Below Z7.heap.size Z7 Z8 := by rw [← hZ8]; exact hb78.trans ((below_alloc w8 _).mono hb78.size)
  have HB8 := hid (HB7.out.trans (hz8.mono HB7.out.size))
  have HP3 := hid (HP3.out.below hz8); have HQ3 := hid (HQ3.out.below hz8); have HP5 := hid (HP5.out.below hz8); have HP7 := hid (HP7.out.below hz8); have HQ7 := hid (HQ7.out.below hz8)
  have HZC := hid ((hz8.block _ (Array.getElem?_eq_some_iff.1 HZC.out).1).trans HZC.out)
  -- the rows that are held beside
  obtain ⟨r1, r2⟩ := one_row Z8 [0, 0] (cs := #[.int .i64 0, .int .i64 0]) rfl
  have HI1 := hid (ints_lit [0, 0] 2 p3 (some ⟨Z8.heap.size, 0, none⟩) k3 2 _ (HP3.out.below r2) r1.cells rfl (by omega))
  have HR := hid r2
  clear r1 r2 hz8 hb78 hb8 HJ HQ6
  go_wp2_with fail
  refine HI1.out.mono ?_
  rintro e w9 ⟨rfl, hb9⟩
  have hz9 := HR.out.trans (hb9.mono HR.out.size)
  have HB9 := hid (HB8.out.trans (hz9.mono HB8.out.size))
  have HQ3 := hid (HQ3.out.below hz9); have HP5 := hid (HP5.out.below hz9); have HP7 := hid (HP7.out.below hz9); have HQ7 := hid (HQ7.out.below hz9)
  have HZC := hid ((hz9.block _ (Array.getElem?_eq_some_iff.1 HZC.out).1).trans HZC.out)
  obtain ⟨r1, r2⟩ := one_row w9 [1, 1] (cs := #[.int .i64 1, .int .i64 1]) rfl
  have HI2 := hid (ints_lit [1, 1] 2 q3 (some ⟨w9.heap.size, 0, none⟩) m3 2 _ (HQ3.out.below r2) r1.cells rfl (by omega))
  have HR := hid r2
  clear r1 r2 hz9 hb9 HI1 hZ8
  go_wp2_with fail
  refine HI2.out.mono ?_
  rintro e w10 ⟨rfl, hb10⟩
  have hz10 := HR.out.trans (hb10.mono HR.out.size)
  have HB10 := hid (HB9.out.trans (hz10.mono HB9.out.size))
  have HP5 := hid (HP5.out.below hz10); have HP7 := hid (HP7.out.below hz10); have HQ7 := hid (HQ7.out.below hz10)
  have HZC := hid ((hz10.block _ (Array.getElem?_eq_some_iff.1 HZC.out).1).trans HZC.out)
  obtain ⟨r1, r2⟩ := one_row w10 [1, 2, 3] (cs := #[.int .i64 1, .int .i64 2, .int .i64 3]) rfl
  have HI3 := hid (ints_lit [1, 2, 3] 3 p5 (some ⟨w10.heap.size, 0, none⟩) k5 3 _ (HP5.out.below r2) r1.cells rfl (by omega))
  have HR := hid r2
  clear r1 r2 hz10 hb10 HI2
  go_wp2_with fail
  refine HI3.out.mono ?_
  rintro e w11 ⟨rfl, hb11⟩
  have hz11 := HR.out.trans (hb11.mono HR.out.size)
  have HB11 := hid (HB10.out.trans (hz11.mono HB10.out.size))
  have HP7 := hid (HP7.out.below hz11); have HQ7 := hid (HQ7.out.below hz11)
  have hzc := (hz11.block _ (Array.getElem?_eq_some_iff.1 HZC.out).1).trans HZC.out
  have zc : w11.cell? ⟨w7.heap.size, 0, none⟩ = some (.slice p7 1 k7) ∧ w11.cell? ⟨w7.heap.size, 1, none⟩ = some (.slice q7 1 m7) := by
    constructor
    · rw [cell_of_row _ _ _ _ _ _ hzc]; rfl
    · rw [cell_of_row _ _ _ _ _ _ hzc]; rfl
  have hpp := two_pts w11 0 9 (by decide) (by decide)
  have HSB := hid (sameBox_ok [0] [9] [0] [9] p7 q7 (some ⟨w11.heap.size, 0, none⟩) (some ⟨w11.heap.size + 1, 0, none⟩) k7 m7 1 1 _ (HP7.out.below hpp.2.2) (HQ7.out.below hpp.2.2) hpp.1 hpp.2.1 (by decide) (by decide))
  have HPP := hid hpp.2.2
  clear hpp hz11 hb11 HI3 hzc
  go_wp2_with fail
  refine HSB.out.mono ?_
  rintro e w12 ⟨rfl, hb12⟩
  rw [show sameBoxB [0] [9] [0] [9] = true from by decide]
  have HB12 := hid (HB11.out.trans ((HPP.out.trans (hb12.mono HPP.out.size)).mono HB11.out.size))
  clear hb12 zc
  go_wp2_with fail
  go_ret
  exact ⟨rfl, HB12.out⟩
end Go.Proofs.Ytnmhdlincgefeaa.Rg
