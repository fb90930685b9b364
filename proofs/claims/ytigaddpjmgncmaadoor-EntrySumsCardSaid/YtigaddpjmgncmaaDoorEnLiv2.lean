/- live of entry. -/
import Derived.Test.YtigaddpjmgncmaaDoorEnEq
namespace Go.Proofs.YtigaddpjmgncmaaDoor.En
open Go.RowKit
open Go.Lib (hid)
open Go.Proofs.YtigaddpjmgncmaaDoor.Sm (U sumB)
theorem lv_new (V : World) : Pgs (V.alloc (.cells #[.int .i64 2, .int .i64 258, .string lvB] 23)) (some ⟨V.heap.size, 0, none⟩) [((2 : Int), (258 : Int), lvB)] :=
  lv_pgs _ _ (by simp) (by rw [cell_of_row _ _ _ _ _ _ (heap_alloc_new _ _)]; rfl) (by rw [cell_of_row _ _ _ _ _ _ (heap_alloc_new _ _)]; rfl) (by rw [cell_of_row _ _ _ _ _ _ (heap_alloc_new _ _)]; rfl)
/-- the sum of the one page -/
noncomputable def lvU : Int := U (sumB (textS [((2 : Int), (258 : Int), lvB)] 1))
theorem lv_sum1 (V : World) (hV : Lst (V.alloc (.cells #[.int .i64 2, .int .i64 258, .string lvB] 23))) : Calls Tryd.prog 14 #[.slice (some ⟨V.heap.size, 0, none⟩) 1 1] (V.alloc (.cells #[.int .i64 2, .int .i64 258, .string lvB] 23)) fun e w' => e = .returned (.int .u32 lvU) ∧ Below (V.alloc (.cells #[.int .i64 2, .int .i64 258, .string lvB] 23)).heap.size (V.alloc (.cells #[.int .i64 2, .int .i64 258, .string lvB] 23)) w' :=
  sum_ok [((2 : Int), (258 : Int), lvB)] (some ⟨V.heap.size, 0, none⟩) 1 _ hV (lv_new V) (by decide)
theorem lv_rsum1 (V : World) : Calls Tryd.prog 15 #[.slice (some ⟨V.heap.size, 0, none⟩) 1 1] (V.alloc (.cells #[.int .i64 2, .int .i64 258, .string lvB] 23)) fun e w' => e = .returned (.int .u32 lvU) ∧ Below (V.alloc (.cells #[.int .i64 2, .int .i64 258, .string lvB] 23)).heap.size (V.alloc (.cells #[.int .i64 2, .int .i64 258, .string lvB] 23)) w' :=
  refsum_ok [((2 : Int), (258 : Int), lvB)] (some ⟨V.heap.size, 0, none⟩) 1 _ (lv_new V) (by decide)
theorem lv_pgH (V : World) (g : Nat) (h : V.heap[g]? = some (.cells #[.int .i64 2, .int .i64 258, .string lvB] 23)) : Pgs V (some ⟨g, 0, none⟩) [((2 : Int), (258 : Int), lvB)] :=
  lv_pgs _ _ (Array.getElem?_eq_some_iff.1 h).1 (by rw [cell_of_row _ _ _ _ _ _ h]; rfl) (by rw [cell_of_row _ _ _ _ _ _ h]; rfl) (by rw [cell_of_row _ _ _ _ _ _ h]; rfl)
theorem lv_first (V : World) : ((V.alloc (.cells #[.int .i64 2, .int .i64 258, .string lvB] 23)).alloc (.cells #[.int .i64 2, .int .i64 258, .string lvB] 23)).heap[V.heap.size]? = some (.cells #[.int .i64 2, .int .i64 258, .string lvB] 23) :=
  ((Below.refl (V.alloc (.cells #[.int .i64 2, .int .i64 258, .string lvB] 23)).heap.size (V.alloc (.cells #[.int .i64 2, .int .i64 258, .string lvB] 23))).alloc (Nat.le_refl _) (.cells #[.int .i64 2, .int .i64 258, .string lvB] 23)).block V.heap.size (by simp) |>.trans (heap_alloc_new _ _)
theorem lv_second (V : World) : ((V.alloc (.cells #[.int .i64 2, .int .i64 258, .string lvB] 23)).alloc (.cells #[.int .i64 2, .int .i64 258, .string lvB] 23)).heap[V.heap.size + 1]? = some (.cells #[.int .i64 2, .int .i64 258, .string lvB] 23) := by
  have h := heap_alloc_new (V.alloc (.cells #[.int .i64 2, .int .i64 258, .string lvB] 23)) (.cells #[.int .i64 2, .int .i64 258, .string lvB] 23)
  rw [show (V.alloc (.cells #[.int .i64 2, .int .i64 258, .string lvB] 23)).heap.size = V.heap.size + 1 by simp] at h
  exact h
theorem lv_sumB (V : World) (hV : Lst ((V.alloc (.cells #[.int .i64 2, .int .i64 258, .string lvB] 23)).alloc (.cells #[.int .i64 2, .int .i64 258, .string lvB] 23))) : Calls Tryd.prog 14 #[.slice (some ⟨V.heap.size, 0, none⟩) 1 1] ((V.alloc (.cells #[.int .i64 2, .int .i64 258, .string lvB] 23)).alloc (.cells #[.int .i64 2, .int .i64 258, .string lvB] 23)) fun e w' => e = .returned (.int .u32 lvU) ∧ Below ((V.alloc (.cells #[.int .i64 2, .int .i64 258, .string lvB] 23)).alloc (.cells #[.int .i64 2, .int .i64 258, .string lvB] 23)).heap.size ((V.alloc (.cells #[.int .i64 2, .int .i64 258, .string lvB] 23)).alloc (.cells #[.int .i64 2, .int .i64 258, .string lvB] 23)) w' :=
  sum_ok [((2 : Int), (258 : Int), lvB)] (some ⟨V.heap.size, 0, none⟩) 1 _ hV (lv_pgH _ _ (lv_first V)) (by decide)
theorem lv_sumC (V : World) (hV : Lst ((V.alloc (.cells #[.int .i64 2, .int .i64 258, .string lvB] 23)).alloc (.cells #[.int .i64 2, .int .i64 258, .string lvB] 23))) : Calls Tryd.prog 14 #[.slice (some ⟨V.heap.size + 1, 0, none⟩) 1 1] ((V.alloc (.cells #[.int .i64 2, .int .i64 258, .string lvB] 23)).alloc (.cells #[.int .i64 2, .int .i64 258, .string lvB] 23)) fun e w' => e = .returned (.int .u32 lvU) ∧ Below ((V.alloc (.cells #[.int .i64 2, .int .i64 258, .string lvB] 23)).alloc (.cells #[.int .i64 2, .int .i64 258, .string lvB] 23)).heap.size ((V.alloc (.cells #[.int .i64 2, .int .i64 258, .string lvB] 23)).alloc (.cells #[.int .i64 2, .int .i64 258, .string lvB] 23)) w' :=
  sum_ok [((2 : Int), (258 : Int), lvB)] (some ⟨V.heap.size + 1, 0, none⟩) 1 _ hV (lv_pgH _ _ (lv_second V)) (by decide)
theorem lv_rsumH (V : World) (g : Nat) (h : V.heap[g]? = some (.cells #[.int .i64 2, .int .i64 258, .string lvB] 23)) : Calls Tryd.prog 15 #[.slice (some ⟨g, 0, none⟩) 1 1] V fun e w' => e = .returned (.int .u32 lvU) ∧ Below V.heap.size V w' :=
  refsum_ok [((2 : Int), (258 : Int), lvB)] (some ⟨g, 0, none⟩) 1 _ (lv_pgH _ _ h) (by decide)
theorem below_page {X v : World} (h : Below X.heap.size X v) : Below X.heap.size X (v.alloc (.cells #[.int .i64 2, .int .i64 258, .string lvB] 23)) := h.trans (((Below.refl v.heap.size v).alloc (Nat.le_refl _) _).mono h.size)
set_option maxRecDepth 100000 in
set_option maxHeartbeats 4000000 in
theorem live_any (w : World) (hL : Lst w) :
    Calls Tryd.prog 8 #[] w fun e w' => e = .returned (.bool true) ∧ Below w.heap.size w w' := by
  have HL := hid hL
  have HP := hid hL.pos
  have HE1 := hid fun (V : World) (hV : Lst V) => (show Calls Tryd.prog 9 #[.agg (entC 1 1 0 2 258 lvB 0 0)] V fun e w' => e = .returned (.tuple #[.string lvS, .int .i64 0]) ∧ Below V.heap.size V w' by have h := encode_any 1 1 0 2 258 lvB 0 0 V hV (by decide) (by decide) (by decide); rw [lv_enc1] at h; exact h)
  have HE2 := hid fun (V : World) (hV : Lst V) => (show Calls Tryd.prog 9 #[.agg (entC 2 5 1 0 0 ⟨#[]⟩ 1 258)] V fun e w' => e = .returned (.tuple #[.string lvC, .int .i64 0]) ∧ Below V.heap.size V w' by have h := encode_any 2 5 1 0 0 ⟨#[]⟩ 1 258 V hV (by decide) (by decide) (by decide); rw [lv_enc2] at h; exact h)
  clear hL
  go_enter Tryd.func8, Tryd.ntmps8
  go_wp2_with fail
  have HB0 := hid ((Below.refl w.heap.size w).alloc (Nat.le_refl _) (.cells #[.int .i64 2, .int .i64 258, .string lvB] 23))
  have HL0 := hid (HL.out.next HP.out HB0.out)
  refine (HE1.out _ HL0.out).mono ?_
  rintro e w1 ⟨rfl, hb⟩
  have HB1 := hid (HB0.out.trans (hb.mono HB0.out.size))
  have HL1 := hid (HL.out.next HP.out HB1.out)
  have HZ1 := hid ((hb.block w.heap.size (by simp)).trans (heap_alloc_new _ _))
  clear hb
  go_wp2_with fail
  refine (lv_dec1 _ HL1.out).mono ?_
  rintro e w2 ⟨rfl, hb⟩
  have HB2 := hid (HB1.out.trans (hb.mono HB1.out.size))
  have HZ2 := hid ((hb.block w.heap.size (by have := HB1.out.size; have := Array.getElem?_eq_some_iff.1 HZ1.out; exact this.1)).trans HZ1.out)
  clear hb
  have HB2a := hid (HB2.out.trans (((Below.refl w2.heap.size w2).alloc (Nat.le_refl _) (.cells (entC 1 1 0 2 258 lvB 0 0) 32)).mono HB2.out.size))
  have HL2 := hid (HL.out.next HP.out HB2a.out)
  go_wp2_with fail
  refine (HE2.out _ HL2.out).mono ?_
  rintro e w3 ⟨rfl, hb⟩
  have HB3 := hid (HB2a.out.trans (hb.mono HB2a.out.size))
  have HL3 := hid (HL.out.next HP.out HB3.out)
  have HT3 := hid ((hb.block w2.heap.size (by simp)).trans (heap_alloc_new _ _))
  have HZ3 := hid ((hb.block w.heap.size (by have := (Array.getElem?_eq_some_iff.1 HZ2.out).1; simp; omega)).trans (((Below.refl w2.heap.size w2).alloc (Nat.le_refl _) (.cells (entC 1 1 0 2 258 lvB 0 0) 32)).block w.heap.size (Array.getElem?_eq_some_iff.1 HZ2.out).1 |>.trans HZ2.out))
  clear hb
  go_wp2_with fail
  refine (lv_dec2 _ HL3.out).mono ?_
  rintro e w4 ⟨rfl, hb⟩
  have HB4 := hid (HB3.out.trans (hb.mono HB3.out.size))
  have HZ4 := hid ((hb.block w.heap.size (Array.getElem?_eq_some_iff.1 HZ3.out).1).trans HZ3.out)
  have HT4 := hid ((hb.block w2.heap.size (Array.getElem?_eq_some_iff.1 HT3.out).1).trans HT3.out)
  clear hb
  have A4 := hid ((Below.refl w4.heap.size w4).alloc (Nat.le_refl _) (.cells (entC 0 0 0 0 0 ⟨#[]⟩ 0 0) 32))
  have HL4 := hid (HL.out.next HP.out (HB4.out.trans (A4.out.mono HB4.out.size)))
  go_wp2_with fail
  refine (lv_dec3 _ HL4.out).mono ?_
  rintro e w5 ⟨rfl, hb⟩
  have C5 := hid (A4.out.trans (hb.mono A4.out.size))
  have HB5 := hid (HB4.out.trans (C5.out.mono HB4.out.size))
  have HZ5 := hid ((C5.out.block w.heap.size (Array.getElem?_eq_some_iff.1 HZ4.out).1).trans HZ4.out)
  have HT5 := hid ((C5.out.block w2.heap.size (Array.getElem?_eq_some_iff.1 HT4.out).1).trans HT4.out)
  clear hb
  have A5 := hid ((Below.refl w5.heap.size w5).alloc (Nat.le_refl _) (.cells (entC 0 0 0 0 0 ⟨#[]⟩ 0 0) 32))
  have HB6 := hid (HB5.out.trans (A5.out.mono HB5.out.size))
  have HZ6 := hid ((A5.out.block w.heap.size (Array.getElem?_eq_some_iff.1 HZ5.out).1).trans HZ5.out)
  have HT6 := hid ((A5.out.block w2.heap.size (Array.getElem?_eq_some_iff.1 HT5.out).1).trans HT5.out)
  clear HB0 HL0 HB1 HL1 HZ1 HB2 HZ2 HB2a HL2 HB3 HL3 HT3 HZ3 HB4 HZ4 HT4 A4 HL4 C5 HB5 HZ5 HT5
  go_wp2_with fail
  generalize w5.alloc (.cells (entC 0 0 0 0 0 ⟨#[]⟩ 0 0) 32) = X at *
  have HD := hid fun (V : World) (hv : Below X.heap.size X V) => (show V.cell? ⟨w.heap.size, 0, none⟩ = some (.int .i64 2) ∧ V.cell? ⟨w.heap.size, 1, none⟩ = some (.int .i64 258) ∧ V.cell? ⟨w.heap.size, 2, none⟩ = some (.string lvB) ∧ V.cell? ⟨w2.heap.size, 0, none⟩ = some (.int .i64 1) ∧ V.cell? ⟨w2.heap.size, 1, none⟩ = some (.int .i64 1) ∧ V.cell? ⟨w2.heap.size, 2, none⟩ = some (.int .i64 0) ∧ V.cell? ⟨w2.heap.size, 3, none⟩ = some (.int .i64 2) ∧ V.cell? ⟨w2.heap.size, 4, none⟩ = some (.int .i64 258) ∧ V.cell? ⟨w2.heap.size, 5, none⟩ = some (.string lvB) ∧ V.cell? ⟨w2.heap.size, 6, none⟩ = some (.int .i64 0) ∧ V.cell? ⟨w2.heap.size, 7, none⟩ = some (.int .u32 0) from by
    have hz := (hv.block w.heap.size (Array.getElem?_eq_some_iff.1 HZ6.out).1).trans HZ6.out
    obtain ⟨q0, q1, q2, q3, q4, q5, q6, q7⟩ := ent_at ((hv.block w2.heap.size (Array.getElem?_eq_some_iff.1 HT6.out).1).trans HT6.out)
    exact ⟨by rw [cell_of_row _ _ _ _ _ _ hz]; rfl, by rw [cell_of_row _ _ _ _ _ _ hz]; rfl, by rw [cell_of_row _ _ _ _ _ _ hz]; rfl, q0, q1, q2, q3, q4, q5, q6, q7⟩)
  have HK := hid fun (V : World) => (check_no 0 0 0 0 0 0 0 ⟨#[]⟩ V (by decide) (by rintro ⟨h, -⟩; exact absurd h (by decide)))
  have B0 := hid (Below.refl X.heap.size X).drew
  have y0 := HD.out _ B0.out
  have x0 := HD.out _ (Below.refl X.heap.size X)
  go_region_held3 (fun V => V.cell? ⟨w.heap.size, 0, none⟩ = some (.int .i64 2) ∧ V.cell? ⟨w.heap.size, 1, none⟩ = some (.int .i64 258) ∧ V.cell? ⟨w.heap.size, 2, none⟩ = some (.string lvB) ∧ V.cell? ⟨w2.heap.size, 0, none⟩ = some (.int .i64 1) ∧ V.cell? ⟨w2.heap.size, 1, none⟩ = some (.int .i64 1) ∧ V.cell? ⟨w2.heap.size, 2, none⟩ = some (.int .i64 0) ∧ V.cell? ⟨w2.heap.size, 3, none⟩ = some (.int .i64 2) ∧ V.cell? ⟨w2.heap.size, 4, none⟩ = some (.int .i64 258) ∧ V.cell? ⟨w2.heap.size, 5, none⟩ = some (.string lvB) ∧ V.cell? ⟨w2.heap.size, 6, none⟩ = some (.int .i64 0) ∧ V.cell? ⟨w2.heap.size, 7, none⟩ = some (.int .u32 0)) (first | exact x0 | exact y0 | exact y1 | exact y2 | exact y3 | exact y4 | go_keep)
    (first
      | (go_at_call 12; with_reducible refine (HK.out _).mono ?_; rintro e v1 ⟨rfl, hb⟩; have B1 := hid (B0.out.trans (hb.mono B0.out.size)); have y1 := HD.out _ B1.out; clear hb)
      | (go_at_call 14; with_reducible refine (lv_sum0 _ (HL.out.next HP.out (HB6.out.trans (B1.out.mono HB6.out.size)))).mono ?_; rintro e v2 ⟨rfl, hb⟩; have B2 := hid (B1.out.trans (hb.mono B1.out.size)); have y2 := HD.out _ B2.out; clear hb)
      | (go_at_call 14; with_reducible refine (lv_sum1 _ (HL.out.next HP.out (HB6.out.trans ((below_page B2.out).mono HB6.out.size)))).mono ?_; rintro e v3 ⟨rfl, hb⟩; have B3 := hid ((below_page B2.out).trans (hb.mono (below_page B2.out).size)); have y3 := HD.out _ B3.out; clear hb)
      | (go_at_call 15; with_reducible refine (lv_rsum1 _).mono ?_; rintro e v4 ⟨rfl, hb⟩; have B4 := hid ((below_page B3.out).trans (hb.mono (below_page B3.out).size)); have y4 := HD.out _ B4.out; clear hb)
      | (go_at_call 14; with_reducible refine (lv_sumB _ (HL.out.next HP.out (HB6.out.trans ((below_page (below_page B2.out)).mono HB6.out.size)))).mono ?_; rintro e v3 ⟨rfl, hb⟩; have R3 := hid ((hb.block (v2.heap.size + 1) (by simp)).trans (lv_second v2)); have B3 := hid ((below_page (below_page B2.out)).trans (hb.mono (below_page (below_page B2.out)).size)); have y3 := HD.out _ B3.out; clear hb)
      | (go_at_call 14; with_reducible refine (lv_sumC _ (HL.out.next HP.out (HB6.out.trans ((below_page (below_page B2.out)).mono HB6.out.size)))).mono ?_; rintro e v3 ⟨rfl, hb⟩; have R3 := hid ((hb.block v2.heap.size (by simp; omega)).trans (lv_first v2)); have B3 := hid ((below_page (below_page B2.out)).trans (hb.mono (below_page (below_page B2.out)).size)); have y3 := HD.out _ B3.out; clear hb)
      | (go_at_call 15; with_reducible refine (lv_rsumH _ _ R3.out).mono ?_; rintro e v4 ⟨rfl, hb⟩; have B4 := hid (B3.out.trans (hb.mono B3.out.size)); have y4 := HD.out _ B4.out; clear hb)
      | fail)
  all_goals (have HB9 := hid (HB6.out.trans (B4.out.mono HB6.out.size)); go_wp2_with fail; go_ret; exact ⟨rfl, HB9.out⟩)
end Go.Proofs.YtigaddpjmgncmaaDoor.En
