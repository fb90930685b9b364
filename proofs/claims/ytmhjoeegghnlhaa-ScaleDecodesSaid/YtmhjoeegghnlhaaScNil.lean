/- The calls on no scale; a box that may not be. -/
import Derived.Test.YtmhjoeegghnlhaaScBox3
import Derived.Test.YtmhjoeegghnlhaaScRem
namespace Go.Proofs.Ytmhjoeegghnlhaa.Sc
open Go.RowKit
open Go.Lib (hid)
open Go.Proofs.Ytmhjoeegghnlhaa.Ky Go.Proofs.Ytmhjoeegghnlhaa.Bk

theorem has_none (a : Int) (w : World) : Calls Try.prog 39 #[.pointer none, .int .i64 a] w fun e w' => e = .returned (.bool false) ∧ w = w' := by
  have h := has_any none 0 a w (coords_nil w)
  have e : hasC 0 a = false := by unfold hasC; cases h : decide (0 ≤ a) with
    | false => rfl
    | true => simp at h; simp; omega
  rw [e] at h
  exact h
set_option maxRecDepth 100000 in
set_option maxHeartbeats 1000000 in
theorem insert_nil (a : Int) (t : Nat) (w : World) : Calls Try.prog 15 #[.pointer none, .int .i64 a, .int .u32 (t : Int)] w fun e w' => e = .returned (.tuple #[.int .i64 0, .int .i64 1]) ∧ w = w' := by
  have HH := hid (has_none a w)
  go_enter Try.func15, Try.ntmps15
  go_wp2_with fail
  refine HH.out.mono ?_
  rintro e w' ⟨rfl, rfl⟩
  go_wp2_with fail
  go_ret2
  exact ⟨rfl, rfl⟩
set_option maxRecDepth 100000 in
set_option maxHeartbeats 1000000 in
theorem remove_nil (a i : Int) (w : World) : Calls Try.prog 17 #[.pointer none, .int .i64 a, .int .i64 i] w fun e w' => e = .returned (.int .i64 1) ∧ w = w' := by
  have HH := hid (has_none a w)
  go_enter Try.func17, Try.ntmps17
  go_wp2_with fail
  refine HH.out.mono ?_
  rintro e w' ⟨rfl, rfl⟩
  go_wp2_with fail
  go_ret
  exact ⟨rfl, rfl⟩
set_option maxRecDepth 100000 in
set_option maxHeartbeats 1000000 in
theorem copy_nil (w : World) : Calls Try.prog 14 #[.pointer none] w fun e w' => e = .returned (.pointer none) ∧ w = w' := by
  go_enter Try.func14, Try.ntmps14
  go_wp2_with fail
  go_ret
  exact ⟨rfl, rfl⟩
theorem box_nil (n1 n2 : Nat) (p q : Option Addr) (c c' : Nat) (w : World) : Calls Try.prog 22 #[.pointer none, .slice p n1 c, .slice q n2 c'] w (NewBox w [] [] (.int .i64 1)) :=
  box_few none 0 n1 n2 p q c c' w (fun V _ => coords_nil V) (.inl rfl)
set_option maxRecDepth 100000 in
set_option maxHeartbeats 2000000 in
theorem meet_no (P : Option Addr) (n : Nat) (lo hi : List Nat) (q r : Option Addr) (c' c'' : Nat) (w : World) (hc : ∀ V : World, Below w.heap.size w V → Calls Try.prog 45 #[.pointer P] V fun e w' => e = .returned (.int .i64 (n : Int)) ∧ V = w') (hlo : Pt w q lo) (hhi : Pt w r hi) (hl : lo.length ≤ 9223372036854775807) (hb : boxB lo hi (n : Int) = false) :
    Calls Try.prog 25 #[.pointer P, .agg #[.slice q lo.length c', .slice r hi.length c'']] w fun e w' => e = .returned (.tuple #[.slice none 0 0, .slice none 0 0, .int .i64 1]) ∧ Below w.heap.size w w' := by
  obtain ⟨W, hW⟩ : ∃ W, w.alloc (.cells #[.slice q lo.length c', .slice r hi.length c''] 34) = W := ⟨_, rfl⟩
  have HBW := hid (show Below w.heap.size w W by rw [← hW]; exact below_alloc _ _)
  have HG := hid (show W.heap[w.heap.size]? = some (.cells #[.slice q lo.length c', .slice r hi.length c''] 34 (0, 0)) by rw [← hW]; exact heap_alloc_new _ _)
  have HST := hid (show ∀ V : World, Below W.heap.size W V → V.cell? ⟨w.heap.size, 0, none⟩ = some (.slice q lo.length c') ∧ V.cell? ⟨w.heap.size, 1, none⟩ = some (.slice r hi.length c'') from fun V hV => by
    have hg := (hV.block _ (Array.getElem?_eq_some_iff.1 HG.out).1).trans HG.out
    exact ⟨by rw [cell_of_row _ _ _ _ _ _ hg]; rfl, by rw [cell_of_row _ _ _ _ _ _ hg]; rfl⟩)
  have HCO := hid (hc W.drew HBW.out.drew)
  have HCB := hid fun (V : World) (hV : Below W.heap.size W V) => checkBox_ok lo hi q r c' c'' (n : Int) V (hlo.below (HBW.out.trans (hV.mono HBW.out.size))) (hhi.below (HBW.out.trans (hV.mono HBW.out.size))) hl
  rw [hb, err_false false rfl] at HCB
  have y0 := HST.out W (Below.refl _ _)
  clear hlo hhi hb hl hc
  generalize lo.length = n1 at *
  generalize hi.length = n2 at *
  obtain ⟨y1, y2⟩ := y0
  go_enter Try.func25, Try.ntmps25
  go_wp2_with fail
  have y12 := And.intro y1 y2
  go_region_held3 (fun w' => w'.cell? ⟨w.heap.size, 0, none⟩ = some (.slice q n1 c') ∧ w'.cell? ⟨w.heap.size, 1, none⟩ = some (.slice r n2 c'')) (first | exact y12 | exact x4 | go_keep)
    (first
      | (go_at_call 45; refine HCO.out.mono ?_; rintro e w' ⟨rfl, rfl⟩)
      | (go_at_call 51; refine (HCB.out _ (Below.refl _ _).drew).mono ?_; rintro e w4 ⟨rfl, hb4⟩; have HB4 := hid (show Below W.heap.size W w4 from (Below.refl _ W).drew.trans hb4); have x4 := HST.out _ HB4.out; clear hb4)
      | fail)
  have HBF := hid (HBW.out.trans (HB4.out.mono HBW.out.size))
  go_wp2_with fail
  refine bodyPost_ret (v := .tuple #[.slice none 0 0, .slice none 0 0, .int .i64 1]) (by simp [results, Try.results25, go_sem]) rfl ?_
  exact ⟨rfl, HBF.out⟩
set_option maxRecDepth 100000 in
set_option maxHeartbeats 2000000 in
theorem find_nil (k : List Nat) (q : Option Addr) (c' : Nat) (w : World) :
    Calls Try.prog 19 #[.pointer none, .slice q k.length c'] w fun e w' => e = .returned (.tuple #[.slice none 0 0, .int .i64 1]) ∧ Below w.heap.size w w' := by
  have HCO := hid (coords_nil w)
  have HCH := hid fun V : World => check_ok q k.length c' 0 V
  rw [show checkB k.length 0 = false by rfl, err_false false rfl] at HCH
  go_enter Try.func19, Try.ntmps19
  go_wp2_with fail
  refine HCO.out.mono ?_
  rintro e w' ⟨rfl, rfl⟩
  go_wp2_with fail
  refine (HCH.out _).mono ?_
  rintro e w' ⟨rfl, rfl⟩
  go_wp2_with fail
  go_ret2
  exact ⟨rfl, Below.refl _ _⟩
set_option maxRecDepth 100000 in
set_option maxHeartbeats 1000000 in
theorem sizes_nil (w : World) : Calls Try.prog 28 #[.pointer none] w fun e w' => ∃ g, e = .returned (.slice (some ⟨g, 0, none⟩) 0 0) ∧ Below w.heap.size w w' := by
  have HCO := hid (coords_nil w)
  have hm : ∀ w : World, (Instr.makeSlice 35 (.int .i64 0) (.int .i64 0)).run Try.prog w = .ok (.slice (some ⟨w.heap.size, 0, none⟩) 0 0) (w.alloc (.cells #[] 3)) := fun w => imake 0 (by omega) [] w
  have HB := hid (below_alloc w (.cells #[] 3))
  go_enter Try.func28, Try.ntmps28
  go_wp2_with fail
  refine HCO.out.mono ?_
  rintro e w1 ⟨rfl, rfl⟩
  go_wp2_with fail
  go_loopw [10] (fun s wr => s = .int .i64 0 ∧ Below w.heap.size w wr) (fun _ _ => 0)
  case atStart => exact ⟨rfl, HB.out⟩
  case round =>
    obtain ⟨rfl, hb⟩ := hrel
    have HB2 := hid hb
    clear hb
    go_wp2_with fail
    go_ret
    exact ⟨_, rfl, HB2.out⟩
end Go.Proofs.Ytmhjoeegghnlhaa.Sc
