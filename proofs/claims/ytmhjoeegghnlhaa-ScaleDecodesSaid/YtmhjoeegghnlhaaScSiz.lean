/- Sizes and Meet of a scale. -/
import Derived.Test.YtmhjoeegghnlhaaScFind
namespace Go.Proofs.Ytmhjoeegghnlhaa.Sc
open Go.RowKit
open Go.Lib (hid)
open Go.Proofs.Ytmhjoeegghnlhaa.Ky Go.Proofs.Ytmhjoeegghnlhaa.Bk

def sizeL (bs : List (List Nat)) : List Nat := bs.map fun l => l.length + 1
def SiR (w : World) (n : Nat) (C : List Nat) (s : Value) (wr : World) : Prop :=
  ∃ i : Nat, s = .int .i64 (i : Int) ∧ i ≤ n ∧ wr.heap[w.heap.size]? = some (.cells (fillC C n i).toArray 3 (0, 0)) ∧ Below w.heap.size w wr
set_option maxRecDepth 100000 in
set_option maxHeartbeats 4000000 in
theorem sizes_ok (N b R : Nat) (vs : List Value) (bs : List (List Nat)) (w : World) (h : Sc N w b R vs bs) :
    Calls Try.prog 28 #[.pointer (some ⟨b, 0, none⟩)] w fun e w' => ∃ g, e = .returned (.slice (some ⟨g, 0, none⟩) bs.length bs.length) ∧ w'.heap[g]? = some (.cells (ci (sizeL bs)).toArray 3 (0, 0)) ∧ w.heap.size ≤ g ∧ Below w.heap.size w w' := by
  have HCO := hid (coords_ok w h.cell.1)
  obtain ⟨n, hn⟩ : ∃ n, bs.length = n := ⟨_, rfl⟩
  obtain ⟨C, hC⟩ : ∃ C, sizeL bs = C := ⟨_, rfl⟩
  have hCl : C.length = n := by rw [← hC, ← hn]; simp [sizeL]
  have hd := h.dim
  rw [hn] at hd HCO
  have hm := imake n hd.2 C
  have HCA := hid (show ∀ (i : Nat) (l : List Nat), bs[i]? = some l → C[i]? = some (l.length + 1) from fun i l h1 => by rw [← hC]; unfold sizeL; rw [List.getElem?_map, h1]; rfl)
  have H := hid h; have HN := hid hn; have HCL := hid hCl; have HD := hid hd
  rw [hn, hC]
  obtain ⟨V, hV⟩ : ∃ V, w.alloc (.cells (fillC C n 0).toArray 3) = V := ⟨_, rfl⟩
  have HBV := hid (show Below w.heap.size w V by rw [← hV]; exact below_alloc _ _)
  have HGV := hid (show V.heap[w.heap.size]? = some (.cells (fillC C n 0).toArray 3 (0, 0)) by rw [← hV]; exact heap_alloc_new _ _)
  clear h hn hC hCl hd
  go_enter Try.func28, Try.ntmps28
  go_wp2_with fail
  refine HCO.out.mono ?_
  rintro e w1 ⟨rfl, rfl⟩
  go_wp2_with fail
  go_loopw [10] (fun s wr => SiR w n C s wr) (fun s _ => n - (intOf s).toNat)
  case atStart => exact ⟨0, rfl, by omega, HGV.out, HBV.out⟩
  case round =>
    rename World => wa
    obtain ⟨i, rfl, hi, hgo, hb⟩ := hrel
    have HGO := hid hgo; have HB := hid hb
    by_cases hlt : i < n
    · have hib : i < bs.length := by have := HN.out; omega
      obtain ⟨l, hl⟩ : ∃ l, bs[i]? = some l := ⟨_, List.getElem?_eq_getElem hib⟩
      have hS := H.out.next hb
      obtain ⟨v, p, c, hv, hvp, hcl, hfr, hpt, hown, hlc⟩ := hS.at hl
      have hcb := hS.cell.1
      rw [HN.out] at hcb
      have hl255 := (hS.fit l (List.mem_of_getElem? hl)).2
      have HY := hid (HCA.out i l hl)
      have HI := hid hlt
      have e1 : decide ((i : Int) < (n : Int)) = true := by simpa using hlt
      have e1' : decide (i < n) = true := by simpa using hlt
      have hd6 := HD.out
      have s1 : IntKind.i64.wrap ((i : Int) + 1) = ((i + 1 : Nat) : Int) := Go.IntWalk.i64_in _ (by omega)
      have s2 : IntKind.i64.wrap ((l.length : Int) + 1) = ((l.length + 1 : Nat) : Int) := Go.IntWalk.i64_in _ (by omega)
      obtain ⟨m1, hm1⟩ : ∃ m1, l.length + 1 = m1 := ⟨_, rfl⟩
      rw [hm1] at s2 HY
      have hout := out_cell hgo (by rw [fillC_len HCL.out (Nat.le_of_lt hlt)]; exact hlt)
      obtain ⟨⟨u6, x6⟩, x7⟩ := hout
      have HN1 := hid (out_set hgo i (Value.int .i64 (m1 : Int)))
      rw [fillC_next HCL.out HI.out HY.out] at HN1
      have HN3 := hid (show Below w.heap.size w (wa.setCell ⟨w.heap.size, i, none⟩ (Value.int .i64 (m1 : Int))) from HB.out.setCell (p := ⟨w.heap.size, i, none⟩) (Nat.le_refl _) _)
      clear hgo hb hib hl hS hv hvp hfr hpt hown hlc hd6 hi hm1 hl255
      go_wp2_with fail
      go_roundw
      case rel => exact ⟨i + 1, rfl, HI.out, HN1.out, HN3.out⟩
      case measure => simp [intOf]; have := HI.out; omega
    · have e1 : decide ((i : Int) < (n : Int)) = false := by simp; omega
      have e1' : decide (i < n) = false := by simpa using hlt
      obtain rfl : i = n := by omega
      have HF := hid (show wa.heap[w.heap.size]? = some (.cells (ci C).toArray 3 (0, 0)) by rw [← fillC_all HCL.out]; exact hgo)
      clear hgo hb hlt hi
      go_wp2_with fail
      go_ret
      exact ⟨_, rfl, HF.out, Nat.le_refl _, HB.out⟩
/-- two lists of numbers were returned, in new memory -/
def TwoInts (w : World) (L M : List Nat) (x : Int) (e : Ending) (w' : World) : Prop :=
  ∃ g g', e = .returned (.tuple #[.slice (some ⟨g, 0, none⟩) L.length L.length, .slice (some ⟨g', 0, none⟩) M.length M.length, .int .i64 x]) ∧ w'.heap[g]? = some (.cells (ci L).toArray 3 (0, 0)) ∧ w'.heap[g']? = some (.cells (ci M).toArray 3 (0, 0)) ∧ Below w.heap.size w w'
set_option maxRecDepth 100000 in
set_option maxHeartbeats 4000000 in
theorem meet_yes (N b R : Nat) (vs : List Value) (bs : List (List Nat)) (lo hi : List Nat) (q r : Option Addr) (c' c'' : Nat) (w : World) (h : Sc N w b R vs bs) (hu : upS bs) (hlo : Pt w q lo) (hhi : Pt w r hi) (hb : boxB lo hi (bs.length : Int) = true) :
    Calls Try.prog 25 #[.pointer (some ⟨b, 0, none⟩), .agg #[.slice q lo.length c', .slice r hi.length c'']] w (TwoInts w (cellL bs lo) (cellL bs hi) 0) := by
  have hbb := hb
  unfold boxB checkB at hbb
  simp only [Bool.and_eq_true, decide_eq_true_eq] at hbb
  have hll := leAll_len hbb.2
  have hk1 : lo.length = bs.length := by omega
  have hk2 : hi.length = bs.length := by omega
  obtain ⟨W, hW⟩ : ∃ W, w.alloc (.cells #[.slice q lo.length c', .slice r hi.length c''] 34) = W := ⟨_, rfl⟩
  have HBW := hid (show Below w.heap.size w W by rw [← hW]; exact below_alloc _ _)
  have HG := hid (show W.heap[w.heap.size]? = some (.cells #[.slice q lo.length c', .slice r hi.length c''] 34 (0, 0)) by rw [← hW]; exact heap_alloc_new _ _)
  have HST := hid (show ∀ V : World, Below W.heap.size W V → V.cell? ⟨w.heap.size, 0, none⟩ = some (.slice q lo.length c') ∧ V.cell? ⟨w.heap.size, 1, none⟩ = some (.slice r hi.length c'') from fun V hV => by
    have hg := (hV.block _ (Array.getElem?_eq_some_iff.1 HG.out).1).trans HG.out
    exact ⟨by rw [cell_of_row _ _ _ _ _ _ hg]; rfl, by rw [cell_of_row _ _ _ _ _ _ hg]; rfl⟩)
  have hsc := h.next HBW.out
  have HCO := hid (coords_ok W.drew (hsc.next (Below.refl _ _).drew).cell.1)
  have HCB := hid fun (V : World) (hV : Below W.heap.size W V) => checkBox_ok lo hi q r c' c'' (bs.length : Int) V (hlo.below (HBW.out.trans (hV.mono HBW.out.size))) (hhi.below (HBW.out.trans (hV.mono HBW.out.size))) (by have := h.dim; omega)
  rw [hb, err_true true rfl] at HCB
  have HCE := hid fun (V : World) (hV : Below W.heap.size W V) => cell_ok N b R vs bs lo q c' V (hsc.next hV) hu (hlo.below (HBW.out.trans (hV.mono HBW.out.size))) hk1
  have HCF := hid fun (V : World) (hV : Below W.heap.size W V) => cell_ok N b R vs bs hi r c'' V (hsc.next hV) hu (hhi.below (HBW.out.trans (hV.mono HBW.out.size))) hk2
  have HL1 := hid (cellL_len hk1)
  have HL2 := hid (cellL_len hk2)
  unfold TwoInts
  rw [HL1.out, HL2.out]
  have y0 := HST.out W (Below.refl _ _)
  clear h hu hlo hhi hb hbb hll hk1 hk2 hsc
  generalize cellL bs lo = C1 at HCE HL1 ⊢
  generalize cellL bs hi = C2 at HCF HL2 ⊢
  generalize lo.length = n1 at *
  generalize hi.length = n2 at *
  generalize bs.length = n at *
  obtain ⟨y1, y2⟩ := y0
  go_enter Try.func25, Try.ntmps25
  go_wp2_with fail
  have y12 := And.intro y1 y2
  go_region_held3 (fun w' => w'.cell? ⟨w.heap.size, 0, none⟩ = some (.slice q n1 c') ∧ w'.cell? ⟨w.heap.size, 1, none⟩ = some (.slice r n2 c'')) (first | exact y12 | exact x4 | go_keep)
    (first
      | (go_at_call 45; refine HCO.out.mono ?_; rintro e w' ⟨rfl, rfl⟩)
      | (go_at_call 51; refine (HCB.out _ (Below.refl _ _).drew).mono ?_; rintro e w4 ⟨rfl, hb4⟩; have HB4 := hid (show Below W.heap.size W w4 from (Below.refl _ W).drew.trans hb4); have x4 := HST.out _ HB4.out; clear hb4)
      | fail)
  clear y1 y2 y12 x4 hW
  obtain ⟨y1, y2⟩ := HST.out _ HB4.out
  go_wp2_with fail
  have y12 := And.intro y1 y2
  have HB4d := hid HB4.out.drew
  go_region_held3 (fun w' => w'.cell? ⟨w.heap.size, 0, none⟩ = some (.slice q n1 c') ∧ w'.cell? ⟨w.heap.size, 1, none⟩ = some (.slice r n2 c'')) (first | exact y12 | exact x5 | exact x6 | go_keep)
    (first
      | (go_at_call 46; (with_reducible refine (HCE.out _ HB4d.out).mono ?_); rintro e w5 ⟨g, rfl, hg, hgs, hb5⟩; have HB5 := hid (HB4d.out.trans (hb5.mono HB4d.out.size)); have HG5 := hid hg; have x5 := HST.out _ HB5.out; clear hg hgs hb5)
      | (go_at_call 46; (with_reducible refine (HCF.out _ HB5.out).mono ?_); rintro e w6 ⟨g', rfl, hg, hgs, hb6⟩; have HB6 := hid (HB5.out.trans (hb6.mono HB5.out.size)); have HG6 := hid ((hb6.block _ (Array.getElem?_eq_some_iff.1 HG5.out).1).trans HG5.out); have HG7 := hid hg; have x6 := HST.out _ HB6.out; clear hg hgs hb6)
      | fail)
  clear y1 y2 y12 x5 x6
  have HBF := hid (HBW.out.trans (HB6.out.mono HBW.out.size))
  go_wp2_with fail
  refine bodyPost_ret (v := .tuple #[.slice (some ⟨g, 0, none⟩) n n, .slice (some ⟨g', 0, none⟩) n n, .int .i64 0]) (by simp [results, Try.results25, go_sem]) rfl ?_
  exact ⟨g, g', rfl, HG6.out, HG7.out, HBF.out⟩
end Go.Proofs.Ytmhjoeegghnlhaa.Sc
