/- may, and Decode's question about each coordinate. -/
import Derived.Test.YtmhjoeegghnlhaaScRead
namespace Go.Proofs.Ytmhjoeegghnlhaa.Sc
open Go.RowKit
open Go.Lib (hid)
open Go.Proofs.Ytmhjoeegghnlhaa.Ky Go.Proofs.Ytmhjoeegghnlhaa.Bk
open Go.Proofs.Ytmhjoeegghnlhaa

set_option maxRecDepth 100000 in
set_option maxHeartbeats 2000000 in
theorem may2_ok (l : List Nat) (p : Option Addr) (c n : Nat) (w : World) (hp : Pt w p l) (hn : l.length = n) :
    Calls Try.prog 57 #[.slice p n c] w fun e w' => e = .returned (.bool (mayL l)) ∧ Below w.heap.size w w' := by
  obtain ⟨W, hW⟩ : ∃ W, w.alloc (.cells #[.slice p n c] 31) = W := ⟨_, rfl⟩
  have HBW := hid (show Below w.heap.size w W by rw [← hW]; exact below_alloc _ _)
  have HG := hid (show W.heap[w.heap.size]? = some (.cells #[.slice p n c] 31 (0, 0)) by rw [← hW]; exact heap_alloc_new _ _)
  have HST := hid (show ∀ V : World, Below W.heap.size W V → V.cell? ⟨w.heap.size, 0, none⟩ = some (.slice p n c) from fun V hV => by
    have hg := (hV.block _ (Array.getElem?_eq_some_iff.1 HG.out).1).trans HG.out
    rw [cell_of_row _ _ _ _ _ _ hg]; rfl)
  have y1 := HST.out W (Below.refl _ _)
  by_cases h63 : n ≤ 63
  · have HAL := hid (allMay_ok n (mayI l) (.pointer (some ⟨w.heap.size, 0, none⟩)) W (by omega) fun V i hV hi => mayI_ok l p c w.heap.size n i V (hp.below (HBW.out.trans (hV.mono HBW.out.size))) hn hi h63 (HST.out V hV))
    have HM := hid (show mayL l = (List.range n).all (mayI l) by unfold mayL; rw [hn, decide_eq_true h63]; rfl)
    rw [HM.out]
    have e1 : decide ((n : Int) ≤ 63) = true := by simp; omega
    have e1' : decide (n ≤ 63) = true := by simpa using h63
    clear hp h63
    generalize (List.range n).all (mayI l) = r at HAL ⊢
    go_enter Try.func57, Try.ntmps57
    go_wp2_with fail
    refine HAL.out.mono ?_
    rintro e w1 ⟨rfl, hb⟩
    have HB1 := hid (HBW.out.trans (hb.mono HBW.out.size))
    clear hb
    go_wp2_with fail
    go_ret
    exact ⟨rfl, HB1.out⟩
  · have HM := hid (show mayL l = false by unfold mayL; rw [hn, decide_eq_false h63]; rfl)
    rw [HM.out]
    have e1 : decide ((n : Int) ≤ 63) = false := by simp; omega
    have e1' : decide (n ≤ 63) = false := by simpa using h63
    clear hp h63
    go_enter Try.func57, Try.ntmps57
    go_wp2_with fail
    go_ret
    exact ⟨rfl, HBW.out⟩
set_option maxRecDepth 100000 in
set_option maxHeartbeats 2000000 in
theorem dec1_ok (N b R : Nat) (vs : List Value) (bs : List (List Nat)) (g n i : Nat) (w : World) (h : Sc N w b R vs bs) (hn : bs.length = n) (hi : i < n) (hg : w.cell? ⟨g, 0, none⟩ = some (.pointer (some ⟨b, 0, none⟩))) :
    Calls Try.prog 56 #[.int .i64 (i : Int), .pointer (some ⟨g, 0, none⟩)] w fun e w' => e = .returned (.bool (mayL (bs.getD i []))) ∧ Below w.heap.size w w' := by
  obtain ⟨l, hl⟩ : ∃ l, bs[i]? = some l := ⟨_, List.getElem?_eq_getElem (by omega)⟩
  obtain ⟨v, p, c, hv, hvp, hcl, hfr, hpt, hown, hlc⟩ := h.at hl
  have hcb := h.cell.1
  rw [hn] at hcb
  have HM := hid (may2_ok l p c l.length w hpt rfl)
  have e1 : bs.getD i [] = l := by rw [List.getD_eq_getElem?_getD, hl]; rfl
  rw [e1]
  have z1 : (0 : Int) ≤ (i : Int) := by omega
  have z2 : (i : Int) < (n : Int) := by omega
  clear h hn hl hv hvp hfr hpt hown hlc e1
  go_enter Try.func56, Try.ntmps56
  go_wp2_with fail
  refine HM.out.mono ?_
  rintro e w1 ⟨rfl, hb⟩
  have HB := hid hb
  clear hb
  go_wp2_with fail
  go_ret
  exact ⟨rfl, HB.out⟩
end Go.Proofs.Ytmhjoeegghnlhaa.Sc
