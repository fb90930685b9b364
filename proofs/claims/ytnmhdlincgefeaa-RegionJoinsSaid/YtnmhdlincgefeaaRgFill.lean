/- filled of region. -/
import Derived.Test.YtnmhdlincgefeaaRgCell
import Derived.Deep.Cut
namespace Go.Proofs.Ytnmhdlincgefeaa.Rg
open Go.RowKit Go.Shelf
open Go.Lib (hid)
open Go.Proofs.Ytnmhdlincgefeaa.Sl

/-- a range, or none, handed back -/
def FRet (w : World) (r : Option (List Nat × List Nat)) (e : Ending) (w' : World) : Prop :=
  ∃ p q c c', e = .returned (.tuple #[.slice p (lowR r).length c, .slice q (highR r).length c', .bool r.isSome]) ∧ CellsAt w' p (iv (zs (lowR r))) ∧ CellsAt w' q (iv (zs (highR r))) ∧ Below w.heap.size w w'
theorem FRet.none {w w' : World} (hb : Below w.heap.size w w') : FRet w Option.none (.returned (.tuple #[.slice Option.none 0 0, .slice Option.none 0 0, .bool false])) w' :=
  ⟨Option.none, Option.none, 0, 0, rfl, fun j hj => absurd hj (by simp [lowR, iv, zs]), fun j hj => absurd hj (by simp [highR, iv, zs]), hb⟩
set_option maxRecDepth 100000 in
set_option maxHeartbeats 4000000 in
theorem filled_ok (S ps : List Nat) (p q : Option Addr) (c d : Nat) (w : World) (h : CellsAt w p (iv (zs S))) (hq : CellsAt w q (iv (zs ps))) (hS : ∀ s ∈ S, 0 < s) (hs : S.length ≤ 6) (h0 : 0 < S.length) (hm : prodL S ≤ 4096) (hps : ∀ x ∈ ps, x ≤ 1000000) (hpl : ps.length ≤ 1000000) (hd : ps.length ≤ d) :
    Calls Try.prog 25 #[.slice p S.length c, .slice q ps.length d] w (FRet w (filledL S ps)) := by
  cases ps with
  | nil =>
    have HF := hid (show filledL S [] = none from if_neg (fun e => e.1 rfl))
    clear h hq
    rw [HF.out]
    go_enter Try.func25, Try.ntmps25
    go_wp2_with fail
    go_ret3
    exact FRet.none (Below.refl _ _)
  | cons p0 t =>
    have HCELL : Hid (∀ (n0 : Nat) (V : World), n0 ≤ 1000000 → Below w.heap.size w V → Calls Try.prog 40 #[.slice p S.length c, .int .i64 (n0 : Int)] V fun e w' => ∃ g c', e = .returned (.slice (some ⟨g, 0, none⟩) S.length c') ∧ V.heap.size ≤ g ∧ Row w' g (zs (cellL S n0)) ∧ Below V.heap.size V w') := hid fun n0 V hn hV => (cell_ok S n0 p c V (h.below hV) hS hs h0 hn).mono fun e w' ⟨g, c', h1, h2, _, h4, h5⟩ => ⟨g, c', by rw [h1, zs_len, cellL_length], h2, h4, h5⟩
    obtain ⟨bq, oq, rfl, ltq, _⟩ := atI hq 0 (by simp)
    have HQ : Hid (∀ j (hj : j < (p0 :: t).length), w.cell? ⟨bq, oq + j, none⟩ = some (.int .i64 (((p0 :: t)[j] : Nat) : Int))) := hid fun j hj => by
      obtain ⟨b', o', e, _, hc⟩ := atI hq j hj
      injection e with e; injection e with e1 e2; subst e1; subst e2
      exact hc
    have HLT := hid ltq
    have HPS := hid hps
    have HSP := hid hS; have HSN := hid hs; have HM := hid hm
    have HRG := hid (fun k => (Rng.one hS p0).fold hS (t.take k))
    obtain ⟨n, hn⟩ : ∃ n, S.length = n := ⟨_, rfl⟩
    obtain ⟨m, hm1⟩ : ∃ m, t.length = m := ⟨_, rfl⟩
    have hlen : (p0 :: t).length = m + 1 := by simp [hm1]
    rw [hlen] at hpl hd ⊢
    rw [hn] at HCELL ⊢
    have HN := hid hn; have HMM := hid hm1
    have x0 : w.cell? ⟨bq, oq, none⟩ = some (.int .i64 (p0 : Int)) := HQ.out 0 (by simp)
    have hp0 : p0 ≤ 1000000 := hps p0 (by simp)
    have HP0 := hid hp0
    have e1 : ((((m + 1 : Nat) : Int)) == 0) = false := by rw [beq_eq_false_iff_ne]; omega
    have e2 : (0 : Int) < ((m + 1 : Nat) : Int) := by omega
    clear h hq hS hs hm hps hn hm1 h0 hlen ltq hp0
    have HST := hid fun (V : World) (hV : Below w.heap.size w V) => (hV.cell (p := ⟨bq, oq, none⟩) HLT.out).trans x0
    go_enter Try.func25, Try.ntmps25
    go_wp2_with fail
    go_region_held3 (fun V => V.cell? ⟨bq, oq, none⟩ = some (.int .i64 (p0 : Int))) (first | exact x0 | exact q1 | exact q2 | go_keep)
      (first
        | (go_at_call 40; refine (HCELL.out p0 _ HP0.out (Below.refl _ _).drew).mono ?_; rintro e w1 ⟨g1, k1, rfl, hg1, hr1, hb1⟩; have HG1 := hid (show w.heap.size ≤ g1 from hg1); have HR1 := hid hr1; have HB1 := hid (show Below w.heap.size w w1 from (Below.refl _ w).drew.trans hb1); have q1 := HST.out _ HB1.out; clear hg1 hr1 hb1)
        | (go_at_call 40; refine (HCELL.out p0 _ HP0.out HB1.out).mono ?_; rintro e w2 ⟨g2, k2, rfl, hg2, hr2, hb2⟩; have HG2 := hid hg2; have HR2 := hid hr2; have HB2 := hid hb2; have q2 := HST.out _ (HB1.out.trans (hb2.mono HB1.out.size)); clear hg2 hr2 hb2)
        | fail)
    clear q1 q2 x0
    have HTL : Hid (∀ k (hk : k < t.length), w.cell? ⟨bq, oq + 1 + k, none⟩ = some (.int .i64 ((t[k] : Nat) : Int))) := hid fun k hk => by
      have := HQ.out (k + 1) (by simp; omega)
      rw [List.getElem_cons_succ] at this
      rw [show oq + 1 + k = oq + (k + 1) by omega]; exact this
    have HBW := hid (HB1.out.trans (HB2.out.mono HB1.out.size))
    have hg1 := HG1.out
    have hg12 : g1 < g2 := Nat.lt_of_lt_of_le HR1.out.lt HG2.out
    have HLO : Hid (∀ k, (loF S (cellL S p0) (t.take k)).length = n) := hid fun k => by rw [← okC_len (HRG.out k).okl, HN.out]
    have HHI : Hid (∀ k, (hiF S (cellL S p0) (t.take k)).length = n) := hid fun k => by rw [← okC_len (HRG.out k).okh, HN.out]
    have HCL : Hid (∀ x, (cellL S x).length = n) := hid fun x => by rw [cellL_length, HN.out]
    have HR1' := hid (HR1.out.below HB2.out)
    go_wp2_with fail
    all_goals
      go_loopw [28] (fun i wr => ∃ k : Nat, k ≤ m ∧ i = .int .i64 (k : Int) ∧ Row wr g1 (zs (loF S (cellL S p0) (t.take k))) ∧ Row wr g2 (zs (hiF S (cellL S p0) (t.take k))) ∧ Below w.heap.size w wr) (fun i _ => m - (intOf i).toNat)
      case atStart => exact ⟨0, Nat.zero_le _, rfl, HR1'.out, HR2.out, HBW.out⟩
      case round =>
        obtain ⟨k, hk, rfl, hr1, hr2, hb⟩ := hrel
        by_cases hlt : k < m
        · have hd2 : ¬ d = 1 := by omega
          first
            | (exfalso; omega)
            | (have hkt : k < t.length := by rw [HMM.out]; exact hlt
               have d1 := (hb.cell (p := ⟨bq, oq + 1 + k, none⟩) HLT.out).trans (HTL.out k hkt)
               have hle : t[k] ≤ 1000000 := HPS.out _ (List.mem_cons_of_mem _ (List.getElem_mem hkt))
               have es : t.take (k + 1) = t.take k ++ [t[k]] := List.take_succ_eq_append_getElem hkt
               have HLS := hid (show loF S (cellL S p0) (t.take (k + 1)) = zmin (loF S (cellL S p0) (t.take k)) (cellL S t[k]) by rw [es, loF_snoc])
               have HHS := hid (show hiF S (cellL S p0) (t.take (k + 1)) = zmax (hiF S (cellL S p0) (t.take k)) (cellL S t[k]) by rw [es, hiF_snoc])
               have HC1 := hid (HCELL.out t[k] wr hle hb)
               have HRA := hid hr1; have HRB := hid hr2; have HBR := hid hb
               clear es hr1 hr2 hb
               generalize t[k] = x at d1 hle HLS HHS HC1
               go_wp2_with fail
               refine HC1.out.mono ?_
               rintro e w3 ⟨g3, c3, rfl, hg3, hr3, hb3⟩
               have hn1 : g1 < wr.heap.size := HRA.out.lt
               have hn2 : g2 < wr.heap.size := HRB.out.lt
               have HW := hid (widenI_ok (loF S (cellL S p0) (t.take k)) (hiF S (cellL S p0) (t.take k)) (cellL S x) (cellL S x) g1 g2 (some ⟨g3, 0, none⟩) (some ⟨g3, 0, none⟩) k1 k2 c3 c3 w3 ((HLO.out k).trans (HCL.out x).symm) ((HHI.out k).trans (HCL.out x).symm) rfl (by rw [HCL.out x]; have := HSN.out; have := HN.out; omega) (HRA.out.below hb3) (HRB.out.below hb3) (by omega) hr3.cells hr3.cells (fun b off e => by injection e with e; injection e with e1 e2; omega) (fun b off e => by injection e with e; injection e with e1 e2; omega))
               rw [HLO.out k, HHI.out k, HCL.out x] at HW
               have HB3 := hid (HBR.out.trans (hb3.mono HBR.out.size))
               clear hg3 hr3 hb3 hn1 hn2
               go_wp2_with fail
               refine HW.out.mono ?_
               rintro e w4 ⟨rfl, hra, hrb, ho⟩
               rw [← HLS.out] at hra
               rw [← HHS.out] at hrb
               have HA4 := hid hra; have HB4 := hid hrb
               have HO4 := hid (HB3.out.trans (ho.below HB3.out.size (fun j hj => by rcases hj with rfl | rfl <;> omega)))
               clear hra hrb ho HW
               go_wp2_with fail
               go_roundw
               case rel => exact ⟨k + 1, by omega, by go_num, HA4.out, HB4.out, HO4.out⟩
               case measure => simp [intOf]; omega)
        · obtain rfl : k = m := by omega
          have et : t.take k = t := by rw [← HMM.out, List.take_length]
          rw [et] at hr1 hr2
          have hrg := HRG.out k
          rw [et] at hrg
          have hlo := HLO.out k
          have hhi := HHI.out k
          rw [et] at hlo hhi
          have hbx : filledL S (p0 :: t) = if countL (loF S (cellL S p0) t) (hiF S (cellL S p0) t) = t.length + 1 then some (loF S (cellL S p0) t, hiF S (cellL S p0) t) else none := by
            unfold filledL boxF
            simp
          rw [HMM.out] at hbx
          have hsz := size_ok S _ _ (some ⟨g1, 0, none⟩) (some ⟨g2, 0, none⟩) k1 k2 wr hrg HSP.out HM.out HSN.out hr1.cells hr2.cells
          rw [hlo, hhi] at hsz
          have HRA := hid hr1; have HRB := hid hr2; have HBR := hid hb
          have hcm := Nat.le_trans (countL_take HSP.out hrg n) HM.out
          rw [List.take_of_length_le (by omega), List.take_of_length_le (by omega)] at hcm
          generalize loF S (cellL S p0) t = LO at *
          generalize hiF S (cellL S p0) t = HI at *
          generalize countL LO HI = N at *
          have HSZ := hid hsz
          have HX := hid hbx
          have HLL := hid hlo; have HHL := hid hhi
          clear et hr1 hr2 hb hrg hlo hhi hsz hbx
          by_cases hN : N = k + 1
          · subst hN
            rw [if_pos rfl] at HX
            go_wp2_with fail
            refine HSZ.out.mono ?_
            rintro e w5 ⟨rfl, N5, rfl⟩
            go_wp2_with fail
            go_ret3
            rw [HX.out]
            exact ⟨some ⟨g1, 0, none⟩, some ⟨g2, 0, none⟩, k1, k2, by show Ending.returned (.tuple #[.slice (some ⟨g1, 0, none⟩) n k1, .slice (some ⟨g2, 0, none⟩) n k2, .bool true]) = Ending.returned (.tuple #[.slice (some ⟨g1, 0, none⟩) LO.length k1, .slice (some ⟨g2, 0, none⟩) HI.length k2, .bool true]); rw [HLL.out, HHL.out], HRA.out.cells, HRB.out.cells, below_drewN HBR.out N5⟩
          · rw [if_neg hN] at HX
            have e5 : (((N : Nat) : Int) != (((k + 1 : Nat)) : Int)) = true := by simp; omega
            have e6 : ¬ (N : Int) = (k : Int) + 1 := by omega
            go_wp2_with fail
            refine HSZ.out.mono ?_
            rintro e w5 ⟨rfl, N5, rfl⟩
            go_wp2_with fail
            go_ret3
            rw [HX.out]
            exact FRet.none (below_drewN HBR.out N5)
set_option maxRecDepth 100000 in
theorem filled_nil (p q : Option Addr) (n c : Nat) (w : World) : Calls Try.prog 25 #[.slice p n c, .slice q 0 0] w fun e w' => e = .returned (.tuple #[.slice none 0 0, .slice none 0 0, .bool false]) ∧ w' = w := by
  go_enter Try.func25, Try.ntmps25
  go_wp2_with fail
  go_ret3
  exact ⟨rfl, rfl⟩
theorem of_ok_slab (l C : List Int) (p q : Option Addr) (c c' : Nat) (w : World) (h : CellsAt w p (iv l)) (h2 : CellsAt w q (iv C)) (hl : l.length ≤ 1000000) (hl2 : C.length ≤ 1000000) (hn : prodAns l = some C.length) :
    Calls Try.prog 9 #[.slice p l.length c, .slice q C.length c'] w (NewSlab w l C) := Sl.of_ok l C p q c c' w h h2 hl hl2 hn
end Go.Proofs.Ytnmhdlincgefeaa.Rg
