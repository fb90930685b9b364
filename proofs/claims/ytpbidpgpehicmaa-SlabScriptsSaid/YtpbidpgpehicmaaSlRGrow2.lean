/- The document's Grow, where it may be. -/
import Derived.Test.YtpbidpgpehicmaaSlRGrow
namespace Go.Proofs.Ytpbidpgpehicmaa.Sl
open Go.RowKit Go.Shelf
open Go.Lib (hid)

/-- how the document's slab comes out of a call that turns it: rows of its own, new ones -/
def RTurn (w : World) (b : Nat) (S : List Nat) (C : List Int) (V' : World) : Prop := ∃ g' h', Rlb V' b g' h' (zs S) C ∧ w.heap.size ≤ g' ∧ w.heap.size ≤ h' ∧ Onl (· = b) w V'
/-- two stores into the head -/
theorem rturn_of {w W : World} {b gs gc cs cc : Nat} {S : List Nat} {X : List Int} {o1 o2 : Value} (hb : W.heap[b]? = some (.cells #[o1, o2] 32 (0, 0))) (hlt : b < w.heap.size) (hs : Row W gs (zs S)) (hc : Row W gc X) (h1 : w.heap.size ≤ gs) (h2 : w.heap.size ≤ gc) (h3 : gs ≠ gc) (hcs : S.length ≤ cs) (hcc : X.length ≤ cc) (hw : Below w.heap.size w W) :
    RTurn w b S X ((W.setCell ⟨b, 0, none⟩ (.slice (some ⟨gs, 0, none⟩) S.length cs)).setCell ⟨b, 1, none⟩ (.slice (some ⟨gc, 0, none⟩) X.length cc)) := by
  have hg : ∀ j, j ≠ b → ((W.setCell ⟨b, 0, none⟩ (.slice (some ⟨gs, 0, none⟩) S.length cs)).setCell ⟨b, 1, none⟩ (.slice (some ⟨gc, 0, none⟩) X.length cc)).heap[j]? = W.heap[j]? := fun j hj => by
    rw [heap_setCell_other _ _ _ _ hj, heap_setCell_other _ _ _ _ hj]
  refine ⟨gs, gc, ⟨⟨cs, cc, by rw [zs_len]; exact hcs, hcc, ?_⟩, hs.keep (hg _ (by omega)), hc.keep (hg _ (by omega)), ⟨by omega, by omega, h3⟩⟩, h1, h2, ⟨hw.os, hw.tape, hw.output, by rw [World.size_setCell, World.size_setCell]; exact hw.size, fun j hj hjb => ?_⟩⟩
  · rw [heap_setCell_same _ b 1 _ _ _ (heap_setCell_same W b 0 _ _ _ hb), zs_len]; rfl
  · rw [hg j hjb]; exact hw.block j hj
theorem row_num {W : World} {G d v : Nat} {c : List Nat} (h : Row W G (zs c)) (hv : c[d]? = some v) : W.cell? ⟨G, d, none⟩ = some (.int .i64 (v : Int)) := by
  obtain ⟨hd, e⟩ := List.getElem?_eq_some_iff.1 hv
  have := h.cell d (by rw [zs_len]; exact hd)
  simpa [zs, e] using this
theorem rget_g {K : Nat → Prop} {w W : World} {b g h k m : Nat} {S : List Nat} {C : List Int} (H : RF w K b g h k m S C W) (F : Fits S C) {d i : Nat} (hd : d < S.length) (hi : i < S.getD d 1) (j G cG x : Nat) (hx : x = if gNum S d j > i then gNum S d j - 1 else gNum S d j) (hr : Row W G (zs ((cellL (S.set d (S.getD d 1 + 1)) j).set d x))) :
    Calls Try.prog 19 #[.pointer (some ⟨b, 0, none⟩), .slice (some ⟨G, 0, none⟩) S.length cG] W fun e W' => e = .returned (.tuple #[.int .i64 (gVal S C d i j), .int .i64 0]) ∧ ∃ n, W' = W.drewN n := by
  have hl : (zs ((cellL (S.set d (S.getD d 1 + 1)) j).set d x)).length = S.length := by rw [zs_len, List.length_set, cellL_length, List.length_set]
  have := rGet_ok b _ _ _ _ S C W H.rb F.len (zs ((cellL (S.set d (S.getD d 1 + 1)) j).set d x)) (some ⟨G, 0, none⟩) cG hr.cells F.some F.pos (Nat.le_trans F.most (by decide)) (by rw [hl]; have := F.few; omega)
  rw [hl, hx, get_any S _ C F.some (gcell_ok F hd hi j)] at this
  exact this
set_option maxRecDepth 100000 in
set_option maxHeartbeats 8000000 in
theorem rgrow_ok {K : Nat → Prop} {w : World} {b g h k m : Nat} {S : List Nat} {C : List Int} (H0 : RF w K b g h k m S C w) (F : Fits S C) (d i : Nat) (hd : d < S.length) (hi : i < S.getD d 1) (hm : C.length / S.getD d 1 * (S.getD d 1 + 1) ≤ 4096) :
    Calls Try.prog 13 #[.pointer (some ⟨b, 0, none⟩), .int .i64 (d : Int), .int .i64 (i : Int)] w fun e V' => e = .returned (.int .i64 0) ∧ RTurn w b (S.set d (S.getD d 1 + 1)) (growC S C d i) V' := by
  have HI := hid fun (X : World) (hX : Below w.heap.size w X) => H0.below hX
  have HF := hid F
  have HD := hid hd
  have HII := hid hi
  obtain ⟨d0, d1⟩ := H0.cells
  have d2 := H0.size d hd
  obtain ⟨hsz1, hszm⟩ := sz_most S C F d hd
  have F2 := grow_fits S C F d i hd hi hm
  have HALL := hid (gVal_all F hd hi)
  have HPZ := hid (show prodZ (zs (S.set d (S.getD d 1 + 1))) = prodL (S.set d (S.getD d 1 + 1)) by unfold prodZ; rw [prodN_zs 1 _ F2.pos (by rw [Nat.one_mul]; exact F2.most), Nat.one_mul]; rfl)
  have HAT := hid (fun kk => gcell_at (S := S) (d := d) hd kk)
  have HGN := hid (fun kk => gNum_lt (S := S) (d := d) kk)
  have HF2 := hid F2
  have HGET := hid (fun (W : World) (H : RF w K b g h k m S C W) (j G cG x : Nat) (hx : x = if gNum S d j > i then gNum S d j - 1 else gNum S d j) hr => rget_g H F hd hi j G cG x hx hr)
  have HSS := hid (show (zs S).set d ((S.getD d 1 + 1 : Nat) : Int) = zs (S.set d (S.getD d 1 + 1)) from zs_set S d _)
  obtain ⟨sz, hsz⟩ : ∃ sz, S.getD d 1 = sz := ⟨_, rfl⟩
  rw [hsz] at hi hm hsz1 hszm d2 HPZ HALL HGN HF2 HSS HAT
  simp only [hsz] at HGET
  rw [hsz]
  have HV := hid (fun (hl : d < (zs S).length) => (show (zs S)[d] = (sz : Int) from by
    rw [List.getD_eq_getElem?_getD, List.getElem?_eq_getElem hd] at hsz
    simp only [zs, List.getElem_map]
    exact congrArg (fun x : Nat => (x : Int)) hsz))
  have hS6 := F.few
  obtain ⟨q, hq⟩ : ∃ q, q = C.length / sz := ⟨_, rfl⟩
  obtain ⟨tot, htot⟩ : ∃ tot, tot = q * (sz + 1) := ⟨_, rfl⟩
  rw [← hq, ← htot] at hm
  have hC4 : C.length ≤ 4096 := by rw [F.len]; exact F.most
  have hq4 : q ≤ 4096 := by rw [hq]; exact Nat.le_trans (Nat.div_le_self _ _) hC4
  have a1 : (C.length : Int) / (sz : Int) = (q : Int) := by rw [hq]; rfl
  have A3 := hid (mul_in2 q sz tot htot (Nat.le_trans hm (by decide)))
  have a4 : decide ((4096 : Int) < wrap64 ((q : Int) * ((sz : Int) + 1))) = false := by rw [A3.out]; exact most_in tot hm
  have a5 : ¬ (sz : Int) = 0 := by omega
  have e1 : decide ((d : Int) < 0) = false := by simp
  have e2 : decide ((S.length : Int) ≤ (d : Int)) = false := decide_eq_false (by omega)
  have e2' : decide (S.length ≤ d) = false := decide_eq_false (by omega)
  have e3 : decide ((i : Int) < 0) = false := by simp
  have e4 : decide ((sz : Int) ≤ (i : Int)) = false := decide_eq_false (by omega)
  have e4' : decide (sz ≤ i) = false := decide_eq_false (by omega)
  have z0 : (0 : Int) ≤ (d : Int) := by omega
  have z1 : (d : Int) < (S.length : Int) := by omega
  have hl2 : (S.set d (sz + 1)).length = S.length := List.length_set
  have HSL := hid (List.length_pos_iff.2 F.some)
  clear H0 F F2 hsz hC4 htot hq hm hi hd
  go_enter Try.func13, Try.ntmps13
  go_wp2_with fail
  go_quiet (fail)
  clear a1 a4 a5 e1 e2 e2' e3 e4 e4' hq4
  have HQ := hid (below_drewN (Below.refl w.heap.size w) nq)
  generalize w.drewN nq = w1 at *
  have h1 := HI.out _ HQ.out
  obtain ⟨d0, d1⟩ := h1.cells
  have HLZ := hid (zs_len S)
  have HRD := hid (show ReadAt w1 (some ⟨g, 0, none⟩) (iv (zs S)) from h1.sz.cells.read)
  clear h1
  go_wp2_with (at_builtin; refine wpList_app rfl _ _ _ rfl rfl rfl (int_full _ _ 0 [] (ReadAt.nil _ _) rfl _ S.length _ (iv (zs S)) HRD.out (by rw [iv_length]; exact HLZ.out) (iv_one _) (by omega)) ?_)
  intro v' w2 hF
  rw [← HLZ.out] at hF
  obtain ⟨cs, rfl, hrow, hb, hcs⟩ := row_of_full (by rw [HLZ.out]; exact HSL.out) hF
  rw [HLZ.out] at hcs ⊢
  have HCS := hid hcs
  have hlt2 := hrow.lt
  have HQ2 := hid (HQ.out.trans (hb.mono HQ.out.size))
  have hdz : d < (zs S).length := by rw [HLZ.out]; exact HD.out
  have d3 := hrow.cell d hdz
  have f3 := hrow.frozen d
  rw [HV.out hdz] at d3
  have hset := hrow.set d hdz ((sz : Int) + 1)
  rw [show ((sz : Int) + 1) = ((sz + 1 : Nat) : Int) by omega, HSS.out] at hset
  have HGS := hid HQ.out.size
  generalize hgs : w1.heap.size = gs at *
  have HSET := hid hset
  have HB3 := hid (HQ2.out.setCell (p := ⟨gs, d, none⟩) HGS.out (.int .i64 ((sz + 1 : Nat) : Int)))
  have HLT3 := hid (show gs < (w2.setCell ⟨gs, d, none⟩ (.int .i64 ((sz + 1 : Nat) : Int))).heap.size by rw [World.size_setCell]; exact hlt2)
  have ec : ((sz + 1 : Nat) : Int) = (sz : Int) + 1 := by omega
  clear hset hrow hb hcs hlt2 hdz hF hgs HQ2
  go_wp2_with fail
  rw [← ec]
  clear ec
  generalize w2.setCell ⟨gs, d, none⟩ (.int .i64 ((sz + 1 : Nat) : Int)) = w3 at *
  have HPR := hid (rproduct_ok (zs (S.set d (sz + 1))) (some ⟨gs, 0, none⟩) cs w3 HSET.out.cells (by rw [zs_len, hl2]; omega))
  rw [zs_len, hl2, HPZ.out] at HPR
  generalize hS2 : S.set d (sz + 1) = S2 at *
  generalize hQQ : prodL S2 = Q at *
  clear d0 d1 d2 d3 f3
  refine HPR.out.mono ?_
  rintro e w' ⟨rfl, rfl⟩
  have HQM := hid (show Q ≤ 4096 by rw [← hQQ]; exact HF2.out.most)
  go_wp2_with fail
  go_loopw [9, 10] (fun o ii wr => ∃ j : Nat, j ≤ Q ∧ ii = .int .i64 j ∧ Below (gs + 1) w' wr ∧ ∃ po co, o = .slice po j co ∧ wr.ownsRow (gs + 1) 3 1 o j (iv ((List.range j).map (gVal S C d i)))) (fun _ ii _ => Q - (intOf ii).toNat)
  case atStart => exact ⟨0, by omega, rfl, Below.refl _ _, none, 0, rfl, World.ownsRow_nil _ _ _ _⟩
  case round =>
    obtain ⟨j, hj, rfl, hbr, po, co, rfl, ho⟩ := hrel
    have HBR := hid hbr
    have HO := hid ho
    have HBW := hid (HB3.out.trans (hbr.mono (by have := HGS.out; omega)))
    have HSZ := hid (show gs + 1 ≤ wr.heap.size from Nat.le_trans HLT3.out hbr.size)
    have HRS := hid (HSET.out.keep (hbr.block gs (by omega)))
    clear ho hbr
    by_cases hlt : j < Q
    · have e1 : decide ((j : Int) < (Q : Int)) = true := by simpa using hlt
      have e1' : decide (j < Q) = true := by simpa using hlt
      have HLT := hid hlt
      have HW := hid (show wrap64 ((j : Int) + 1) = ((j + 1 : Nat) : Int) from Go.IntWalk.wrap64_in _ (by have := HQM.out; omega))
      have HCE := hid (rcell_ok S2 j (some ⟨gs, 0, none⟩) cs wr HRS.out.cells HF2.out.pos HF2.out.few (by have := HQM.out; omega))
      rw [hl2] at HCE
      clear hlt hj
      go_wp2_with fail
      refine HCE.out.mono ?_
      rintro e w4 ⟨rfl, hrow, hb⟩
      have HB4 := hid (HBW.out.trans (hb.mono HBW.out.size))
      have HB4' := hid (HBR.out.trans (hb.mono HSZ.out))
      have HO4 := hid (own_below HO.out hb)
      have HROW := hid hrow
      have HG4 := hid (show w.heap.size ≤ wr.heap.size ∧ gs + 1 ≤ wr.heap.size from ⟨HBW.out.size, HSZ.out⟩)
      have hcl : (cellL S2 j).length = S.length := by rw [cellL_length, hl2]
      have hdc : d < (cellL S2 j).length := by rw [hcl]; exact HD.out
      have d4 := row_num hrow (HAT.out j)
      have f4 := hrow.frozen d
      have hgn : gNum S d j ≤ 4096 := by have := HGN.out j; omega
      have hlt4 := hrow.lt
      have HSET4 := hid (fun (y : Nat) => zs_set (cellL S2 j) d y)
      have HSET5 := hid (fun (y : Nat) => hrow.set d (by rw [zs_len]; exact hdc) (y : Int))
      have HSELF := hid (set_same _ _ _ (HAT.out j))
      have hsz5 := HG4.out
      have HNG := hid (fun (v : Value) => own_keep (W' := w4.setCell ⟨wr.heap.size, d, none⟩ v) HO.out fun r _ h2 => (heap_setCell_other _ _ _ _ (by show r ≠ wr.heap.size; omega)).trans (hb.block r h2))
      generalize wr.heap.size = G at *
      clear hb hcl hdc HCE hrow HBR
      by_cases hgt : gNum S d j > i
      · have e5 : decide ((i : Int) < ((gNum S d j : Nat) : Int)) = true := decide_eq_true (by omega)
        have e5' : decide (i < gNum S d j) = true := decide_eq_true (by omega)
        have ec : ((gNum S d j - 1 : Nat) : Int) = ((gNum S d j : Nat) : Int) - 1 := by omega
        have HX := hid (show gNum S d j - 1 = if gNum S d j > i then gNum S d j - 1 else gNum S d j by rw [if_pos hgt])
        have hg0 : 1 ≤ gNum S d j := by omega
        have HGV := hid (HGET.out (w4.setCell ⟨G, d, none⟩ (.int .i64 ((gNum S d j - 1 : Nat) : Int))) (HI.out _ (HB4.out.setCell (p := ⟨G, d, none⟩) hsz5.1 _)) j G S.length _ HX.out (by have := HSET5.out (gNum S d j - 1); rw [HSET4.out] at this; exact this))
        have HB5 := hid (HB4'.out.setCell (p := ⟨G, d, none⟩) hsz5.2 (.int .i64 ((gNum S d j - 1 : Nat) : Int)))
        have HB5w := hid (HB4.out.setCell (p := ⟨G, d, none⟩) hsz5.1 (.int .i64 ((gNum S d j - 1 : Nat) : Int)))
        have HO5 := hid (HNG.out (.int .i64 ((gNum S d j - 1 : Nat) : Int)))
        clear HSET4 HSET5 HSELF HX HROW hgt hsz5
        generalize gNum S d j = kd at *
        go_wp2_with fail
        rw [← ec]
        refine HGV.out.mono ?_
        rintro e w' ⟨rfl, n6, rfl⟩
        have HO6 := hid (own_drewN HO5.out n6)
        have HB6 := hid (below_drewN HB5.out n6)
        have HB6w := hid (below_drewN HB5w.out n6)
        clear HO5 HB5 HB5w HGV HO4 HB4 HB4' d4 f4
        generalize (w4.setCell ⟨G, d, none⟩ (.int .i64 ((kd - 1 : Nat) : Int))).drewN n6 = w6 at *
        have HS6 := hid (show gs + 1 ≤ w6.heap.size from Nat.le_trans HLT3.out HB6.out.size)
        go_wp2_with (at_builtin; refine wpList_app rfl _ _ _ rfl rfl rfl (app_lit _ (gVal S C d i j) HO6.out (by have := HLT.out; have := HQM.out; omega) HS6.out) ?_)
        intro v' w7 ho7 hb7
        obtain ⟨p', c', rfl⟩ := own_shape ho7
        have HO7 := hid ho7
        have HB7 := hid (HB6.out.trans hb7)
        clear ho7 hb7
        go_wp2_with fail
        go_roundw
        case rel => exact ⟨j + 1, HLT.out, by rw [HW.out], HB7.out, p', c', rfl, by rw [List.range_succ, List.map_append]; exact HO7.out⟩
        case measure => have := HLT.out; rw [HW.out]; simp [intOf]; omega
      · have e5 : decide ((i : Int) < ((gNum S d j : Nat) : Int)) = false := decide_eq_false (by omega)
        have e5' : decide (i < gNum S d j) = false := decide_eq_false (by omega)
        have HX := hid (show gNum S d j = if gNum S d j > i then gNum S d j - 1 else gNum S d j by rw [if_neg hgt])
        have HGV := hid (HGET.out w4 (HI.out _ HB4.out) j G S.length _ HX.out (by rw [HSELF.out]; exact HROW.out))
        clear HSET4 HSET5 HSELF HX HROW hgt hsz5
        generalize gNum S d j = kd at *
        go_wp2_with fail
        refine HGV.out.mono ?_
        rintro e w' ⟨rfl, n6, rfl⟩
        have HO6 := hid (own_drewN HO4.out n6)
        have HB6 := hid (below_drewN HB4'.out n6)
        have HB6w := hid (below_drewN HB4.out n6)
        clear HGV HO4 HB4 HB4' d4 f4
        generalize w4.drewN n6 = w6 at *
        have HS6 := hid (show gs + 1 ≤ w6.heap.size from Nat.le_trans HLT3.out HB6.out.size)
        go_wp2_with (at_builtin; refine wpList_app rfl _ _ _ rfl rfl rfl (app_lit _ (gVal S C d i j) HO6.out (by have := HLT.out; have := HQM.out; omega) HS6.out) ?_)
        intro v' w7 ho7 hb7
        obtain ⟨p', c', rfl⟩ := own_shape ho7
        have HO7 := hid ho7
        have HB7 := hid (HB6.out.trans hb7)
        clear ho7 hb7
        go_wp2_with fail
        go_roundw
        case rel => exact ⟨j + 1, HLT.out, by rw [HW.out], HB7.out, p', c', rfl, by rw [List.range_succ, List.map_append]; exact HO7.out⟩
        case measure => have := HLT.out; rw [HW.out]; simp [intOf]; omega
    · obtain rfl : j = Q := by omega
      have HR := hid (HI.out _ HBW.out)
      have hhd := HR.out.hd
      obtain ⟨d0, d1⟩ := HR.out.cells
      have f0 : wr.frozen? ⟨b, 0, none⟩ = false := frozen_of_row _ _ _ _ _ hhd
      have f1 : wr.frozen? ⟨b, 1, none⟩ = false := frozen_of_row _ _ _ _ _ hhd
      have hglen : (growC S C d i).length = j := by rw [HALL.out]; simp
      rw [← HALL.out] at HO
      have HFIN := hid (show ∃ gc cc, po = some ⟨gc, 0, none⟩ ∧ gs + 1 ≤ gc ∧ Row wr gc (growC S C d i) ∧ (growC S C d i).length ≤ cc ∧ co = cc from by
        have ho := HO.out
        rw [← hglen] at ho
        obtain ⟨gc, cc, e, h1, h2, h3⟩ := row_of_owns ho (by rw [hglen, ← hQQ]; exact prodL_pos _ HF2.out.pos)
        injection e with e1 e2 e3
        exact ⟨gc, cc, e1, h1, h2, h3, e3⟩)
      obtain ⟨gc, cc, rfl, h1, h2, h3, rfl⟩ := HFIN.out
      have HTURN := hid (rturn_of (S := S2) (X := growC S C d i) (cs := cs) (cc := co) hhd (Nat.lt_of_lt_of_le (by have := (HI.out _ (Below.refl _ _)).hd; exact (Array.getElem?_eq_some_iff.1 this).1) (Nat.le_refl _)) HRS.out h2 HGS.out (by have := HGS.out; omega) (by omega) (by rw [hl2]; exact HCS.out) h3 HBW.out)
      rw [hl2, hglen] at HTURN
      clear hlt hj hhd h1 h2 h3 hglen
      go_wp2_with fail
      go_ret
      exact ⟨rfl, by rw [hS2]; exact HTURN.out⟩
end Go.Proofs.Ytpbidpgpehicmaa.Sl
