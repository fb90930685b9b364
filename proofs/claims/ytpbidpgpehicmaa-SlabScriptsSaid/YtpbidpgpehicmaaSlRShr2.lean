/- The document's Shrink, where it is asked for numbers that are there. -/
import Derived.Test.YtpbidpgpehicmaaSlRShr
namespace Go.Proofs.Ytpbidpgpehicmaa.Sl
open Go.RowKit Go.Shelf
open Go.Lib (hid)

set_option maxRecDepth 100000 in
set_option maxHeartbeats 8000000 in
theorem rshrink_in {K : Nat → Prop} {w : World} {b g h k m : Nat} {S : List Nat} {C : List Int} (H0 : RF w K b g h k m S C w) (F : Fits S C) (d i : Nat) (hd : d < S.length) (hi : i + 1 < S.getD d 1) :
    Calls Try.prog 15 #[.pointer (some ⟨b, 0, none⟩), .int .i64 (d : Int), .int .i64 (i : Int)] w fun e V' =>
      (shrOk C (prodL (S.drop (d + 1))) (S.getD d 1) i (C.length / prodL (S.drop (d + 1))) ∧ e = .returned (.int .i64 0) ∧ RTurn w b (S.set d (S.getD d 1 - 1)) (shrC C (prodL (S.drop (d + 1))) (S.getD d 1) i (C.length / prodL (S.drop (d + 1)))) V') ∨
      (¬ shrOk C (prodL (S.drop (d + 1))) (S.getD d 1) i (C.length / prodL (S.drop (d + 1))) ∧ e = .returned (.int .i64 1) ∧ Below w.heap.size w V') := by
  have HI := hid fun (X : World) (hX : Below w.heap.size w X) => H0.below hX
  have HF := hid F
  have HD := hid hd
  have hp : 0 < prodL (S.drop (d + 1)) := prodL_pos _ fun s hs => F.pos s (List.mem_of_mem_drop hs)
  have hall := hstep_all (i := i) F hd
  have HIFF := hid (show shrOk C (prodL (S.drop (d + 1))) (S.getD d 1) i (C.length / prodL (S.drop (d + 1))) ↔ ∀ k, k < C.length → sNum S d k = i + 1 → C.getD (k - prodL (S.drop (d + 1))) 0 = C.getD k 0 from shrOk_iff (C := C) (i := i) (prodL (S.drop (d + 1))) (S.getD d 1) (C.length / prodL (S.drop (d + 1))) hp hall.2)
  have HALL := hid hall.1
  have F2 := shr_fits S C F d i hd hi
  have HPOS := hid (shr_pos S C F d i hd hi)
  have HGET := hid (fun (W : World) (H : RF w K b g h k m S C W) (j G cG : Nat) hj hn hr => rget_s H F hd (Nat.lt_of_succ_lt hi) j G cG hj hn hr)
  have HAT := hid (fun kk => scell_at (S := S) hd kk)
  have HSTEP := hid (fun j hj => hstep_succ (S := S) (C := C) (d := d) (i := i) j hj)
  have HLEN := hid (fun j => hstep_len (S := S) (C := C) (d := d) (i := i) j)
  have HNUM := hid (fun j => (show sNum S d j < S.getD d 1 from Nat.mod_lt _ (by omega)))
  obtain ⟨d0, d1⟩ := H0.cells
  have d2 := H0.size d hd
  obtain ⟨hsz1, hszm⟩ := sz_most S C F d hd
  have HSS := hid (show (zs S).set d ((S.getD d 1 - 1 : Nat) : Int) = zs (S.set d (S.getD d 1 - 1)) from zs_set S d _)
  have HV := hid (fun (hl : d < (zs S).length) => (show (zs S)[d] = ((S.getD d 1 : Nat) : Int) from by
    simp only [zs, List.getElem_map]
    rw [List.getD_eq_getElem?_getD, List.getElem?_eq_getElem hd]; rfl))
  have HRD := hid fun (X : World) (hX : Below w.heap.size w X) => (show ReadAt X (some ⟨g, 0, none⟩) (iv (zs S)) from (H0.below hX).sz.cells.read)
  have hS6 := F.few
  have HSL := hid (List.length_pos_iff.2 F.some)
  have HCL := hid (show C.length ≤ 4096 by rw [F.len]; exact F.most)
  have HLZ := hid (zs_len S)
  have hl2 : (S.set d (S.getD d 1 - 1)).length = S.length := List.length_set
  have e1 : decide ((d : Int) < 0) = false := by simp
  have e2 : decide ((S.length : Int) ≤ (d : Int)) = false := decide_eq_false (by omega)
  have e2' : decide (S.length ≤ d) = false := decide_eq_false (by omega)
  have e3 : decide ((i : Int) < 0) = false := by simp
  have e4 : decide (((S.getD d 1 : Nat) : Int) - 1 ≤ (i : Int)) = false := decide_eq_false (by omega)
  have z0 : (0 : Int) ≤ (d : Int) := by omega
  have z1 : (d : Int) < (S.length : Int) := by omega
  have HII := hid hi
  clear hall hp F2 F hd
  have hi4 : i ≤ 4096 := by omega
  generalize S.set d (S.getD d 1 - 1) = S2 at *
  generalize shrC C (prodL (S.drop (d + 1))) (S.getD d 1) i (C.length / prodL (S.drop (d + 1))) = CC at *
  generalize shrOk C (prodL (S.drop (d + 1))) (S.getD d 1) i (C.length / prodL (S.drop (d + 1))) = OK at *
  clear hi H0
  generalize S.getD d 1 = sz at *
  go_enter Try.func15, Try.ntmps15
  go_wp2_with fail
  clear e1 e2 e2' e3 e4 d0 d1 d2
  go_loopw [7, 8] (fun o ii wr => ∃ j : Nat, j ≤ C.length ∧ ii = .int .i64 j ∧ Below w.heap.size w wr ∧ (∃ po co, o = .slice po (hstep S C d i j).length co ∧ wr.ownsRow w.heap.size 3 1 o (hstep S C d i j).length (iv (hstep S C d i j))) ∧ ∀ k, k < j → sNum S d k = i + 1 → C.getD (k - prodL (S.drop (d + 1))) 0 = C.getD k 0) (fun _ ii _ => C.length - (intOf ii).toNat)
  case atStart => exact ⟨0, by omega, rfl, Below.refl _ _, ⟨none, 0, rfl, World.ownsRow_nil _ _ _ _⟩, fun k hk => by omega⟩
  case round =>
    obtain ⟨j, hj, rfl, hbr, ⟨po, co, rfl, ho⟩, hok⟩ := hrel
    have HBR := hid hbr
    have HO := hid ho
    have HOKJ := hid hok
    have HR := hid (HI.out _ hbr)
    obtain ⟨d0, d1⟩ := HR.out.cells
    clear ho hbr hok
    by_cases hlt : j < C.length
    · have e1 : decide ((j : Int) < (C.length : Int)) = true := by simpa using hlt
      have e1' : decide (j < C.length) = true := by simpa using hlt
      have HLT := hid hlt
      have HW := hid (show wrap64 ((j : Int) + 1) = ((j + 1 : Nat) : Int) from Go.IntWalk.wrap64_in _ (by have := HCL.out; omega))
      have HCE := hid (rcell_ok S j (some ⟨g, 0, none⟩) k wr HR.out.sz.cells HF.out.pos HF.out.few (by have := HCL.out; omega))
      have HJL := hid (Nat.le_trans (HLEN.out j) hj)
      clear hlt hj
      go_wp2_with fail
      refine HCE.out.mono ?_
      rintro e w4 ⟨rfl, hrow, hb⟩
      have HB4 := hid (HBR.out.trans (hb.mono HBR.out.size))
      have HO4 := hid (own_below HO.out hb)
      have HROW := hid hrow
      have hcl : (cellL S j).length = S.length := cellL_length S j
      have hdc : d < (cellL S j).length := by rw [hcl]; exact HD.out
      have d4 := row_num hrow (HAT.out j)
      have f4 := hrow.frozen d
      have hgn : sNum S d j ≤ 4096 := by have := HNUM.out j; omega
      have HSET5 := hid (show Row (w4.setCell ⟨wr.heap.size, d, none⟩ (.int .i64 (i : Int))) wr.heap.size (zs ((cellL S j).set d i)) by
        rw [← zs_set]; exact hrow.set d (by rw [zs_len]; exact hdc) (i : Int))
      have HO5 := hid (own_keep (W' := w4.setCell ⟨wr.heap.size, d, none⟩ (.int .i64 (i : Int))) HO.out fun r _ h2 => (heap_setCell_other _ _ _ _ (by show r ≠ wr.heap.size; omega)).trans (hb.block r h2))
      have HB5 := hid (HB4.out.setCell (p := ⟨wr.heap.size, d, none⟩) HBR.out.size (.int .i64 (i : Int)))
      generalize wr.heap.size = G at *
      clear hb hcl hdc HCE hrow HBR d0 d1
      by_cases hnum : sNum S d j = i + 1
      · have e5 : (((sNum S d j : Nat) : Int) != (i : Int) + 1) = false := by rw [hnum]; simp
        have HGV := hid (HGET.out _ (HI.out _ HB5.out) j G S.length HLT.out hnum HSET5.out)
        have HST := hid (HSTEP.out j HLT.out)
        rw [if_neg (by simpa using hnum)] at HST
        have HNM := hid hnum
        generalize sNum S d j = kd at d4 e5 hgn
        clear hnum
        go_wp2_with fail
        refine HGV.out.mono ?_
        rintro e w' ⟨rfl, n6, rfl⟩
        have HO6 := hid (own_drewN HO5.out n6)
        have HB6 := hid (below_drewN HB5.out n6)
        clear HO5 HB5 HGV HO4 HB4 d4 f4 HSET5 HROW
        generalize (w4.setCell ⟨G, d, none⟩ (.int .i64 (i : Int))).drewN n6 = w6 at *
        have hr6 := HI.out _ HB6.out
        obtain ⟨d0, d1⟩ := hr6.cells
        have d2 := hr6.co.cell j HLT.out
        have z3 : (j : Int) < (C.length : Int) := by have := HLT.out; omega
        have z4 : (0 : Int) ≤ (j : Int) := by omega
        have HGD := hid (show C.getD j 0 = C[j]'HLT.out by rw [List.getD_eq_getElem?_getD, List.getElem?_eq_getElem HLT.out]; rfl)
        generalize C[j]'HLT.out = cj at d2 HGD
        clear hr6
        by_cases hsame : C.getD (j - prodL (S.drop (d + 1))) 0 = cj
        · rw [hsame]
          have HSM := hid hsame
          have e6 : (cj != cj) = false := by simp
          clear hsame
          go_wp2_with fail
          go_roundw
          case rel =>
            refine ⟨j + 1, HLT.out, by rw [HW.out], HB6.out, ⟨po, co, by rw [HST.out], by rw [HST.out]; exact HO6.out⟩, fun k hk hkn => ?_⟩
            by_cases hkj : k = j
            · subst hkj; rw [HSM.out, HGD.out]
            · exact HOKJ.out k (by omega) hkn
          case measure => have := HLT.out; rw [HW.out]; simp [intOf]; omega
        · have e6 : (C.getD (j - prodL (S.drop (d + 1))) 0 != cj) = true := by simpa using hsame
          have HNO := hid (show ¬ OK from fun hk => hsame (by rw [← HGD.out]; exact HIFF.out.1 hk j HLT.out HNM.out))
          generalize C.getD (j - prodL (S.drop (d + 1))) 0 = vv at e6
          clear hsame
          go_wp2_with fail
          go_ret
          exact .inr ⟨HNO.out, rfl, HB6.out⟩
      · have e5 : (((sNum S d j : Nat) : Int) != (i : Int) + 1) = true := by simp; omega
        have HST := hid (HSTEP.out j HLT.out)
        rw [if_pos hnum] at HST
        have HNM := hid hnum
        have hr4 := HI.out _ HB4.out
        obtain ⟨d0, d1⟩ := hr4.cells
        have d2 := hr4.co.cell j HLT.out
        have z3 : (j : Int) < (C.length : Int) := by have := HLT.out; omega
        have z4 : (0 : Int) ≤ (j : Int) := by omega
        generalize C[j]'HLT.out = cj at d2 HST
        have HS4 := hid HB4.out.size
        generalize hkd : sNum S d j = kd at d4 e5 hgn
        clear hnum hr4 HSET5 HO5 HB5 HROW f4
        go_wp2_with (at_builtin; refine wpList_app rfl _ _ _ rfl rfl rfl (app_lit _ cj HO4.out (by have := HJL.out; have := HCL.out; omega) HS4.out) ?_)
        intro v' w7 ho7 hb7
        obtain ⟨p', c', rfl⟩ := own_shape ho7
        have HO7 := hid ho7
        have HB7 := hid (HB4.out.trans hb7)
        clear ho7 hb7 d0 d1 d2 d4
        go_wp2_with fail
        go_roundw
        case rel =>
          refine ⟨j + 1, HLT.out, by rw [HW.out], HB7.out, ⟨p', c', by rw [HST.out, List.length_append]; rfl, by rw [HST.out, List.length_append]; exact HO7.out⟩, fun k hk hkn => ?_⟩
          by_cases hkj : k = j
          · subst hkj; exact absurd hkn HNM.out
          · exact HOKJ.out k (by omega) hkn
        case measure => have := HLT.out; rw [HW.out]; simp [intOf]; omega
    · obtain rfl : j = C.length := by omega
      have HYES := hid (HIFF.out.2 HOKJ.out)
      have e1 : decide ((C.length : Int) < (C.length : Int)) = false := by simp
      rw [HALL.out] at HO ⊢
      clear hlt hj
      go_wp2_with (at_builtin; refine wpList_app rfl _ _ _ rfl rfl rfl (int_full _ _ 0 [] (ReadAt.nil _ _) rfl _ S.length _ (iv (zs S)) (HRD.out _ HBR.out) (by rw [iv_length]; exact HLZ.out) (iv_one _) (by omega)) ?_)
      intro v' w2 hF
      rw [← HLZ.out] at hF
      obtain ⟨cs, rfl, hrow, hb, hcs⟩ := row_of_full (by rw [HLZ.out]; exact HSL.out) hF
      rw [HLZ.out] at hcs ⊢
      have HCS := hid hcs
      have HB2 := hid (HBR.out.trans (hb.mono HBR.out.size))
      have hdz : d < (zs S).length := by rw [HLZ.out]; exact HD.out
      have d3 := hrow.cell d hdz
      have f3 := hrow.frozen d
      rw [HV.out hdz] at d3
      have hset : Row (w2.setCell ⟨wr.heap.size, d, none⟩ (.int .i64 ((sz : Int) - 1))) wr.heap.size (zs S2) := by
        have h := hrow.set d hdz ((sz : Int) - 1)
        rw [← HSS.out, show ((sz - 1 : Nat) : Int) = (sz : Int) - 1 by omega]; exact h
      have HSET := hid hset
      have HB3 := hid (HB2.out.setCell (p := ⟨wr.heap.size, d, none⟩) HBR.out.size (.int .i64 ((sz : Int) - 1)))
      obtain ⟨gc, cc, e, hg1, hg2, hg3⟩ := row_of_owns HO.out HPOS.out
      injection e with e3 e4 e5
      subst e3; subst e5
      have hgcl := hg2.lt
      have hg4 : Row (w2.setCell ⟨wr.heap.size, d, none⟩ (.int .i64 ((sz : Int) - 1))) gc CC := hg2.keep ((heap_setCell_other _ _ _ _ (by show gc ≠ wr.heap.size; omega)).trans (hb.block gc hgcl))
      have hhd := (HI.out _ HB3.out).hd
      obtain ⟨d5, d6⟩ := (HI.out _ HB3.out).cells
      have f0 : (w2.setCell ⟨wr.heap.size, d, none⟩ (.int .i64 ((sz : Int) - 1))).frozen? ⟨b, 0, none⟩ = false := frozen_of_row _ _ _ _ _ hhd
      have f1 : (w2.setCell ⟨wr.heap.size, d, none⟩ (.int .i64 ((sz : Int) - 1))).frozen? ⟨b, 1, none⟩ = false := frozen_of_row _ _ _ _ _ hhd
      have HTURN := hid (rturn_of (S := S2) (X := CC) (cs := cs) (cc := co) hhd (by have := (HI.out _ (Below.refl _ _)).hd; exact (Array.getElem?_eq_some_iff.1 this).1) hset hg4 HBR.out.size hg1 (by omega) (by rw [hl2]; exact HCS.out) hg3 HB3.out)
      rw [hl2] at HTURN
      clear hset hg1 hg2 hg3 hg4 hgcl hhd hrow hb hcs hdz HRD HSET
      go_wp2_with fail
      go_ret
      exact .inl ⟨HYES.out, rfl, HTURN.out⟩
end Go.Proofs.Ytpbidpgpehicmaa.Sl
