/- ScaleHolds walked. -/
import Derived.Test.YtmhjoeegghnlhaaScMeetsW
import Derived.Test.YtmhjoeegghnlhaaScBackW
import Derived.Test.YtmhjoeegghnlhaaIntApp
namespace Go.Proofs.Ytmhjoeegghnlhaa
open Go.RowKit
open Go.Lib (hid)
open Go.ChangeShapes Go.WideShapes Go.Joins
open Go.Proofs.Ytmhjoeegghnlhaa.Ky Go.Proofs.Ytmhjoeegghnlhaa.Bk Go.Proofs.Ytmhjoeegghnlhaa.Sc

set_option maxRecDepth 100000 in
theorem ScaleHolds_open1 {H : Type} {enc : TypeId × Value → H} {W : World} {base : Nat} {v : Value} {d : DataW H} {p : List MemPlace} (hv : Value.okWide Try.prog W .any base 22 v) (h : DataW.Trod enc Try.prog W 0 (fun _ => true) true 22 v d p) : ∃ a len cap, v = .slice a len cap ∧ IsOps W a len := open_Ops hv h
set_option maxRecDepth 100000 in
theorem ScaleHolds_open2 {H : Type} {enc : TypeId × Value → H} {W : World} {base : Nat} {v : Value} {d : DataW H} {p : List MemPlace} (hv : Value.okWide Try.prog W .any base 32 v) (h : DataW.Trod enc Try.prog W 0 (fun _ => true) true 32 v d p) : KeyV W v := open_key hv h
theorem own_at {V : World} {g : Nat} {l : List Nat} (h : Own V g l) (j : Nat) (hj : j < l.length) : V.cell? ⟨g, j, none⟩ = some (.int .u32 (l[j] : Int)) := by
  rw [cell_of_row _ _ _ _ _ _ h]
  simp [kcs, hj]
theorem ints_small {C : List Nat} (h : ∀ x ∈ C, x ≤ 1001) (j : Nat) (hj : j < (zs C).length) : -9223372036854775808 ≤ (zs C)[j] ∧ (zs C)[j] ≤ 9223372036854775807 := by
  have hj' : j < C.length := by rw [zs_len] at hj; exact hj
  have e : (zs C)[j] = (C[j] : Int) := by simp [zs]
  have := h _ (List.getElem_mem hj')
  rw [e]; omega
theorem il_zs (C : List Nat) : il (zs C) = ci C := by simp [il, zs, ci]
theorem is_read {V : World} {g : Nat} {C : List Nat} (h : V.heap[g]? = some (.cells (ci C).toArray 3 (0, 0))) : ReadAt V (some ⟨g, 0, none⟩) (ci C) := fun j u hj => by
  refine ⟨g, 0, rfl, lt_of h, ?_⟩
  rw [cell_of_row _ _ _ _ _ _ h, Nat.zero_add]
  simpa using hj
set_option maxRecDepth 100000 in
set_option maxHeartbeats 16000000 in
theorem ScaleHolds_walk (d : Int) (v1 v2 : Value) (w : World) (_ : (Lit.int .i64 d).wf = true) (h1 : ∃ a len cap, v1 = .slice a len cap ∧ IsOps w a len) (h2 : KeyV w v2) :
    Calls Try.prog 6 #[.int .i64 d, v1, v2] w fun e w' => e = .returned (.bool true) ∧ Below w.heap.size w w' := by
  obtain ⟨a, n, cap, rfl, hs⟩ := h1
  obtain ⟨p, k, c, rfl, hp, hkl⟩ := h2
  have HCB := hid (refCheck_ok p k.length c d w)
  cases hb : checkB k.length d with
  | false =>
    rw [hb, err_false false rfl] at HCB
    clear hb
    go_enter Try.func6, Try.ntmps6
    go_wp2_with fail
    refine HCB.out.mono ?_
    rintro e w1 ⟨rfl, rfl⟩
    go_wp2_with fail
    refine (live_any _).mono ?_
    rintro e w2 ⟨rfl, hb⟩
    have H2 := hid hb; clear hb
    go_wp2_with fail
    go_ret
    exact ⟨rfl, H2.out⟩
  | true =>
    rw [hb, err_true true rfl] at HCB
    have hbb := hb
    unfold checkB mayB at hbb
    simp only [Bool.and_eq_true, decide_eq_true_eq] at hbb
    obtain ⟨⟨hd1, hd2⟩, hle⟩ := hbb
    obtain ⟨D, rfl⟩ : ∃ D : Nat, d = (D : Int) := ⟨d.toNat, by omega⟩
    have HDD := hid (show 1 ≤ D ∧ D ≤ 6 by omega)
    have HLL := hid (show k.length = D by omega)
    have HBB := hid hb
    have HS := hid hs
    have HP := hid hp
    have HF := hid (pt_mem hp)
    have HKL := hid hkl
    clear hb hd1 hd2 hle hkl hs hp
    go_enter Try.func6, Try.ntmps6
    go_wp2_with fail
    refine HCB.out.mono ?_
    rintro e w1 ⟨rfl, rfl⟩
    clear HCB
    go_wp2_with fail
    refine (grown_yes D a n cap w HDD.out HS.out).mono ?_
    rintro e w2 ⟨rfl, vs, bs, hsc, hu, hl, hb⟩
    subst hl
    have HSC := hid hsc
    have HU := hid hu
    have HP2 := hid (HP.out.below hb)
    have H2 := hid hb
    have HFIT := hid (show ∀ l ∈ bs, ∀ x ∈ l, x < 4294967296 from fun l hl => (hsc.fit l hl).1)
    clear hsc hu hb HS HP
    have HFI := hid (find_any _ _ _ vs bs k p c w2 HSC.out HU.out HP2.out)
    rw [HBB.out, err_true true rfl] at HFI
    simp only [if_true] at HFI
    go_wp2_with fail
    refine HFI.out.mono ?_
    rintro e w3 ⟨q, m, rfl, ⟨rfl, g, rfl, hg, _⟩, hb⟩
    have HSC3 := hid (HSC.out.next hb)
    have HP3 := hid (HP2.out.below hb)
    have HG3 := hid hg
    have H3 := hid (H2.out.trans (hb.mono H2.out.size))
    clear hg hb HSC HP2 H2 HFI
    have HCL := hid (cellL_len HLL.out)
    have HC1 := hid (cellL_le HU.out HLL.out)
    have HZ1 := hid (show (zs (cellL bs k)).length = bs.length by rw [zs_len, HCL.out])
    have HI3 := hid (is_ci HG3.out HC1.out)
    have HIN := hid (in_of HU.out HLL.out HF.out)
    go_wp2_with fail
    refine (box_yes _ _ _ vs bs (zs (cellL bs k)) (zs (cellL bs k)) _ _ bs.length bs.length bs.length w3 HSC3.out HU.out HI3.out HI3.out HZ1.out HZ1.out rfl (rise_of HU.out HLL.out HLL.out (leAll_refl _))).mono ?_
    rintro e w4 ⟨gl, gh, rfl, hol, hoh, _, ⟨hll, hlh⟩, ⟨hfl, hfh⟩, hb⟩
    obtain ⟨V4, hV4⟩ : ∃ V4, w4.alloc (.cells #[.slice (some ⟨gl, 0, none⟩) bs.length bs.length, .slice (some ⟨gh, 0, none⟩) bs.length bs.length] 34) = V4 := ⟨_, rfl⟩
    have HN4 := hid (hb.trans (show Below w3.heap.size w4 V4 by rw [← hV4]; exact (below_alloc _ _).mono hb.size))
    have HA4 := hid (show Below w4.heap.size w4 V4 by rw [← hV4]; exact below_alloc _ _)
    have HY4 := hid (show V4.heap[w4.heap.size]? = some (.cells #[.slice (some ⟨gl, 0, none⟩) bs.length bs.length, .slice (some ⟨gh, 0, none⟩) bs.length bs.length] 34 (0, 0)) by rw [← hV4]; exact heap_alloc_new _ _)
    have HOL := hid (hol.below HA4.out)
    have HOH := hid (hoh.below HA4.out)
    have HFL := hid (And.intro hfl hfh)
    have HLH := hid (And.intro hll hlh)
    have HSC4 := hid (HSC3.out.next HN4.out)
    have HP4 := hid (HP3.out.below HN4.out)
    have HG4 := hid ((HN4.out.block _ (lt_of HG3.out)).trans HG3.out)
    have H4 := hid (H3.out.trans (HN4.out.mono H3.out.size))
    clear hol hoh hll hlh hfl hfh hb HSC3 HP3 HG3 HI3 H3 HN4 HA4
    have y0 : V4.cell? ⟨w4.heap.size, 0, none⟩ = some (.slice (some ⟨gl, 0, none⟩) bs.length bs.length) := by rw [cell_of_row _ _ _ _ _ _ HY4.out]; rfl
    have y1 : V4.cell? ⟨w4.heap.size, 1, none⟩ = some (.slice (some ⟨gh, 0, none⟩) bs.length bs.length) := by rw [cell_of_row _ _ _ _ _ _ HY4.out]; rfl
    go_wp2_with fail
    clear hV4
    have HIC := hid (refIn_ok k (lowL bs (zs (cellL bs k))) (highL bs (zs (cellL bs k))) p (some ⟨gl, 0, none⟩) (some ⟨gh, 0, none⟩) c bs.length bs.length V4 HP4.out (HOL.out.pt HFL.out.1) (HOH.out.pt HFL.out.2) HKL.out)
    rw [HIN.out, HLH.out.1, HLH.out.2] at HIC
    refine HIC.out.mono ?_
    rintro e w5 ⟨rfl, hb⟩
    have HSC5 := hid (HSC4.out.next hb)
    have HP5 := hid (HP4.out.below hb)
    have HG5 := hid ((hb.block _ (lt_of HG4.out)).trans HG4.out)
    have HY5 := hid ((hb.block _ (lt_of HY4.out)).trans HY4.out)
    have HOH5 := hid (HOH.out.below hb)
    have H5 := hid (H4.out.trans (hb.mono H4.out.size))
    clear hb HSC4 HP4 HG4 HY4 HOL HOH H4 HIC y0 y1 HBB
    generalize w4.heap.size = gb at *
    go_wp2_with fail
    refine (sizes_ok _ _ _ vs bs w5 HSC5.out).mono ?_
    rintro e w6 ⟨gs, rfl, hgs, _, hb⟩
    have HSC6 := hid (HSC5.out.next hb)
    have HP6 := hid (HP5.out.below hb)
    have HG6 := hid ((hb.block _ (lt_of HG5.out)).trans HG5.out)
    have HY6 := hid ((hb.block _ (lt_of HY5.out)).trans HY5.out)
    have HOH6 := hid (HOH5.out.below hb)
    have HGS := hid hgs
    have H6 := hid (H5.out.trans (hb.mono H5.out.size))
    clear hb hgs HSC5 HP5 HG5 HY5 HOH5 H5
    go_wp2_with fail
    go_loopw [13] (fun s wr => ∃ i : Nat, s = .int .i64 i ∧ i ≤ bs.length ∧ Below w6.heap.size w6 wr) (fun s _ => bs.length - (intOf s).toNat)
    case atStart => exact ⟨0, rfl, by omega, Below.refl _ _⟩
    case round =>
      obtain ⟨i, rfl, hi, hb⟩ := hrel
      have HB := hid hb
      clear hb
      by_cases hlt : i < bs.length
      · have e1 : decide ((i : Int) < (bs.length : Int)) = true := by simpa using hlt
        have e1' : decide (i < bs.length) = true := by simpa using hlt
        have HSCr := hid (HSC6.out.next HB.out)
        have HGr := hid ((HB.out.block _ (lt_of HG6.out)).trans HG6.out)
        have hci : i < (cellL bs k).length := by rw [HCL.out]; exact hlt
        have HCI := hid (show (cellL bs k)[i]'hci = itv (bs.getD i []) (k.getD i 0) by rw [← cellL_at HLL.out hlt, List.getD_eq_getElem?_getD, List.getElem?_eq_getElem hci]; rfl)
        have HRD := hid (is_read HGr.out)
        have HAP := hid (int_full (w := wr) 35 none 0 [] (ReadAt.nil _ _) rfl (some ⟨g, 0, none⟩) bs.length bs.length (ci (cellL bs k)) HRD.out (by rw [ci_length, HCL.out]) (by rw [← il_zs]; exact il_one _) (by have := HDD.out; omega))
        have HXS := hid (show itv (bs.getD i []) (k.getD i 0) ≤ 1000 by rw [← HCI.out]; exact HC1.out _ (List.getElem_mem hci))
        have HIS := hid (show ∀ x ∈ (cellL bs k).set i (itv (bs.getD i []) (k.getD i 0) + 1), x ≤ 1001 from fun x hx => by
          rcases List.mem_or_eq_of_mem_set hx with hx | rfl
          · have := HC1.out x hx; omega
          · have := HXS.out; omega)
        have hq1 : wr.cell? ⟨g, i, none⟩ = some (.int .i64 ((itv (bs.getD i []) (k.getD i 0) : Nat) : Int)) := by rw [ci_at HGr.out i hci, HCI.out]
        have HQ1 := hid hq1
        have hsz : i < (sizeL bs).length := by unfold sizeL; simpa using hlt
        have HGR := hid ((HB.out.block _ (lt_of HGS.out)).trans HGS.out)
        have hq2 : wr.cell? ⟨gs, i, none⟩ = some (.int .i64 (((bs.getD i []).length + 1 : Nat) : Int)) := by rw [ci_at HGR.out i hsz, sizeL_at _ _ hlt]
        have HQ2 := hid hq2
        have HGL := hid (lt_of HGr.out)
        have HGSL := hid (lt_of HGR.out)
        have HD0 := hid (show 0 < bs.length by omega)
        have HLT := hid hlt
        have HNR := hid (next_rise HLL.out hlt)
        have HNO := hid fun (hc : itv (bs.getD i []) (k.getD i 0) < (bs.getD i []).length) => next_out HU.out HLL.out HF.out hlt hc
        have HNL := hid fun (hc : itv (bs.getD i []) (k.getD i 0) < (bs.getD i []).length) => next_low HU.out HLL.out hlt hc
        have HSM := hid fun (hc : itv (bs.getD i []) (k.getD i 0) < (bs.getD i []).length) => high_small HLL.out HFIT.out hlt hc
        have hhi : i < (highL bs (zs (cellL bs k))).length := by rw [highL_len]; exact hlt
        have hq5 := own_at (HOH6.out.below HB.out) i hhi
        rw [highL_at] at hq5
        have HQ5 := hid hq5
        have HGH := hid (Nat.lt_of_lt_of_le (HOH6.out.lt) HB.out.size)
        have HLAT := hid fun (x : List Int) (hx : i < (lowL bs x).length) => lowL_at bs x i hx
        have HLN := hid (show ∀ x, i < (lowL bs x).length from fun x => by rw [lowL_len]; exact hlt)
        have HYR := hid (show wr.cell? ⟨gb, 1, none⟩ = some (.slice (some ⟨gh, 0, none⟩) bs.length bs.length) by rw [cell_of_row _ _ _ _ _ _ ((HB.out.block _ (lt_of HY6.out)).trans HY6.out)]; rfl)
        have HGB := hid (Nat.lt_of_lt_of_le (lt_of HY6.out) HB.out.size)
        have HPr := hid (HP6.out.below HB.out)
        clear hq1 hq2 hhi hq5 hsz HGR HCI hci HGr
        generalize itv (bs.getD i []) (k.getD i 0) = X at *
        generalize hX1 : X + 1 = X1 at *
        generalize hS : (bs.getD i []).length = S at *
        generalize hS1 : S + 1 = S1 at *
        have HX1 := hid hX1
        have HS1 := hid hS1
        generalize highN (bs.getD i []) ((zs (cellL bs k)).getD i 0) = Y at *
        clear hX1 hS hS1
        have hz7 : (0 : Int) ≤ (i : Int) := by omega
        have hz8 : (i : Int) < (bs.length : Int) := by omega
        have hz9 : IntKind.i64.wrap ((X : Int) + 1) = (X1 : Int) := by rw [IntKind.wrap_i64]; have := HXS.out; have := HX1.out; omega
        go_wp2_with (at_builtin; refine wpList_app rfl _ _ _ rfl rfl rfl HAP.out ?_)
        intro v' w7 hF
        rw [← il_zs] at hF
        obtain ⟨c7, rfl, hr, hb7⟩ := ir_of HD0.out HZ1.out hF
        have HR7 := hid hr
        have HB7 := hid hb7
        have q1 := (hb7.cell (p := ⟨g, i, none⟩) HGL.out).trans HQ1.out
        have q2 := hr.cells i (by rw [HZ1.out]; exact HLT.out)
        have q3 := hr.froz i
        clear hF hr hb7 HAP HRD
        generalize (zs (cellL bs k))[i]'_ = q0 at q2
        obtain ⟨W7, hW7⟩ : ∃ W7, w7.setCell ⟨wr.heap.size, i, none⟩ (.int .i64 (X1 : Int)) = W7 := ⟨_, rfl⟩
        have HR8 := hid (show IR W7 wr.heap.size bs.length (zs ((cellL bs k).set i X1)) by
          rw [← hW7, ← zs_set]; exact HR7.out.set i HLT.out _)
        have HB8 := hid (show Below wr.heap.size wr W7 by rw [← hW7]; exact HB7.out.setCell (Nat.le_refl _) _)
        have HI8 := hid (HR8.out.is (ints_small HIS.out))
        have HSC8 := hid (HSCr.out.next HB8.out)
        have HZ8 := hid HR8.out.len
        have HDI := hid (show ∀ V : World, Below W7.heap.size W7 V → V.cell? ⟨wr.heap.size, i, none⟩ = some (.int .i64 (X1 : Int)) ∧ V.cell? ⟨gs, i, none⟩ = some (.int .i64 (S1 : Int)) ∧ V.cell? ⟨gb, 1, none⟩ = some (.slice (some ⟨gh, 0, none⟩) bs.length bs.length) ∧ V.cell? ⟨gh, i, none⟩ = some (.int .u32 (Y : Int)) ∧ Below wr.heap.size wr V from fun V hV => by
          have hbV := HB8.out.trans (hV.mono HB8.out.size)
          refine ⟨?_, (hbV.cell (p := ⟨gs, i, none⟩) HGSL.out).trans HQ2.out, (hbV.cell (p := ⟨gb, 1, none⟩) HGB.out).trans HYR.out, (hbV.cell (p := ⟨gh, i, none⟩) HGH.out).trans HQ5.out, hbV⟩
          refine (hV.cell (p := ⟨wr.heap.size, i, none⟩) HR8.out.lt).trans ?_
          rw [← hW7]
          exact World.cell?_setCell_same' w7 ⟨wr.heap.size, i, none⟩ _ (by rw [q2]; rfl))
        clear HR7 HB7 HQ1 HQ2 HQ5 HYR
        by_cases hc : X < S
        · rw [decide_eq_true hc] at HNR
          have HNO2 := hid (HNO.out hc)
          have HNL2 := hid (HNL.out hc)
          have HSM2 := hid (HSM.out hc)
          have d1 : decide ((X1 : Int) < (S1 : Int)) = true := by have := HX1.out; have := HS1.out; simp; omega
          have d1' : decide (X1 < S1) = true := by have := HX1.out; have := HS1.out; simp; omega
          clear HNO HNL HSM hc
          have HBX := hid (box_yes _ _ _ vs bs (zs ((cellL bs k).set i X1)) (zs ((cellL bs k).set i X1)) _ _ c7 c7 bs.length W7 HSC8.out HU.out HI8.out HI8.out HZ8.out HZ8.out rfl HNR.out)
          generalize zs ((cellL bs k).set i X1) = C2 at *
          go_wp2_with fail
          clear hW7
          refine HBX.out.mono ?_
          rintro e w8 ⟨gl2, gh2, rfl, hol, hoh, _, ⟨hll, hlh⟩, ⟨hfl, hfh⟩, hb⟩
          obtain ⟨V8, hV8⟩ : ∃ V8, w8.alloc (.cells #[.slice (some ⟨gl2, 0, none⟩) bs.length bs.length, .slice (some ⟨gh2, 0, none⟩) bs.length bs.length] 34) = V8 := ⟨_, rfl⟩
          have HA8 := hid (show Below w8.heap.size w8 V8 by rw [← hV8]; exact below_alloc _ _)
          have HB9 := hid (hb.trans (HA8.out.mono hb.size))
          have HOL := hid (hol.below HA8.out)
          have HOH := hid (hoh.below HA8.out)
          have HY8 := hid (show V8.heap[w8.heap.size]? = some (.cells #[.slice (some ⟨gl2, 0, none⟩) bs.length bs.length, .slice (some ⟨gh2, 0, none⟩) bs.length bs.length] 34 (0, 0)) by rw [← hV8]; exact heap_alloc_new _ _)
          have hq9 := own_at HOL.out i (HLN.out C2)
          rw [HLAT.out, HNL2.out] at hq9
          have HQ9 := hid hq9
          clear hq9
          have HST := hid (show ∀ V : World, Below V8.heap.size V8 V → (V.cell? ⟨wr.heap.size, i, none⟩ = some (.int .i64 (X1 : Int)) ∧ V.cell? ⟨gs, i, none⟩ = some (.int .i64 (S1 : Int)) ∧ V.cell? ⟨gb, 1, none⟩ = some (.slice (some ⟨gh, 0, none⟩) bs.length bs.length) ∧ V.cell? ⟨gh, i, none⟩ = some (.int .u32 (Y : Int)) ∧ V.cell? ⟨w8.heap.size, 0, none⟩ = some (.slice (some ⟨gl2, 0, none⟩) bs.length bs.length) ∧ V.cell? ⟨w8.heap.size, 1, none⟩ = some (.slice (some ⟨gh2, 0, none⟩) bs.length bs.length) ∧ V.cell? ⟨gl2, i, none⟩ = some (.int .u32 ((Y + 1 : Nat) : Int))) ∧ Below w6.heap.size w6 V from fun V hV => by
            have h := HDI.out V (HB9.out.trans (hV.mono HB9.out.size))
            have hg := (hV.block _ (lt_of HY8.out)).trans HY8.out
            refine ⟨⟨h.1, h.2.1, h.2.2.1, h.2.2.2.1, by rw [cell_of_row _ _ _ _ _ _ hg]; rfl, by rw [cell_of_row _ _ _ _ _ _ hg]; rfl, (hV.cell (p := ⟨gl2, i, none⟩) (HOL.out.lt)).trans HQ9.out⟩, HB.out.trans (h.2.2.2.2.mono HB.out.size)⟩)
          have HIC := hid (refIn_ok k (lowL bs C2) (highL bs C2) p (some ⟨gl2, 0, none⟩) (some ⟨gh2, 0, none⟩) c bs.length bs.length V8.drew (HPr.out.below (HDI.out _ (HB9.out.drew)).2.2.2.2) ((HOL.out.below (Below.refl _ _).drew).pt hfl) ((HOH.out.below (Below.refl _ _).drew).pt hfh) HKL.out)
          rw [HNO2.out, hll, hlh] at HIC
          have q0 := (HST.out _ (Below.refl _ _)).1
          clear hol hoh hll hlh hfl hfh hb HBX HOL HOH HQ9 HY8 HNO2 HNL2
          have hz1 : IntKind.u32.wrap ((Y : Int) + 1) = ((Y + 1 : Nat) : Int) := by rw [IntKind.wrap_u32]; have := HSM2.out; omega
          generalize Y + 1 = Y1 at *
          go_wp2_with fail
          clear hV8
          go_region_held3 (fun w' => w'.cell? ⟨wr.heap.size, i, none⟩ = some (.int .i64 (X1 : Int)) ∧ w'.cell? ⟨gs, i, none⟩ = some (.int .i64 (S1 : Int)) ∧ w'.cell? ⟨gb, 1, none⟩ = some (.slice (some ⟨gh, 0, none⟩) bs.length bs.length) ∧ w'.cell? ⟨gh, i, none⟩ = some (.int .u32 (Y : Int)) ∧ w'.cell? ⟨w8.heap.size, 0, none⟩ = some (.slice (some ⟨gl2, 0, none⟩) bs.length bs.length) ∧ w'.cell? ⟨w8.heap.size, 1, none⟩ = some (.slice (some ⟨gh2, 0, none⟩) bs.length bs.length) ∧ w'.cell? ⟨gl2, i, none⟩ = some (.int .u32 (Y1 : Int))) (first | exact q0 | exact q1 | go_keep)
            (first
              | (go_at_call 34; refine HIC.out.mono ?_; rintro e w9 ⟨rfl, hb⟩; have H9 := hid ((Below.refl _ V8).drew.trans hb); have q1 := (HST.out _ H9.out).1; clear hb)
              | fail)
          have HB10 := hid (HST.out _ H9.out).2
          clear q0 q1 HST HIC HDI
          go_wp2_with fail
          go_roundw
          case rel => have hl6 := HLT.out; have hd6 := HDD.out; exact ⟨i + 1, by rw [show wrap64 ((i : Int) + 1) = ((i + 1 : Nat) : Int) by unfold wrap64; omega], by omega, HB10.out⟩
          case measure => have hl6 := HLT.out; have hd6 := HDD.out; rw [show wrap64 ((i : Int) + 1) = ((i + 1 : Nat) : Int) by unfold wrap64; omega]; simp [intOf]; omega
        · rw [decide_eq_false hc] at HNR
          have d1 : decide ((X1 : Int) < (S1 : Int)) = false := by have := HX1.out; have := HS1.out; simp; omega
          have d1' : decide (X1 < S1) = false := by have := HX1.out; have := HS1.out; simp; omega
          clear HNO HNL HSM hc
          have HBX := hid (box_fall _ _ _ vs bs (zs ((cellL bs k).set i X1)) (zs ((cellL bs k).set i X1)) _ _ c7 c7 bs.length W7 HSC8.out HI8.out HI8.out HZ8.out HZ8.out rfl HNR.out)
          go_wp2_with fail
          clear hW7
          refine HBX.out.mono ?_
          rintro e w8 ⟨A, cA, A', cA', rfl, _, _, hb⟩
          obtain ⟨V8, hV8⟩ : ∃ V8, w8.alloc (.cells #[.slice A 0 cA, .slice A' 0 cA'] 34) = V8 := ⟨_, rfl⟩
          have HB9 := hid (hb.trans (show Below W7.heap.size w8 V8 by rw [← hV8]; exact (below_alloc _ _).mono hb.size))
          obtain ⟨u1, u2, _, _, hbv⟩ := HDI.out _ HB9.out
          have HB10 := hid (HB.out.trans (hbv.mono HB.out.size))
          clear hb HBX HDI hbv
          go_wp2_with fail
          clear hV8
          go_quiet (fail)
          have HB11 := hid (below_drewN HB10.out nq)
          clear u1 u2
          generalize V8.drewN nq = V9 at HB11 ⊢
          go_wp2_with fail
          go_roundw
          case rel => have hl6 := HLT.out; have hd6 := HDD.out; exact ⟨i + 1, by rw [show wrap64 ((i : Int) + 1) = ((i + 1 : Nat) : Int) by unfold wrap64; omega], by omega, HB11.out⟩
          case measure => have hl6 := HLT.out; have hd6 := HDD.out; rw [show wrap64 ((i : Int) + 1) = ((i + 1 : Nat) : Int) by unfold wrap64; omega]; simp [intOf]; omega
      · have e1 : decide ((i : Int) < (bs.length : Int)) = false := by simp; omega
        have e1' : decide (i < bs.length) = false := by simpa using hlt
        go_wp2_with fail
        refine (live_any _).mono ?_
        rintro e w7 ⟨rfl, hb⟩
        have H7 := hid (H6.out.trans ((HB.out.trans (hb.mono HB.out.size)).mono H6.out.size)); clear hb
        go_wp2_with fail
        go_ret
        exact ⟨rfl, H7.out⟩
end Go.Proofs.Ytmhjoeegghnlhaa
