/- The document's All of region. -/
import Derived.Test.YtnmhdlincgefeaaRgROf
import Derived.Test.YtnmhdlincgefeaaRgAll
namespace Go.Proofs.Ytnmhdlincgefeaa.Rg
open Go.RowKit
open Go.Lib (hid)
open Go.Proofs.Ytnmhdlincgefeaa.Sl

theorem numL_take (C : List Int) (k : Nat) (h : k < C.length) : numL (C.take (k + 1)) = insU C[k] (numL (C.take k)) := by
  rw [List.take_succ_eq_append_getElem h, numL_snoc]
theorem read_take {w : World} {p : Option Addr} {l : List Int} (h : CellsAt w p (iv l)) (k : Nat) : ReadAt w p (iv (l.take k)) := fun j u hj => by
  have hj' := hj
  unfold iv at hj'
  rw [List.getElem?_map, List.getElem?_take] at hj'
  split at hj'
  · have h1 : (iv l)[j]? = some u := by unfold iv; rw [List.getElem?_map]; exact hj'
    exact h.read j u h1
  · simp at hj'
theorem read_drop {w : World} {g : Nat} {l : List Int} (h : CellsAt w (some ⟨g, 0, none⟩) (iv l)) (k : Nat) : ReadAt w (some ⟨g, k, none⟩) (iv (l.drop k)) := fun j u hj => by
  unfold iv at hj
  rw [List.getElem?_map, List.getElem?_drop] at hj
  have h1 : (iv l)[k + j]? = some u := by unfold iv; rw [List.getElem?_map]; exact hj
  obtain ⟨b, off, e, hb, hc⟩ := h.read (k + j) u h1
  injection e with e; injection e with e1 e2
  subst e1; subst e2
  exact ⟨g, k, rfl, hb, by rw [Nat.zero_add] at hc; exact hc⟩
/-- an append onto a row of the call's own, or onto none -/
theorem app_own {W : World} (ty : TypeId) {base n : Nat} {v : Value} {A news : List Int} (q : Option Addr) (m c : Nat) (hown : W.ownsRow base 3 1 v n (iv A)) (hq : ReadAt W q (iv news)) (hl : news.length = m) (hn : n + m ≤ 100000000) (hbase : base ≤ W.heap.size) :
    ∃ v' w', (Builtin.append_ #[22, 22] ty #[v, .slice q m c]).run Try.prog W = .ok v' w' ∧ (w'.ownsRow base 3 1 v' (n + m) (iv (A ++ news)) ∧ Below base W w' ∧ W.grownBy w' v.ownBlock) := by
  obtain ⟨v', w', h1, h2⟩ := int_own ty v n (iv A) hown q m c (iv news) hq (by rw [iv_length]; exact hl) (iv_one _) hn hbase
  rw [← iv_append] at h2
  exact ⟨v', w', h1, h2.1, owns_below hbase hown h2, h2.2.1⟩
theorem own_mono {w : World} {base base' : Nat} {e : TypeId} {size : Nat} {v : Value} {n : Nat} {xs : List Value} (hb : base ≤ base') (h : w.ownsRow base' e size v n xs) : w.ownsRow base e size v n xs := by
  refine ⟨h.1, ?_⟩
  rcases h.2 with h | ⟨g, cap, cur, e, h1, h2⟩
  · exact .inl h
  · exact .inr ⟨g, cap, cur, e, Nat.le_trans hb h1, h2⟩
theorem own_len {w : World} {base : Nat} {e : TypeId} {size : Nat} {v : Value} {n m : Nat} {xs : List Value} (h : w.ownsRow base e size v n xs) (hn : n = m) : w.ownsRow base e size v m xs := hn ▸ h
set_option maxRecDepth 100000 in
set_option maxHeartbeats 8000000 in
theorem rall_ok {w : World} {b g h : Nat} {S : List Nat} {C : List Int} (H : Rlb w b g h (zs S) C) (F : Fits S C) :
    Calls Try.prog 14 #[.pointer (some ⟨b, 0, none⟩)] w (ARet w S C) := by
  have hcl : C.length ≤ 4096 := by rw [F.len]; exact F.most
  obtain ⟨km, mm, _, _, HRB⟩ := H.rb
  have HH := hid H; have HB0 := hid HRB; have HF := hid F; have HCL := hid hcl
  clear H HRB F
  go_enter Try.func14, Try.ntmps14
  go_wp2_with fail
  go_loopw [4, 5, 6] (fun v ok i wr => ∃ k : Nat, k ≤ C.length ∧ i = .int .i64 (k : Int) ∧ wr.ownsRow w.heap.size 3 1 v (numL (C.take k)).length (iv (numL (C.take k))) ∧ ok = .bool ((numL (C.take k)).all fun x => (filledL S (plc C C.length x)).isSome) ∧ Below w.heap.size w wr) (fun _ _ i _ => C.length - (match i with | .int _ z => z.toNat | _ => 0))
  case atStart => exact ⟨0, Nat.zero_le _, rfl, World.ownsRow_nil _ _ _ _, rfl, Below.refl _ _⟩
  case round =>
    obtain ⟨k, hk, rfl, hown, rfl, hb⟩ := hrel
    have HOWN := hid hown; have HBW := hid hb
    have hrb := HB0.out.below hb
    have y1 := hrb.cell1
    by_cases hlt : k < C.length
    · skip
      have d0 := (HH.out.below hb).co.cell k hlt
      have HNT := hid (numL_take C k hlt)
      have hnl := numL_len (C.take k)
      rw [List.length_take] at hnl
      have HROF := hid fun (V : World) (hV : Below w.heap.size w V) => rof_ok (HH.out.below hV) HF.out C[k]
      have HRBV := hid fun (V : World) (hV : Below w.heap.size w V) => And.intro (HB0.out.below hV).cell1 ((HH.out.below hV).co.cell k hlt)
      obtain ⟨fx, hfx⟩ : ∃ fx, (filledL S (plc C C.length C[k])).isSome = fx := ⟨_, rfl⟩
      generalize C[k] = x at *
      generalize hNN : numL (C.take k) = N at *
      have hcl := HCL.out
      have hpl := posU_le x N
      obtain ⟨okb, hokb⟩ : ∃ okb, (N.all fun x => (filledL S (plc C C.length x)).isSome) = okb := ⟨_, rfl⟩
      have HOKB := hid hokb
      have HFX := hid hfx
      have HNN := hid hNN
      rw [hokb]
      clear hb hrb hNN hokb hfx
      rcases hown.2 with ⟨rfl, h0⟩ | ⟨gv, cap, cur, rfl, hbv, hgv, hlv, hcapv, hrv⟩
      · have hN0 : N = [] := List.length_eq_zero_iff.1 h0
        have HNIL := hid hN0
        have hl0 : N.length = 0 := h0
        have hp0 : posU x N = 0 := by omega
        have HP0 := hid hp0
        have hnew : N[posU x N]? ≠ some x := by rw [hN0]; simp
        clear hown h0 hN0 hp0
        go_wp2_with fail
        go_loopw [7] (fun i wz => i = .int .i64 0 ∧ wz = wr) (fun _ _ => 0)
        case atStart => exact ⟨rfl, rfl⟩
        case round =>
          obtain ⟨rfl, rfl⟩ := hrel
          go_wp2_with fail
          go_quiet (fail)
          go_wp2_with fail
          go_quiet (fail)
          have HJ := hid (show numL (C.take (k + 1)) = N.take 0 ++ x :: N.drop 0 by rw [HNT.out, insU_new x N hnew]; rw [HP0.out])
          have HLN : Hid ((N.take 0).length = 0) := hid (by rw [List.length_take]; omega)
          clear hnew
          go_wp2_with (at_builtin; refine wpList_app rfl _ _ _ rfl rfl rfl (app_own (base := wr.heap.size) (n := 0) (A := []) (news := N.take 0) _ _ _ _ (World.ownsRow_nil _ _ _ _) (by rw [HNIL.out, List.take_nil]; exact ReadAt.nil _ _) (by first | exact HLN.out | (rw [HLN.out]; omega)) (by omega) (by simp)) ?_)
          intro v1 w2 ho1 hb1 _
          have HO1 := hid (show w2.ownsRow wr.heap.size 3 1 v1 0 (iv (N.take 0)) by simpa using ho1)
          have HB1 := hid (show Below wr.heap.size wr w2 from (below_drewN (Below.refl _ _) _).trans hb1)
          have y2 := (HRBV.out _ (HBW.out.trans (HB1.out.mono HBW.out.size)))
          clear ho1 hb1
          go_wp2_with (at_builtin; refine wpList_app rfl _ _ _ rfl rfl rfl (app_lit _ x HO1.out (by omega) HB1.out.size) ?_)
          intro v2 w3 ho2 hb2
          have HO2 := hid (show w3.ownsRow wr.heap.size 3 1 v2 (0 + 1) (iv (N.take 0 ++ [x])) by simpa using ho2)
          have HB2 := hid (HB1.out.trans hb2)
          have y3 := (HRBV.out _ (HBW.out.trans (HB2.out.mono HBW.out.size)))
          clear ho2 hb2 y2
          go_wp2_with (at_builtin; refine wpList_app rfl _ _ _ rfl rfl rfl (app_own (news := N.drop 0) _ _ _ _ HO2.out (by rw [HNIL.out, List.drop_nil]; exact ReadAt.nil _ _) (by have := List.length_drop (i := 0) (l := N); omega) (by omega) HB2.out.size) ?_)
          all_goals
            intro v3 w4 ho3 hb3 _
            have HO3 := hid (show w4.ownsRow wr.heap.size 3 1 v3 (1) (iv (N.take 0 ++ x :: N.drop 0)) by simpa [List.append_assoc] using ho3)
            have HB3 := hid (HB2.out.trans hb3)
            have HB3W := hid (HBW.out.trans (HB3.out.mono HBW.out.size))
            have y4 := (HRBV.out _ HB3W.out)
            clear ho3 hb3
            go_wp2_with fail
            refine (HROF.out _ HB3W.out).mono ?_
            rintro e w5 ⟨q1, q2, l1, l2, rfl, -, -, hb5⟩
            rw [HFX.out]
            have HB5 := hid (HB3W.out.trans (hb5.mono HB3W.out.size))
            have HO5 := hid (own_mono HBW.out.size (own_below HO3.out hb5))
            clear hb5 y4
            cases okb
            all_goals
              go_wp2_with fail
              go_roundw
              case rel =>
                refine ⟨k + 1, by omega, by go_num, ?_, ?_, HB5.out⟩
                · rw [HJ.out]
                  have e9 : (N.take 0 ++ x :: N.drop 0).length = N.length + 1 := by rw [List.length_append, List.length_cons, List.length_take, List.length_drop]; omega
                  rw [e9]
                  exact own_len HO5.out (by first | omega | (simp; omega))
                · rw [HNT.out, insU_all, HFX.out, HOKB.out]; simp
              case measure => simp; omega
      · have hlN : N.length ≤ cap := hlv
        have HCV : Hid (CellsAt wr (some ⟨gv, 0, none⟩) (iv N)) := hid (by
          obtain ⟨p', c', e, _, hc⟩ := own_cells (l := N) hown
          injection e with e1 e2 e3
          rw [e1]; exact hc)
        have HOWN := hid hown
        clear hown hbv hgv hlv hcapv hrv
        go_wp2_with fail
        go_loopw [7] (fun i wz => ∃ j M : Nat, j ≤ posU x N ∧ i = .int .i64 (j : Int) ∧ wz = wr.drewN M) (fun i _ => N.length + 1 - (match i with | .int _ z => z.toNat | _ => 0))
        case atStart => exact ⟨0, 0, Nat.zero_le _, rfl, rfl⟩
        case round =>
          obtain ⟨j, M, hj, rfl, rfl⟩ := hrel
          by_cases hjp : j < posU x N
          · have hjn : j < N.length := by omega
            obtain ⟨b1, o1, e, lt1, d1⟩ := HCV.out j (by rw [iv_length]; exact hjn)
            injection e with e; injection e with e1 e2; subst e1; subst e2
            rw [iv_at N j hjn, Nat.zero_add] at d1
            have e1 : decide (N[j] < x) = true := decide_eq_true (posU_below x N j hjp hjn)
            generalize N[j] = z at d1 e1
            go_wp2_with fail
            go_quiet (fail)
            go_wp2_with fail
            go_roundw
            case rel => exact ⟨j + 1, _, by omega, by go_num, rfl⟩
            case measure => simp; omega
          · obtain rfl : j = posU x N := by omega
            by_cases hjn : posU x N < N.length
            · obtain ⟨b1, o1, e, lt1, d1⟩ := HCV.out (posU x N) (by rw [iv_length]; exact hjn)
              injection e with e; injection e with e1 e2; subst e1; subst e2
              rw [iv_at N _ hjn, Nat.zero_add] at d1
              have e1 : decide (N[posU x N] < x) = false := decide_eq_false (posU_stop x N hjn)
              by_cases hsm : N[posU x N] = x
              · have HSM := hid (insU_same x N (by rw [List.getElem?_eq_getElem hjn, hsm]))
                rw [hsm] at d1 e1
                clear hsm hj hjp
                generalize posU x N = j at *
                go_wp2_with fail
                go_quiet (fail)
                go_wp2_with fail
                go_quiet (fail)
                go_wp2_with fail
                go_roundw
                case rel => exact ⟨k + 1, by omega, by go_num, by rw [HNT.out, HSM.out]; exact own_below HOWN.out (below_drewN (Below.refl _ _) _), by rw [HNT.out, HSM.out, HOKB.out], below_drewN HBW.out _⟩
                case measure => simp; omega
              · have hnew : N[posU x N]? ≠ some x := by rw [List.getElem?_eq_getElem hjn]; exact fun e => hsm (by injection e)
                have e2 : (N[posU x N] == x) = false := beq_eq_false_iff_ne.2 hsm
                generalize N[posU x N] = z at d1 e1 e2
                clear hsm hj hjp
                go_wp2_with fail
                go_quiet (fail)
                go_wp2_with fail
                go_quiet (fail)
                have HJ := hid (show numL (C.take (k + 1)) = N.take (posU x N) ++ x :: N.drop (posU x N) by rw [HNT.out, insU_new x N hnew])
                have HLN : Hid ((N.take (posU x N)).length = posU x N) := hid (by rw [List.length_take]; omega)
                clear hnew
                generalize posU x N = j at *
                go_wp2_with (at_builtin; refine wpList_app rfl _ _ _ rfl rfl rfl (app_own (base := wr.heap.size) (n := 0) (A := []) (news := N.take j) _ _ _ _ (World.ownsRow_nil _ _ _ _) (read_take (HCV.out.below (below_drewN (Below.refl _ _) _)) j) (by first | exact HLN.out | (rw [HLN.out]; omega)) (by omega) (by simp)) ?_)
                intro v1 w2 ho1 hb1 _
                have HO1 := hid (show w2.ownsRow wr.heap.size 3 1 v1 j (iv (N.take j)) by simpa using ho1)
                have HB1 := hid (show Below wr.heap.size wr w2 from (below_drewN (Below.refl _ _) _).trans hb1)
                have y2 := (HRBV.out _ (HBW.out.trans (HB1.out.mono HBW.out.size)))
                clear ho1 hb1
                go_wp2_with (at_builtin; refine wpList_app rfl _ _ _ rfl rfl rfl (app_lit _ x HO1.out (by omega) HB1.out.size) ?_)
                intro v2 w3 ho2 hb2
                have HO2 := hid (show w3.ownsRow wr.heap.size 3 1 v2 (j + 1) (iv (N.take j ++ [x])) by simpa using ho2)
                have HB2 := hid (HB1.out.trans hb2)
                have y3 := (HRBV.out _ (HBW.out.trans (HB2.out.mono HBW.out.size)))
                clear ho2 hb2 y2
                go_wp2_with (at_builtin; refine wpList_app rfl _ _ _ rfl rfl rfl (app_own (news := N.drop j) _ _ _ _ HO2.out (by first | exact read_drop (HCV.out.below HB2.out) j | (rw [List.drop_eq_nil_of_le (by omega)]; exact ReadAt.nil _ _)) (by have := List.length_drop (i := j) (l := N); omega) (by omega) HB2.out.size) ?_)
                all_goals
                  intro v3 w4 ho3 hb3 _
                  have HO3 := hid (show w4.ownsRow wr.heap.size 3 1 v3 (j + 1 + (N.length - j)) (iv (N.take j ++ x :: N.drop j)) by simpa [List.append_assoc] using ho3)
                  have HB3 := hid (HB2.out.trans hb3)
                  have HB3W := hid (HBW.out.trans (HB3.out.mono HBW.out.size))
                  have y4 := (HRBV.out _ HB3W.out)
                  clear ho3 hb3
                  go_wp2_with fail
                  refine (HROF.out _ HB3W.out).mono ?_
                  rintro e w5 ⟨q1, q2, l1, l2, rfl, -, -, hb5⟩
                  rw [HFX.out]
                  have HB5 := hid (HB3W.out.trans (hb5.mono HB3W.out.size))
                  have HO5 := hid (own_mono HBW.out.size (own_below HO3.out hb5))
                  clear hb5 y4
                  cases okb
                  all_goals
                    go_wp2_with fail
                    go_roundw
                    case rel =>
                      refine ⟨k + 1, by omega, by go_num, ?_, ?_, HB5.out⟩
                      · rw [HJ.out]
                        have e9 : (N.take j ++ x :: N.drop j).length = N.length + 1 := by rw [List.length_append, List.length_cons, List.length_take, List.length_drop]; omega
                        rw [e9]
                        exact own_len HO5.out (by first | omega | (simp; omega))
                      · rw [HNT.out, insU_all, HFX.out, HOKB.out]; simp
                    case measure => simp; omega
            · have hnew : N[posU x N]? ≠ some x := by rw [List.getElem?_eq_none (by omega)]; simp
              clear hj hjp
              go_wp2_with fail
              go_quiet (fail)
              go_wp2_with fail
              go_quiet (fail)
              have HJ := hid (show numL (C.take (k + 1)) = N.take (posU x N) ++ x :: N.drop (posU x N) by rw [HNT.out, insU_new x N hnew])
              have HLN : Hid ((N.take (posU x N)).length = posU x N) := hid (by rw [List.length_take]; omega)
              clear hnew
              generalize posU x N = j at *
              go_wp2_with (at_builtin; refine wpList_app rfl _ _ _ rfl rfl rfl (app_own (base := wr.heap.size) (n := 0) (A := []) (news := N.take j) _ _ _ _ (World.ownsRow_nil _ _ _ _) (read_take (HCV.out.below (below_drewN (Below.refl _ _) _)) j) (by first | exact HLN.out | (rw [HLN.out]; omega)) (by omega) (by simp)) ?_)
              intro v1 w2 ho1 hb1 _
              have HO1 := hid (show w2.ownsRow wr.heap.size 3 1 v1 j (iv (N.take j)) by simpa using ho1)
              have HB1 := hid (show Below wr.heap.size wr w2 from (below_drewN (Below.refl _ _) _).trans hb1)
              have y2 := (HRBV.out _ (HBW.out.trans (HB1.out.mono HBW.out.size)))
              clear ho1 hb1
              go_wp2_with (at_builtin; refine wpList_app rfl _ _ _ rfl rfl rfl (app_lit _ x HO1.out (by omega) HB1.out.size) ?_)
              intro v2 w3 ho2 hb2
              have HO2 := hid (show w3.ownsRow wr.heap.size 3 1 v2 (j + 1) (iv (N.take j ++ [x])) by simpa using ho2)
              have HB2 := hid (HB1.out.trans hb2)
              have y3 := (HRBV.out _ (HBW.out.trans (HB2.out.mono HBW.out.size)))
              clear ho2 hb2 y2
              go_wp2_with (at_builtin; refine wpList_app rfl _ _ _ rfl rfl rfl (app_own (news := N.drop j) _ _ _ _ HO2.out (by first | exact read_drop (HCV.out.below HB2.out) j | (rw [List.drop_eq_nil_of_le (by omega)]; exact ReadAt.nil _ _)) (by have := List.length_drop (i := j) (l := N); omega) (by omega) HB2.out.size) ?_)
              all_goals
                intro v3 w4 ho3 hb3 _
                have HO3 := hid (show w4.ownsRow wr.heap.size 3 1 v3 (j + 1 + (N.length - j)) (iv (N.take j ++ x :: N.drop j)) by simpa [List.append_assoc] using ho3)
                have HB3 := hid (HB2.out.trans hb3)
                have HB3W := hid (HBW.out.trans (HB3.out.mono HBW.out.size))
                have y4 := (HRBV.out _ HB3W.out)
                clear ho3 hb3
                go_wp2_with fail
                refine (HROF.out _ HB3W.out).mono ?_
                rintro e w5 ⟨q1, q2, l1, l2, rfl, -, -, hb5⟩
                rw [HFX.out]
                have HB5 := hid (HB3W.out.trans (hb5.mono HB3W.out.size))
                have HO5 := hid (own_mono HBW.out.size (own_below HO3.out hb5))
                clear hb5 y4
                cases okb
                all_goals
                  go_wp2_with fail
                  go_roundw
                  case rel =>
                    refine ⟨k + 1, by omega, by go_num, ?_, ?_, HB5.out⟩
                    · rw [HJ.out]
                      have e9 : (N.take j ++ x :: N.drop j).length = N.length + 1 := by rw [List.length_append, List.length_cons, List.length_take, List.length_drop]; omega
                      rw [e9]
                      exact own_len HO5.out (by first | omega | (simp; omega))
                    · rw [HNT.out, insU_all, HFX.out, HOKB.out]; simp
                  case measure => simp; omega
    · obtain rfl : k = C.length := by omega
      rw [List.take_length] at hown
      obtain ⟨pv, cv, rfl, hcv, hcells⟩ := own_cells (l := numL C) hown
      have HCV := hid hcells
      have hne : 0 < (numL C).length := by
        have h0 : 0 < C.length := by rw [HF.out.len]; exact prodL_pos S HF.out.pos
        have := (numL_mem C C[0]).2 (List.getElem_mem h0)
        exact List.length_pos_of_mem this
      have HE := hid (show allB S C = (numL (C.take C.length)).all (fun x => (filledL S (plc C C.length x)).isSome) by unfold allB; rw [decide_eq_true hne, Bool.and_true, List.take_length])
      clear hown hb hrb hcells hne
      go_wp2_with fail
      go_ret2
      exact ARet.mk rfl HE.out HCV.out HBW.out
end Go.Proofs.Ytnmhdlincgefeaa.Rg
