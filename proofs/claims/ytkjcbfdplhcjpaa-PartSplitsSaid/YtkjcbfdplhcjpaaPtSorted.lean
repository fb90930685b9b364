/- Sorted, and Merge of the reference, walked. -/
import Derived.Test.YtkjcbfdplhcjpaaPtSort
namespace Go.Proofs.Ytkjcbfdplhcjpaa.Pt
open Go.RowKit
open Go.Lib (hid)
open Go.Proofs.Ytkjcbfdplhcjpaa.Ky
open Go.Proofs.Ytkjcbfdplhcjpaa.Bk

set_option maxRecDepth 100000 in
/-- the slice up to a place, wherever it points -/
theorem slice_to (p : Option Addr) (len c n : Nat) (h : n ≤ len) (hc : len ≤ c) (w : World) : (Instr.slice 40 (.slice p len c) none (some (.int .i64 (n : Int))) none).run Try.prog w = .ok (.slice p n c) w := by
  have hs : (sizeOf 33).run Try.prog w = .ok 2 w := by kernel_rfl
  rw [run_slice_h w _ p len c (by kernel_rfl) .i64 n (by omega) (by omega)]
  have e : Try.prog.elem 40 = 33 := by kernel_rfl
  rw [e, hs]
  simp only [Result.andThen, sliced, Int.toNat_natCast, Nat.sub_zero, Nat.zero_mul]
  congr 2
  split
  · rfl
  · cases p with
    | none => rfl
    | some a => simp only [Option.map_some]; congr 1
theorem Out1.base {N N' : Nat} {w : World} {v : Value} {M : List Rec} {xs : List Value} (h : Out1 N w v M xs) (hn : N' ≤ N) : Out1 N' w v M xs := by
  refine ⟨⟨h.own.1, ?_⟩, h.rc⟩
  rcases h.own.2 with h1 | ⟨g, cap, cur, hv, hb, rest⟩
  · exact .inl h1
  · exact .inr ⟨g, cap, cur, hv, Nat.le_trans hn hb, rest⟩
theorem Out1.add {N : Nat} {wr w3 w' : World} {v v' : Value} {M K : List Rec} {xs ys : List Value} (h : Out1 N wr v M xs) (hb : Below wr.heap.size wr w3)
    (hq : RC (fun b => v.ownBlock = some b) w3 ys K) (ho : Owns w3 N 33 2 v (M.length + K.length) (xs ++ ys) v' w') : Out1 N w' v' (M ++ K) (xs ++ ys) := by
  obtain ⟨h1, h2, h3⟩ := ho
  have hv3 : ∀ b, b < w3.heap.size → v'.ownBlock = some b → v.ownBlock = some b := fun b hlt hb => by
    rcases h3 with e | e
    · rw [← e]; exact hb
    · rw [hb] at e; injection e with e; omega
  have hk : Keep (fun b => v.ownBlock = some b) w3 w' := ⟨h2.size, fun b hlt hD => h2.block b hlt (fun e => hD e.symm)⟩
  exact ⟨by rw [List.length_append]; exact h1, RC.app ((h.rc.below hb).grown hk hv3) (hq.grown hk hv3)⟩
theorem Out1.open {N : Nat} {w : World} {v : Value} {M : List Rec} {xs : List Value} (h : Out1 N w v M xs) : ∃ p c, v = .slice p M.length c ∧ M.length ≤ c ∧ Rs (fun _ => False) w p M := by
  obtain ⟨p, c, hv, hr⟩ := Rs.of_row h.own (h.rc.less (D' := fun _ => False) fun b _ hb => hb.elim) (fun j _ => id)
  refine ⟨p, c, hv, ?_, hr⟩
  rcases h.own.2 with ⟨e, h0⟩ | ⟨g, cap, cur, e, _, _, h5, _⟩
  · rw [hv] at e; injection e with _ h2 h3; omega
  · rw [hv] at e; injection e with _ h2 h3; omega
theorem sort_mem {L : List Rec} {x : Rec} (h : x ∈ sortR L) : x ∈ L := by
  have : ∀ (M acc : List Rec), x ∈ M.foldl insR acc → x ∈ acc ∨ x ∈ M := fun M => by
    induction M with
    | nil => exact fun acc h => .inl h
    | cons r M ih =>
      intro acc h
      rcases ih _ h with h | h
      · rcases mem_ins.1 h with rfl | h
        · exact .inr (List.mem_cons_self ..)
        · exact .inl h
      · exact .inr (List.mem_cons_of_mem _ h)
  exact (this L [] h).elim (fun h => absurd h (by simp)) id
theorem pos_step (O : List Rec) (x : List Nat) (m : Nat) (h : m < O.length) : posF O x (m + 1) = if 0 < cmp O[m].1 x then posF O x m else m + 1 := by
  have hg : (O.getD m ([], ⟨#[]⟩)).1 = O[m].1 := by rw [List.getD_eq_getElem?_getD, List.getElem?_eq_getElem h]; rfl
  rw [← hg]; rfl
set_option maxRecDepth 100000 in
set_option maxHeartbeats 8000000 in
theorem sorted_ok {D : Nat → Prop} (L : List Rec) (p : Option Addr) (c : Nat) (w : World) (hp : Rs D w p L) (hl : bigR L) :
    Calls Try.prog 61 #[.slice p L.length c] w fun e w' => ∃ p' c', e = .returned (.slice p' (sortR L).length c') ∧ Rs (fun _ => False) w' p' (sortR L) ∧ Below w.heap.size w w' := by
  have HP := hid (hp.less (D' := fun _ => False) fun b _ h => h.elim); have HL := hid hl; have hlen := hl.1
  clear hp hl
  go_enter Try.func61, Try.ntmps61
  go_wp2_with fail
  go_loopw [3, 4] (fun v i wr => ∃ (k : Nat) (xs : List Value), k ≤ L.length ∧ i = .int .i64 (k : Int) ∧ Out1 w.heap.size wr v (sortR (L.take k)) xs ∧ Below w.heap.size w wr) (fun _ i _ => L.length - (intOf i).toNat)
  case atStart => exact ⟨0, [], by omega, rfl, ⟨World.ownsRow_nil _ _ _ _, RC.nil⟩, Below.refl _ _⟩
  case round =>
    rename World => w0
    obtain ⟨k, xs, hk, rfl, ho, hb⟩ := hrel
    have HB := hid hb; clear hb
    obtain ⟨po, co, hv, hco, hro⟩ := ho.open
    have HRO := hid hro
    subst hv
    clear ho
    have hol : (sortR (L.take k)).length = k := by rw [sort_len, List.length_take]; omega
    have HOL := hid hol
    rw [hol] at hco ⊢
    clear hol
    have HCO := hid hco
    clear hro hco
    by_cases hlt : k < L.length
    · have HSN := hid (sort_snoc L k hlt)
      obtain ⟨b, off, q, c', rfl, hbl, e1, e2, hq⟩ := (HP.out.below HB.out).at k hlt
      have hbg := HL.out.2 _ (List.getElem_mem hlt)
      obtain ⟨O, hO⟩ : ∃ O, sortR (L.take k) = O := ⟨_, rfl⟩
      rw [hO] at HSN HRO HOL
      have HBO := hid (show ∀ r ∈ O, r.1.length ≤ 1000000 from fun r hr => by
        rw [← hO] at hr
        have := (HL.out.2 r (List.mem_of_mem_take (sort_mem hr))).1
        omega)
      obtain ⟨x, hx⟩ : ∃ x, L[k].1 = x := ⟨_, rfl⟩
      obtain ⟨t, htt⟩ : ∃ t, L[k].2 = t := ⟨_, rfl⟩
      have hr : L[k] = (x, t) := by rw [← hx, ← htt]
      rw [hr] at HSN
      rw [hx] at e1 hq hbg
      rw [htt] at e2
      have HD := hid fun (V : World) (hv : Below w0.heap.size w0 V) => (show V.cell? ⟨b, off + k * 2, none⟩ = some (.slice q x.length c') ∧ V.cell? ⟨b, off + k * 2 + 1, none⟩ = some (.string t) from ⟨(hv.cell (p := ⟨b, _, none⟩) hbl).trans e1, (hv.cell (p := ⟨b, _, none⟩) hbl).trans e2⟩)
      have HC := hid fun (w' : World) (hb : Below w0.heap.size w0 w') => copy_ok x q c' w' (hq.pt.below hb) (by omega)
      have HQ0 := hid hq.pt
      have hOl := HOL.out
      have hp0 : posF O x k = posR O x := by unfold posR; rw [hOl]
      have HP0 := hid hp0
      clear hq hx htt hr e1 e2 hbl hO hp0 hbg
      go_wp2_with fail
      go_loopw [5] (fun i wz => ∃ j : Nat, j ≤ k ∧ i = .int .i64 (j : Int) ∧ posF O x j = posR O x ∧ ∃ n, wz = w0.drewN n) (fun i _ => (intOf i).toNat)
      case atStart => exact ⟨k, by omega, rfl, HP0.out, 0, rfl⟩
      case round =>
        obtain ⟨j, hj, rfl, hpos, n, hwz⟩ := hrel
        have HZ := hid (show Below w0.heap.size w0 wr by rw [hwz]; exact below_drewN (Below.refl _ _) n)
        have HW := hid hwz
        have HPS := hid hpos; clear hpos hwz
        obtain ⟨d1, d2⟩ := HD.out _ HZ.out
        by_cases hj0 : 0 < j
        · obtain ⟨m, hm⟩ : ∃ m, j = m + 1 := ⟨j - 1, by omega⟩
          have hmO : m < O.length := by omega
          obtain ⟨b2, o2, q2, c2, rfl, hb2, d3, d4, hq2⟩ := (HRO.out.below HZ.out).at m hmO
          have g0 : decide ((0 : Int) < (j : Int)) = true := by simp; omega
          have g1 : decide (0 < j) = true := by simp; omega
          have hw1 : IntKind.i64.wrap ((j : Int) - 1) = (m : Int) := by rw [Go.IntWalk.i64_in _ (by omega)]; omega
          have hmk : m < k := by omega
          have HM := hid hm
          have HCM := hid fun (n : Nat) => refCompare_ok O[m].1 x q2 q c2 c' (wr.drewN n) (hq2.pt.drewN n) ((HQ0.out.below HZ.out).drewN n) (HBO.out _ (List.getElem_mem hmO))
          have HST := hid (pos_step O x m hmO)
          clear hm
          by_cases hc : 0 < cmp O[m].1 x
          · have HPN := hid (show posF O x m = posR O x by have h1 := HST.out; rw [if_pos hc] at h1; rw [← HPS.out, HM.out, h1])
            have g2 : decide (0 < cmp O[m].1 x) = true := by simpa using hc
            clear hc HST hq2 d2 d4
            generalize cmp O[m].1 x = z at HCM g2
            generalize O[m].1.length = l2 at d3 HCM
            go_wp2_with fail
            go_quiet ((go_at_call 38; exact quiet_more (HCM.out _)))
            go_wp2_with fail
            go_roundw
            case rel => exact ⟨m, by omega, by first | rfl | go_num, HPN.out, _, by rw [HW.out]; exact World.drewN_drewN _ _ _⟩
            case measure => simp [intOf]; have := HM.out; omega
          · have HPJ0 := hid (show posR O x = j by have h1 := HST.out; rw [if_neg hc] at h1; rw [← HPS.out, HM.out, h1])
            have g2 : decide (0 < cmp O[m].1 x) = false := by simpa using hc
            clear hc HST hq2 d4
            generalize cmp O[m].1 x = z at HCM g2
            generalize O[m].1.length = l2 at d3 HCM
            go_wp2_with fail
            go_quiet ((go_at_call 38; exact quiet_more (HCM.out _)))
            generalize hV : wr.drewN _ = V
            have HPJ := hid (show posR O (x, t).1 = j from HPJ0.out)
            clear HCM d3 g2 HPS HPJ0 hw1
            have hbV : Below w0.heap.size w0 V := by rw [← hV]; exact below_drewN HZ.out _
            obtain ⟨ys, hys, hra⟩ := rs_cells (HRO.out.below hbV)
            have HK1 := hid (show (O.take j).length = j by rw [List.length_take]; omega)
            have HYT := hid ((hys.less (D' := fun b => Value.ownBlock (.slice none 0 0) = some b) fun b _ e => by cases e).take j (by omega))
            have HYD := hid ((hys.less (D' := fun b => V.heap.size ≤ b) fun b h1 h2 => absurd h1 (by omega)).drop j (by omega))
            have HRT := hid (hra.take (j * 2))
            have HRA := hid hra
            have HLT := hid (show (ys.take (j * 2)).length = j * 2 by rw [List.length_take, hys.1]; omega)
            have HLD := hid (show (ys.drop (j * 2)).length = (k - j) * 2 by rw [List.length_drop, hys.1]; omega)
            have s1 := fun (W : World) => slice_to (some ⟨b2, o2, none⟩) k co j (by omega) HCO.out W
            obtain ⟨P, hP, s2⟩ := slice_back (some ⟨b2, o2, none⟩) k co j (by omega) HCO.out
            have HPP := hid (show P = cutP (some ⟨b2, o2, none⟩) (j * 2) ∨ ys.length ≤ j * 2 by rcases hP with h | h; exact .inl h; right; rw [hys.1]; omega)
            have HINS := hid (show insR O (x, t) = O.take j ++ [(x, t)] ++ O.drop j by unfold insR; rw [HPJ.out, List.append_assoc]; rfl)
            have HBV := hid hbV
            obtain ⟨y1, hy1⟩ : ∃ y1, ys.take (j * 2) = y1 := ⟨_, rfl⟩
            obtain ⟨y2, hy2⟩ : ∃ y2, ys.drop (j * 2) = y2 := ⟨_, rfl⟩
            have HRD := hid fun (U : World) (hu : Below V.heap.size V U) => (show ReadAt U P y2 by rw [← hy2]; exact read_cut (HRA.out.below hu) (j * 2) P HPP.out)
            rw [hy1] at HYT HRT HLT
            rw [hy2] at HYD HLD
            obtain ⟨K1, hk1⟩ : ∃ K1, O.take j = K1 := ⟨_, rfl⟩
            obtain ⟨K2, hk2⟩ : ∃ K2, O.drop j = K2 := ⟨_, rfl⟩
            have HK2 := hid (show K2.length = k - j by rw [← hk2, List.length_drop]; omega)
            rw [hk1] at HYT HK1
            rw [hk2] at HYD
            rw [hk1, hk2] at HINS
            have HN := hid (show Out1 V.heap.size V (.slice none 0 0) [] [] from ⟨World.ownsRow_nil _ _ _ _, RC.nil⟩)
            have HA1 := hid (rec_own (w := V) 40 (.slice none 0 0) 0 [] HN.out.own (some ⟨b2, o2, none⟩) j co y1 HRT.out HLT.out HYT.out.oneCell (by omega) (Nat.le_refl _))
            have HVB := hid fun (w1 U : World) (hz : Below V.heap.size V w1) (hu : Below w1.heap.size w1 U) => (show Below V.heap.size V U ∧ Below w0.heap.size w0 U from ⟨hz.trans (hu.mono hz.size), HBV.out.trans ((hz.trans (hu.mono hz.size)).mono HBV.out.size)⟩)
            clear hra hys hy1 hy2 hk1 hk2 hP HRA HPP hV hbV HRO HPJ d1 d2 HZ
            go_wp2_with (at_builtin; refine wpList_app rfl _ _ _ rfl rfl rfl HA1.out ?_)
            intro v1 w1 hF
            have HP1 := hid (show Out1 V.heap.size w1 v1 K1 y1 from HN.out.add (Below.refl _ _) HYT.out (show Owns V V.heap.size 33 2 (.slice none 0 0) (0 + K1.length) ([] ++ y1) v1 w1 by rw [HK1.out, Nat.zero_add]; exact hF))
            have HZ1 := hid (show Below V.heap.size V w1 from (Below.refl V.heap.size V).grown hF.2.1 (Nat.le_refl _) (fun j hj => (HN.out.own.lt j hj).1))
            clear hF HA1 HYT HRT HLT HN s1
            have HPU := hid fun (w3 w' : World) (v' : Value) (q2 : Option Addr) (c2 : Nat) (hb : Below w1.heap.size w1 w3) (hq : PtD (Lt w1.heap.size) w3 q2 x) (hw : Owns w3 V.heap.size 33 2 v1 (j + 1) (y1 ++ [.slice q2 x.length c2, .string t]) v' w') => (show Out1 V.heap.size w' v' (K1 ++ [(x, t)]) (y1 ++ [.slice q2 x.length c2, .string t]) ∧ Below V.heap.size V w' from
              ⟨HP1.out.add hb (RC.one (hq.less fun b _ e => (HP1.out.own.lt b e).2)) (show Owns w3 V.heap.size 33 2 v1 (K1.length + 1) (y1 ++ [.slice q2 x.length c2, .string t]) v' w' by rw [HK1.out]; exact hw), (HVB.out w1 w3 HZ1.out hb).1.grown hw.2.1 (HVB.out w1 w3 HZ1.out hb).1.size (fun j hj => (HP1.out.own.lt j hj).1)⟩)
            have HJ := hid (show w1.ownsRow V.heap.size 33 2 v1 j y1 by have := HP1.out.own; rwa [HK1.out] at this)
            have H0 := hid (Below.refl w1.heap.size w1).drew
            have HB0 := hid (HVB.out w1 _ HZ1.out H0.out).2
            have z0 := HD.out _ HB0.out
            obtain ⟨d1, d2⟩ := HD.out _ (HVB.out w1 _ HZ1.out (Below.refl _ _)).2
            go_wp2_with fail
            go_region_held3 (fun w' => w'.cell? ⟨b, off + k * 2, none⟩ = some (.slice q x.length c') ∧ w'.cell? ⟨b, off + k * 2 + 1, none⟩ = some (.string t)) (first | exact z0 | exact z1 | exact z2 | exact z3 | go_keep)
              (first
                | (go_at_call 39; (with_reducible refine (HC.out _ HB0.out).mono ?_); rintro e w2 ⟨q2, c2, rfl, hq, hb⟩; have H1 := hid (H0.out.trans (hb.mono H0.out.size)); have HB1 := hid (HVB.out w1 _ HZ1.out H1.out).2; have z1 := HD.out _ HB1.out; have H2 := hid (H1.out.alloc H1.out.size (.cells #[.slice q2 x.length c2, .string t] 33)); have HB2 := hid (HVB.out w1 _ HZ1.out H2.out); have z2 := HD.out _ HB2.out.2; have HQ := hid ((hq.to (N := w1.heap.size) (fun k hk => hk)).keep (.below (below_alloc w2 (.cells #[.slice q2 x.length c2, .string t] 33)))); have HA := hid (rec_own (w := w2.alloc (.cells #[.slice q2 x.length c2, .string t] 33)) 40 v1 j y1 (own_below HJ.out H2.out) (some ⟨w2.heap.size, 0, none⟩) 1 1 [.slice q2 x.length c2, .string t] (read_new w2 _ _ _) rfl (one_two _ _ rfl rfl) (by omega) HB2.out.1.size); clear hq hb)
                | (refine step_app (by rfl) _ _ _ (by rfl) (by rfl) (by rfl) HA.out ?_; intro v' w4 hF; have H4 := hid (HPU.out _ _ _ _ _ H2.out HQ.out hF); have z3 := HD.out _ (HBV.out.trans (H4.out.2.mono HBV.out.size)); clear hF)
                | fail)
            clear d1 d2 z0 z1 z2 z3
            have H4O := hid H4.out.1; have HZ4 := hid H4.out.2
            generalize (y1 ++ [Value.slice q2 x.length c2, .string t] : List Value) = y3 at H4O
            have HJ4 := hid (show w4.ownsRow V.heap.size 33 2 v' (j + 1) y3 by have := H4O.out.own; rw [List.length_append, HK1.out] at this; exact this)
            have HA3 := hid (rec_own (w := w4) 40 v' (j + 1) y3 HJ4.out P (k - j) (co - j) y2 (HRD.out _ HZ4.out) HLD.out HYD.out.oneCell (by omega) HZ4.out.size)
            clear H4 HA HPU HQ HP1 HJ HB0 HB1 HB2 H0 H1 H2
            go_wp2_with (at_builtin; refine wpList_app rfl _ _ _ rfl rfl rfl HA3.out ?_)
            intro v5 w5 hF
            have HP5 := hid (H4O.out.add (Below.refl _ _) ((HYD.out.below HZ4.out).less fun b _ e => (H4O.out.own.lt b e).1) (show Owns w4 V.heap.size 33 2 v' ((K1 ++ [(x, t)]).length + K2.length) (y3 ++ y2) v5 w5 by rw [List.length_append, HK1.out, HK2.out]; exact hF))
            have HZ5 := hid (show Below V.heap.size V w5 from HZ4.out.grown hF.2.1 HZ4.out.size (fun j hj => (H4O.out.own.lt j hj).1))
            have HB5 := hid (HB.out.trans ((HBV.out.trans (HZ5.out.mono HBV.out.size)).mono HB.out.size))
            clear hF
            go_wp2_with fail
            go_roundw
            case rel => exact ⟨k + 1, _, by omega, by go_num, by rw [HSN.out, HINS.out]; exact HP5.out.base (Nat.le_trans HB.out.size HBV.out.size), HB5.out⟩
            case measure => simp [intOf]; omega
        · have h0 : j = 0 := by omega
          have HPJ := hid (show posR O (x, t).1 = j by rw [← HPS.out, h0]; rfl)
          have g0 : decide ((0 : Int) < (j : Int)) = false := by simp; omega
          have g1 : decide (0 < j) = false := by simp; omega
          clear h0
          go_wp2_with fail
          go_quiet (fail)
          generalize hV : wr.drewN _ = V
          clear HPS
          have hbV : Below w0.heap.size w0 V := by rw [← hV]; exact below_drewN HZ.out _
          obtain ⟨ys, hys, hra⟩ := rs_cells (HRO.out.below hbV)
          have HK1 := hid (show (O.take j).length = j by rw [List.length_take]; omega)
          have HYT := hid ((hys.less (D' := fun b => Value.ownBlock (.slice none 0 0) = some b) fun b _ e => by cases e).take j (by omega))
          have HYD := hid ((hys.less (D' := fun b => V.heap.size ≤ b) fun b h1 h2 => absurd h1 (by omega)).drop j (by omega))
          have HRT := hid (hra.take (j * 2))
          have HRA := hid hra
          have HLT := hid (show (ys.take (j * 2)).length = j * 2 by rw [List.length_take, hys.1]; omega)
          have HLD := hid (show (ys.drop (j * 2)).length = (k - j) * 2 by rw [List.length_drop, hys.1]; omega)
          have s1 := fun (W : World) => slice_to po k co j (by omega) HCO.out W
          obtain ⟨P, hP, s2⟩ := slice_back po k co j (by omega) HCO.out
          have HPP := hid (show P = cutP po (j * 2) ∨ ys.length ≤ j * 2 by rcases hP with h | h; exact .inl h; right; rw [hys.1]; omega)
          have HINS := hid (show insR O (x, t) = O.take j ++ [(x, t)] ++ O.drop j by unfold insR; rw [HPJ.out, List.append_assoc]; rfl)
          have HBV := hid hbV
          obtain ⟨y1, hy1⟩ : ∃ y1, ys.take (j * 2) = y1 := ⟨_, rfl⟩
          obtain ⟨y2, hy2⟩ : ∃ y2, ys.drop (j * 2) = y2 := ⟨_, rfl⟩
          have HRD := hid fun (U : World) (hu : Below V.heap.size V U) => (show ReadAt U P y2 by rw [← hy2]; exact read_cut (HRA.out.below hu) (j * 2) P HPP.out)
          rw [hy1] at HYT HRT HLT
          rw [hy2] at HYD HLD
          obtain ⟨K1, hk1⟩ : ∃ K1, O.take j = K1 := ⟨_, rfl⟩
          obtain ⟨K2, hk2⟩ : ∃ K2, O.drop j = K2 := ⟨_, rfl⟩
          have HK2 := hid (show K2.length = k - j by rw [← hk2, List.length_drop]; omega)
          rw [hk1] at HYT HK1
          rw [hk2] at HYD
          rw [hk1, hk2] at HINS
          have HN := hid (show Out1 V.heap.size V (.slice none 0 0) [] [] from ⟨World.ownsRow_nil _ _ _ _, RC.nil⟩)
          have HA1 := hid (rec_own (w := V) 40 (.slice none 0 0) 0 [] HN.out.own po j co y1 HRT.out HLT.out HYT.out.oneCell (by omega) (Nat.le_refl _))
          have HVB := hid fun (w1 U : World) (hz : Below V.heap.size V w1) (hu : Below w1.heap.size w1 U) => (show Below V.heap.size V U ∧ Below w0.heap.size w0 U from ⟨hz.trans (hu.mono hz.size), HBV.out.trans ((hz.trans (hu.mono hz.size)).mono HBV.out.size)⟩)
          clear hra hys hy1 hy2 hk1 hk2 hP HRA HPP hV hbV HRO HPJ d1 d2 HZ
          go_wp2_with (at_builtin; refine wpList_app rfl _ _ _ rfl rfl rfl HA1.out ?_)
          intro v1 w1 hF
          have HP1 := hid (show Out1 V.heap.size w1 v1 K1 y1 from HN.out.add (Below.refl _ _) HYT.out (show Owns V V.heap.size 33 2 (.slice none 0 0) (0 + K1.length) ([] ++ y1) v1 w1 by rw [HK1.out, Nat.zero_add]; exact hF))
          have HZ1 := hid (show Below V.heap.size V w1 from (Below.refl V.heap.size V).grown hF.2.1 (Nat.le_refl _) (fun j hj => (HN.out.own.lt j hj).1))
          clear hF HA1 HYT HRT HLT HN s1
          have HPU := hid fun (w3 w' : World) (v' : Value) (q2 : Option Addr) (c2 : Nat) (hb : Below w1.heap.size w1 w3) (hq : PtD (Lt w1.heap.size) w3 q2 x) (hw : Owns w3 V.heap.size 33 2 v1 (j + 1) (y1 ++ [.slice q2 x.length c2, .string t]) v' w') => (show Out1 V.heap.size w' v' (K1 ++ [(x, t)]) (y1 ++ [.slice q2 x.length c2, .string t]) ∧ Below V.heap.size V w' from
            ⟨HP1.out.add hb (RC.one (hq.less fun b _ e => (HP1.out.own.lt b e).2)) (show Owns w3 V.heap.size 33 2 v1 (K1.length + 1) (y1 ++ [.slice q2 x.length c2, .string t]) v' w' by rw [HK1.out]; exact hw), (HVB.out w1 w3 HZ1.out hb).1.grown hw.2.1 (HVB.out w1 w3 HZ1.out hb).1.size (fun j hj => (HP1.out.own.lt j hj).1)⟩)
          have HJ := hid (show w1.ownsRow V.heap.size 33 2 v1 j y1 by have := HP1.out.own; rwa [HK1.out] at this)
          have H0 := hid (Below.refl w1.heap.size w1).drew
          have HB0 := hid (HVB.out w1 _ HZ1.out H0.out).2
          have z0 := HD.out _ HB0.out
          obtain ⟨d1, d2⟩ := HD.out _ (HVB.out w1 _ HZ1.out (Below.refl _ _)).2
          go_wp2_with fail
          go_region_held3 (fun w' => w'.cell? ⟨b, off + k * 2, none⟩ = some (.slice q x.length c') ∧ w'.cell? ⟨b, off + k * 2 + 1, none⟩ = some (.string t)) (first | exact z0 | exact z1 | exact z2 | exact z3 | go_keep)
            (first
              | (go_at_call 39; (with_reducible refine (HC.out _ HB0.out).mono ?_); rintro e w2 ⟨q2, c2, rfl, hq, hb⟩; have H1 := hid (H0.out.trans (hb.mono H0.out.size)); have HB1 := hid (HVB.out w1 _ HZ1.out H1.out).2; have z1 := HD.out _ HB1.out; have H2 := hid (H1.out.alloc H1.out.size (.cells #[.slice q2 x.length c2, .string t] 33)); have HB2 := hid (HVB.out w1 _ HZ1.out H2.out); have z2 := HD.out _ HB2.out.2; have HQ := hid ((hq.to (N := w1.heap.size) (fun k hk => hk)).keep (.below (below_alloc w2 (.cells #[.slice q2 x.length c2, .string t] 33)))); have HA := hid (rec_own (w := w2.alloc (.cells #[.slice q2 x.length c2, .string t] 33)) 40 v1 j y1 (own_below HJ.out H2.out) (some ⟨w2.heap.size, 0, none⟩) 1 1 [.slice q2 x.length c2, .string t] (read_new w2 _ _ _) rfl (one_two _ _ rfl rfl) (by omega) HB2.out.1.size); clear hq hb)
              | (refine step_app (by rfl) _ _ _ (by rfl) (by rfl) (by rfl) HA.out ?_; intro v' w4 hF; have H4 := hid (HPU.out _ _ _ _ _ H2.out HQ.out hF); have z3 := HD.out _ (HBV.out.trans (H4.out.2.mono HBV.out.size)); clear hF)
              | fail)
          clear d1 d2 z0 z1 z2 z3
          have H4O := hid H4.out.1; have HZ4 := hid H4.out.2
          generalize (y1 ++ [Value.slice q2 x.length c2, .string t] : List Value) = y3 at H4O
          have HJ4 := hid (show w4.ownsRow V.heap.size 33 2 v' (j + 1) y3 by have := H4O.out.own; rw [List.length_append, HK1.out] at this; exact this)
          have HA3 := hid (rec_own (w := w4) 40 v' (j + 1) y3 HJ4.out P (k - j) (co - j) y2 (HRD.out _ HZ4.out) HLD.out HYD.out.oneCell (by omega) HZ4.out.size)
          clear H4 HA HPU HQ HP1 HJ HB0 HB1 HB2 H0 H1 H2
          go_wp2_with (at_builtin; refine wpList_app rfl _ _ _ rfl rfl rfl HA3.out ?_)
          intro v5 w5 hF
          have HP5 := hid (H4O.out.add (Below.refl _ _) ((HYD.out.below HZ4.out).less fun b _ e => (H4O.out.own.lt b e).1) (show Owns w4 V.heap.size 33 2 v' ((K1 ++ [(x, t)]).length + K2.length) (y3 ++ y2) v5 w5 by rw [List.length_append, HK1.out, HK2.out]; exact hF))
          have HZ5 := hid (show Below V.heap.size V w5 from HZ4.out.grown hF.2.1 HZ4.out.size (fun j hj => (H4O.out.own.lt j hj).1))
          have HB5 := hid (HB.out.trans ((HBV.out.trans (HZ5.out.mono HBV.out.size)).mono HB.out.size))
          clear hF
          go_wp2_with fail
          go_roundw
          case rel => exact ⟨k + 1, _, by omega, by go_num, by rw [HSN.out, HINS.out]; exact HP5.out.base (Nat.le_trans HB.out.size HBV.out.size), HB5.out⟩
          case measure => simp [intOf]; omega
    · obtain rfl : k = L.length := by omega
      have h1 := HRO.out
      have h2 := HOL.out
      rw [List.take_length] at h1 h2
      have H1 := hid h1
      clear h1 HRO
      go_wp2_with fail
      go_ret
      rw [h2]
      exact ⟨po, co, rfl, H1.out, HB.out⟩
end Go.Proofs.Ytkjcbfdplhcjpaa.Pt
