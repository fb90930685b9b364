/- Merged out of JnRt2, JnRsc, JnRn, DkRcm, JnWpl. -/
import Derived.Test.YtaonifdfhlbaiaaGreatDoorS20
import Derived.WalkMore
import Derived.Deep.LoopGhost
import Derived.Test.YtaonifdfhlbaiaaGreatDoorS05
import Derived.Test.YtaonifdfhlbaiaaGreatDoorS18
import Derived.Test.YtaonifdfhlbaiaaGreatDoorS19
/- The document's own journal: at, whole. -/
namespace Go.Proofs.YtaonifdfhlbaiaaGreatDoor.Jn
open Go.RowKit
open Go.Lib (hid)
open Go.Proofs.YtaonifdfhlbaiaaGreatDoor.Dk
open Go.Proofs.YtaonifdfhlbaiaaGreatDoor.En (Lst entC encR mayE mayS PageT Pgs ent_at infoC oneC textS)
open Go.Proofs.YtaonifdfhlbaiaaGreatDoor.Pg (openL)
open Go.Proofs.YtaonifdfhlbaiaaGreatDoor.Sm (U sumB)
section
variable {K : Nat → Prop} {J R b n t : Nat} {wr : World} {s : St}
theorem rat (h : Jr K J R wr s b n t) (hL : Lst wr) {k : Nat} (hf : Few s k) (hk : k < 1000000) (i : Nat) (hmm : b + i < 1000) :
    Calls Tryz.prog 51 #[.pointer (some ⟨J, 0, none⟩), .int .i64 (i : Int)] wr fun e w' => RtP (rdU s ((b + i : Nat) : Int)).1 (b + i) t e ∧ Rc K R w' (rdU s ((b + i : Nat) : Int)).2.2 ∧ KS K wr w' := by
  obtain ⟨u, hu⟩ : ∃ u, (rdU s ((b + i : Nat) : Int)).1 = u := ⟨_, rfl⟩
  rw [hu]
  obtain ⟨⟨k5, n2, bl, e5⟩, ho⟩ : ∃ r, openL u.data.toList = r := ⟨_, rfl⟩
  have no : ∀ (P : Prop), (∀ S : ByteArray, openL u.data.toList = (5, b + i, S.data.toList, 0) → P → False) → P → ∀ i' kd pk pn bo ct sm, ¬ IsJ u (b + i) i' t kd pk pn bo ct sm := fun P h1 hP i' kd pk pn bo ct sm ⟨S, h2, _⟩ => h1 S h2 hP
  by_cases he : e5 = 0
  · subst he
    by_cases h5 : k5 = 5
    · subst h5
      by_cases hn : n2 = b + i
      · subst hn
        have hsm := body_small ho (by decide)
        have hS : (⟨bl.toArray⟩ : ByteArray).data.toList = bl := by simp
        have same : ∀ S : ByteArray, openL u.data.toList = (5, b + i, S.data.toList, 0) → S = ⟨bl.toArray⟩ := fun S a1 => by
          rw [ho] at a1
          apply ByteArray.ext
          apply Array.toList_inj.1
          injection a1 with _ a1; injection a1 with _ a1; injection a1 with a1 _
          rw [← a1]
        rcases En.refdec_two ⟨bl.toArray⟩ (by show bl.toArray.size ≤ _; rw [List.size_toArray]; omega) wr hL with ⟨c, hc, hno, kd, tx, ix, pk, pn, bo, ct, sm, hD⟩ | ⟨kd, tx, ix, pk, pn, bo, ct, sm, g0, g1, g2, gm, gq, hD⟩
        · exact (rt_b1 h hf hk i _ rfl hmm u hu bl c kd tx ix pk pn bo ct sm ho hc hD).mono fun e w' ⟨h1, h2⟩ => ⟨.inr ⟨fun i' kd' pk' pn' bo' ct' sm' ⟨S, a1, a2, a3, a4, a5⟩ => hno _ _ _ _ _ _ _ _ a2 a3 a4 (a5.trans (same S a1)), kd, tx, ix, pk, pn, bo, ct, sm, h1⟩, h2⟩
        · by_cases hx : tx = t
          · subst hx
            obtain ⟨i', rfl⟩ : ∃ i' : Nat, ix = (i' : Int) := ⟨ix.toNat, by have := gm.2.2.1; omega⟩
            exact (rt_ok h hf hk i _ rfl hmm u hu bl kd i' pk pn bo ct sm ho hD).mono fun e w' ⟨h1, h2⟩ => ⟨.inl ⟨i', kd, pk, pn, bo, ct, sm, ⟨_, by rw [hS]; exact ho, g0, g1, gm, gq⟩, h1⟩, h2⟩
          · refine (rt_b2 h hf hk i _ rfl hmm u hu bl kd tx ix pk pn bo ct sm ho hx hD).mono fun e w' ⟨h1, h2⟩ => ⟨.inr ⟨fun i' kd' pk' pn' bo' ct' sm' ⟨S, a1, a2, a3, a4, a5⟩ => ?_, kd, tx, ix, pk, pn, bo, ct, sm, h1⟩, h2⟩
            have r1 := En.rd_enc a2 a3 a4
            have r2 := En.rd_enc g0 g1 gm
            rw [a5, same S a1] at r1
            rw [gq] at r2
            exact hx (r2.same r1).2.1
      · exact (rt_a3 h hf hk i _ rfl hmm u hu n2 bl ho hn).mono fun e w' ⟨h1, h2⟩ => ⟨.inr ⟨no True (fun S h2 _ => by rw [ho] at h2; injection h2 with _ h2; injection h2 with h2 _; exact hn h2) trivial, _, _, _, _, _, _, _, _, h1⟩, h2⟩
    · exact (rt_a2 h hf hk i _ rfl hmm u hu k5 n2 bl ho h5).mono fun e w' ⟨h1, h2⟩ => ⟨.inr ⟨no True (fun S h2 _ => by rw [ho] at h2; injection h2 with h2 _; exact h5 h2) trivial, _, _, _, _, _, _, _, _, h1⟩, h2⟩
  · exact (rt_a1 h hf hk i _ rfl hmm u hu k5 n2 e5 bl ho he).mono fun e w' ⟨h1, h2⟩ => ⟨.inr ⟨no True (fun S h2 _ => by rw [ho] at h2; injection h2 with _ h2; injection h2 with _ h2; injection h2 with _ h2; exact he h2) trivial, _, _, _, _, _, _, _, _, h1⟩, h2⟩
end
end Go.Proofs.YtaonifdfhlbaiaaGreatDoor.Jn

/- The document's own journal: Scan. -/
namespace Go.Proofs.YtaonifdfhlbaiaaGreatDoor.Jn
open Go.RowKit
open Go.Lib (hid)
open Go.Proofs.YtaonifdfhlbaiaaGreatDoor.Dk
open Go.Proofs.YtaonifdfhlbaiaaGreatDoor.En (Lst entC encR mayE mayS PageT Pgs ent_at infoC oneC textS entB flatP flatP_length flatP_one flatP_at row_keep)
open Go.Proofs.YtaonifdfhlbaiaaGreatDoor.Ap
open Go.Proofs.YtaonifdfhlbaiaaGreatDoor.Sm (U sumB wpList_store_whole)
theorem Rc.app {K : Nat → Prop} {R base n : Nat} {w w' : World} {s : St} {v v' : Value} {L : List PageT} (h : Rc (fun j => K j ∨ v.ownBlock = some j) R w s) (hg : w.grownBy w' v.ownBlock) (hv : v'.ownBlock = v.ownBlock ∨ v'.ownBlock = some w.heap.size) (hl : ∀ k, v'.ownBlock = some k → k < w'.heap.size) (_ : w'.ownsRow base 62 3 v' n (flatP L)) : Rc (fun j => K j ∨ v'.ownBlock = some j) R w' s := by
  obtain ⟨a, h1, h3, h5⟩ := h.ex
  refine ⟨⟨a, h1, h3.kept fun k hk => hg.block k (h3.lt k hk) (fun e => h5 k hk (.inr e.symm)), fun k hf e => ?_⟩, fun k hk => ?_⟩
  · have hlt := h3.lt k hf
    rcases e with e | e
    · exact h5 k hf (.inl e)
    · rcases hv with h6 | h6
      · exact h5 k hf (.inr (h6 ▸ e))
      · rw [h6] at e; injection e with e; omega
  · rcases hk with e | e
    · exact Nat.lt_of_lt_of_le (h.lt k (.inl e)) hg.size
    · exact hl k e
theorem Jr.at {K K' : Nat → Prop} {J R b n t : Nat} {w0 wr : World} {s s' : St} (h : Jr K J R w0 s b n t) (hk : KS K w0 wr) (cd : Rc K' R wr s') (hKK : ∀ j, K j → K' j) : Jr K' J R wr s' b n t :=
  ⟨cd, hKK _ h.kJ, (hk.block J h.j.lt h.kJ).trans h.j⟩
section
variable {K : Nat → Prop} {J R b n t : Nat}
set_option maxRecDepth 100000 in
set_option maxHeartbeats 4000000 in
theorem rscan {w0 : World} {s : St} (h : Jr K J R w0 s b n t) (hL : Lst w0) (h0 : K 0) (ok : JOk b n t) (hpg : b + n ≤ s.pages.length) {k : Nat} (hf : Few s k) (hk : k + 1010 < 1000000) :
    Calls Tryz.prog 21 #[.pointer (some ⟨J, 0, none⟩)] w0 fun e w' => ∃ r s' K', Scans (vw s) b n t 0 [] r ∧ ScanE r e w' K' w0.heap.size ∧ (∀ j, K j → K' j) ∧ Rc K' R w' s' ∧ KS K w0 w' ∧ Same s s' ∧ Few s' (k + n) := by
  have HJ := hid h; have HL := hid hL; have HZ := hid h0
  have HO := hid ok
  have HPG := hid hpg
  have HKK := hid hk
  have HFS := hid hf
  have hn9 : n ≤ 999 := ok.n9
  clear h ok hpg hf hk hL h0
  go_enter Tryz.func21, Tryz.ntmps21
  go_wp2_with fail
  go_loopw [4, 5] (fun x y wr => ∃ (i : Nat) (acc : List PageT) (s' : St), y = .int .i64 i ∧ i ≤ n ∧ acc.length = i ∧ wr.ownsRow w0.heap.size 62 3 x i (flatP acc) ∧ Rc (fun j => K j ∨ x.ownBlock = some j) R wr s' ∧ KS K w0 wr ∧ Same s s' ∧ Few s' (k + i) ∧ ∀ r, Scans (vw s) b n t i acc r → Scans (vw s) b n t 0 [] r) (fun _ y _ => n - (intOf y).toNat)
  case atStart => exact ⟨0, [], s, rfl, Nat.zero_le _, rfl, ⟨rfl, .inl ⟨rfl, rfl⟩⟩, HJ.out.cd.less (fun j hj => hj.elim id (fun e => by simp [Value.ownBlock] at e)), KS.refl _ _, Same.refl _, HFS.out, fun r hr => hr⟩
  case round =>
    obtain ⟨i, acc, s', rfl, hi, hacc, hown, hcd, hks, hsm, hfw, hsc⟩ := hrel
    obtain ⟨p, c, rfl, hob, hpo⟩ := own_slice hown
    have HOW := hid hown; have HCD := hid hcd; have HK3 := hid hks; have HSM := hid hsm; have HFW := hid hfw; have HSC := hid hsc; have HOB := hid hob; have HPO := hid hpo
    have HAC := hid hacc
    clear hown hcd hks hsm hfw hsc hob hpo hacc
    have HJ3 := hid (HJ.out.at HK3.out HCD.out (fun j e => .inl e))
    obtain ⟨j0, j1, j2, j3⟩ := HJ3.out.j.cells
    clear j0 j1 j3
    by_cases hlt : i < n
    · have HRD := hid (rat HJ3.out (lst_ks HL.out HZ.out HK3.out) HFW.out (by have := HKK.out; omega) i (by have := HO.out.bn; omega))
      have HI := hid hlt
      have HVW := hid (show (rdU s' ((b + i : Nat) : Int)).1 = vw s (b + i) by rw [rd_vw (by rw [HSM.out.pages]; have := HPG.out; omega), HSM.out.vw])
      have HS4 := hid (HSM.out.trans (Same.rd s' ((b + i : Nat) : Int)))
      have HF4 := hid (few_rd HFW.out ((b + i : Nat) : Int))
      rw [HVW.out] at HRD
      generalize (rdU s' ((b + i : Nat) : Int)).2.2 = s4 at *
      clear HVW HSM HFW HJ3
      go_wp2_with fail
      refine HRD.out.mono ?_
      rintro e w1 ⟨hr, hc, hk2⟩
      have HC1 := hid hc
      have HK1 := hid (HK3.out.trans (KS.less hk2 (fun j e => .inl e)))
      have HOW1 := hid (row_keep HOW.out (fun g hg => hk2.block g (HOB.out g hg).2 (.inr hg)))
      clear HOW HCD HK3 HRD hc hk2 j2
      rcases hr with ⟨i', kd, pk, pn, bo, ct, sm, hij, rfl⟩ | ⟨hno, kd, tx, ix, pk, pn, bo, ct, sm, rfl⟩
      · have A2 := hid ((Below.refl w1.heap.size w1).alloc (Nat.le_refl _) (.cells (entC kd t i' pk pn bo ct sm) 75))
        have HX2 := hid (heap_alloc_new w1 (.cells (entC kd t i' pk pn bo ct sm) 75))
        have HC2 := hid (HC1.out.next A2.out)
        have HK2 := hid (HK1.out.trans (KS.of A2.out))
        have HOW2 := hid (row_keep HOW1.out (fun g hg => A2.out.block g (HC1.out.lt g (.inr hg))))
        clear HC1 HK1 HOW1
        by_cases hii : i' = i
        · subst hii
          have HIJ := hid hij
          have hkinds : (kd = 1) ∨ (kd = 2 ∧ ct = i' ∧ 1 ≤ ct ∧ pk = 0 ∧ pn = 0 ∧ bo = ⟨#[]⟩) ∨ kd = 3 := by
            obtain ⟨S, _, _, _, hm, _⟩ := hij
            rcases hm.2.2.2.2 with ⟨h1, _⟩ | ⟨h1, h2, h3, h4⟩ | ⟨h1, _⟩
            · exact .inl h1
            · obtain ⟨h5, h6, h7⟩ := (En.noP_iff _ _ _).1 h4
              exact .inr (.inl ⟨h1, h3.symm ▸ rfl, h2, h5, h6, h7⟩)
            · exact .inr (.inr h1)
          clear hij
          rcases hkinds with rfl | ⟨rfl, rfl, hc1, rfl, rfl, rfl⟩ | rfl
          · go_wp2_with fail
            generalize w1.alloc (.cells (entC 1 t i' pk pn bo ct sm) 75) = X at *
            obtain ⟨p0, p1, p2, p3, p4, p5, p6, p7⟩ := ent_at HX2.out
            go_quiet (fail)
            have AQ := hid (below_drewN (Below.refl X.heap.size X) nq)
            have HC2' := hid (HC2.out.next AQ.out)
            have HK2' := hid (HK2.out.trans (KS.of AQ.out))
            have HOW2' := hid (row_keep HOW2.out (fun g hg => AQ.out.block g (HC2.out.lt g (.inr hg))))
            have HX2' := hid (show (X.drewN nq).heap[w1.heap.size]? = some (.cells (entC 1 t i' pk pn bo ct sm) 75 (0, 0)) from HX2.out)
            clear p0 p1 p2 p3 p4 p5 p6 p7 HC2 HK2 HOW2 HX2 A2 AQ
            generalize X.drewN nq = Y at *
            obtain ⟨p0, p1, p2, p3, p4, p5, p6, p7⟩ := ent_at HX2'.out
            have A3 := hid ((Below.refl Y.heap.size Y).alloc (Nat.le_refl _) (.cells #[.int .i64 pk, .int .i64 pn, .string bo] 62))
            have HC3 := hid (HC2'.out.next A3.out)
            have HK3 := hid (HK2'.out.trans (KS.of A3.out))
            have HOW3 := hid (row_keep HOW2'.out (fun g hg => A3.out.block g (HC2'.out.lt g (.inr hg))))
            have HQ3 := hid (show Pgs (Y.alloc (.cells #[.int .i64 pk, .int .i64 pn, .string bo] 62)) (some ⟨Y.heap.size, 0, none⟩) [(pk, pn, bo)] from by
              have h := heap_alloc_new Y (.cells #[.int .i64 pk, .int .i64 pn, .string bo] 62)
              intro j hj
              obtain rfl : j = 0 := by simp at hj; omega
              exact ⟨Y.heap.size, 0, rfl, (Array.getElem?_eq_some_iff.1 h).1, by rw [cell_of_row _ _ _ _ _ _ h]; rfl, by rw [cell_of_row _ _ _ _ _ _ h]; rfl, by rw [cell_of_row _ _ _ _ _ _ h]; rfl⟩)
            have HAP := hid (pages_own 39 (.slice p i' c) acc i' HAC.out HOW3.out (some ⟨Y.heap.size, 0, none⟩) 1 (pk, pn, bo) HQ3.out (by omega) HK3.out.size)
            clear HC2' HK2' HOW2'
            go_wp2_with (at_builtin; refine wpList_app rfl _ _ _ rfl rfl rfl HAP.out ?_)
            rintro v4 w4 ⟨hown4, hg4, hv4⟩
            have HOW4 := hid hown4
            have HC4 := hid (Rc.app HC3.out hg4 hv4 (fun g hg => by
              obtain ⟨_, _, _, h2, _⟩ := own_slice hown4
              exact (h2 g hg).2) hown4)
            have HK4 := hid (KS.grown HK3.out hg4 (fun g hg => (HOB.out g hg).1))
            clear hown4 hg4 hv4 HAP HQ3 A3 HC3 HK3 HOW3 p0 p1 p2 p3 p4 p5 p6 p7 HX2'
            go_wp2_with fail
            go_roundw
            case rel => exact ⟨i' + 1, acc ++ [(pk, pn, bo)], s4, by go_num, HI.out, by rw [List.length_append, HAC.out]; rfl, HOW4.out, HC4.out, HK4.out, HS4.out, HF4.out, fun r hr => HSC.out r (Scans.page HI.out HIJ.out hr)⟩
            case measure => simp [intOf]; have := HI.out; omega
          · obtain ⟨u, hu⟩ : ∃ u, U (sumB (textS acc acc.length)) = u := ⟨_, rfl⟩
            have HPG2 := hid (own_pgs HOW2.out HAC.out)
            have HCM := hid fun (V : World) (hq : Pgs V p acc) => (show Calls Tryz.prog 40 #[.slice p i' c] V fun e w' => e = .returned (.int .u32 u) ∧ Below V.heap.size V w' from by
              have h2 := En.refsum_ok acc p c V hq (by have := HAC.out; omega)
              rw [hu, HAC.out] at h2; exact h2)
            have HU := hid hu
            have HC1N := hid hc1
            have e1 : decide ((0 : Int) < (i' : Int)) = true := by simp; omega
            have e2 : decide (0 < i') = true := by simp; omega
            clear hu hc1
            go_wp2_with fail
            generalize w1.alloc (.cells (entC 2 t i' 0 0 ⟨#[]⟩ i' sm) 75) = X at *
            have HD := hid fun (V : World) (hv : Below X.heap.size X V) => (show V.cell? ⟨w1.heap.size, 0, none⟩ = some (.int .i64 2) ∧ V.cell? ⟨w1.heap.size, 1, none⟩ = some (.int .i64 t) ∧ V.cell? ⟨w1.heap.size, 2, none⟩ = some (.int .i64 i') ∧ V.cell? ⟨w1.heap.size, 3, none⟩ = some (.int .i64 0) ∧ V.cell? ⟨w1.heap.size, 4, none⟩ = some (.int .i64 0) ∧ V.cell? ⟨w1.heap.size, 5, none⟩ = some (.string ⟨#[]⟩) ∧ V.cell? ⟨w1.heap.size, 6, none⟩ = some (.int .i64 i') ∧ V.cell? ⟨w1.heap.size, 7, none⟩ = some (.int .u32 sm) from by
              exact ent_at ((hv.block w1.heap.size (Array.getElem?_eq_some_iff.1 HX2.out).1).trans HX2.out))
            have B0 := hid (Below.refl X.heap.size X).drew
            have y0 := HD.out _ B0.out
            have x0 := HD.out _ (Below.refl X.heap.size X)
            obtain ⟨Bq, hBq⟩ : ∃ B, (sm == u) = B := ⟨_, rfl⟩
            have HBQ := hid hBq
            go_region_held3 (fun V => V.cell? ⟨w1.heap.size, 0, none⟩ = some (.int .i64 2) ∧ V.cell? ⟨w1.heap.size, 1, none⟩ = some (.int .i64 t) ∧ V.cell? ⟨w1.heap.size, 2, none⟩ = some (.int .i64 i') ∧ V.cell? ⟨w1.heap.size, 3, none⟩ = some (.int .i64 0) ∧ V.cell? ⟨w1.heap.size, 4, none⟩ = some (.int .i64 0) ∧ V.cell? ⟨w1.heap.size, 5, none⟩ = some (.string ⟨#[]⟩) ∧ V.cell? ⟨w1.heap.size, 6, none⟩ = some (.int .i64 i') ∧ V.cell? ⟨w1.heap.size, 7, none⟩ = some (.int .u32 sm)) (first | exact x0 | exact y0 | exact y1 | go_keep)
              (first
                | (go_at_call 40; with_reducible refine (HCM.out _ (HPG2.out.below B0.out)).mono ?_; rintro e v1 ⟨rfl, hb⟩; have B1 := hid (B0.out.trans (hb.mono B0.out.size)); have y1 := HD.out _ B1.out; clear hb)
                | fail)
            have HC3 := hid (HC2.out.next B1.out)
            have HK3 := hid (HK2.out.trans (KS.of B1.out))
            have HP3 := hid (HPG2.out.below B1.out)
            obtain ⟨z0, z1, z2, z3, z4, z5, z6, z7⟩ := y1
            clear x0 y0 HD HCM z1 z2 z3 z4 z5 z6 z7 e1 e2
            cases Bq with
            | true =>
              have hsm : sm = u := by simpa using HBQ.out
              have HSU := hid hsm
              clear hsm
              go_wp2_with fail
              go_ret2
              refine ⟨some acc, s4, _, HSC.out _ (Scans.done HI.out HIJ.out (by decide) (by rw [HAC.out, show textS acc i' = textS acc acc.length by rw [HAC.out], HU.out, HSU.out]; exact En.entB_self _ _ _ _ _ _ _ _)), ⟨p, c, by rw [HAC.out]; rfl, HP3.out, fun g off e => ⟨.inr (HPO.out g off e), (HOB.out g (HPO.out g off e)).1⟩⟩, (fun j e => .inl e), HC3.out, HK3.out, HS4.out, ?_⟩
              exact few_up HF4.out (by omega)
            | false =>
              have hsm : ¬ sm = u := by simpa using HBQ.out
              have HSU := hid hsm
              clear hsm
              go_wp2_with fail
              go_ret2
              refine ⟨none, s4, _, HSC.out _ (Scans.other HI.out HIJ.out (by decide) ?_), rfl, (fun j e => .inl e), HC3.out, HK3.out, HS4.out, few_up HF4.out (by omega)⟩
              rw [HU.out]
              cases hq : entB 2 t i' 0 0 ⟨#[]⟩ i' sm 2 t acc.length 0 0 ⟨#[]⟩ acc.length u with
              | false => rfl
              | true => exact absurd (En.entB_eq hq).2.2.2.2.2.2.2 HSU.out
          · go_wp2_with fail
            generalize w1.alloc (.cells (entC 3 t i' pk pn bo ct sm) 75) = X at *
            obtain ⟨p0, p1, p2, p3, p4, p5, p6, p7⟩ := ent_at HX2.out
            go_quiet (fail)
            have AQ := hid (below_drewN (Below.refl X.heap.size X) nq)
            have HC2' := hid (HC2.out.next AQ.out)
            have HK2' := hid (HK2.out.trans (KS.of AQ.out))
            have q0 : (X.drewN nq).cell? ⟨w1.heap.size, 0, none⟩ = some (.int .i64 3) := p0
            clear p0 p1 p2 p3 p4 p5 p6 p7 HC2 HK2 HOW2 HX2 A2 AQ
            generalize X.drewN nq = Y at *
            go_wp2_with fail
            go_ret2
            exact ⟨none, s4, _, HSC.out _ (Scans.other HI.out HIJ.out (by decide) rfl), rfl, (fun j e => .inl e), HC2'.out, HK2'.out, HS4.out, few_up HF4.out (by omega)⟩
        · have HNO := hid (show ∀ kd pk pn bo ct sm, ¬ IsJ (vw s (b + i)) (b + i) i t kd pk pn bo ct sm from fun _ _ _ _ _ _ g => hii (isJ_same hij g).2.2.1)
          have e1 : ((i' : Int) != (i : Int)) = true := by simp; omega
          have e2 : (i' != i) = true := by simp; omega
          clear hij hii
          go_wp2_with fail
          go_ret2
          exact ⟨none, s4, _, HSC.out _ (Scans.no HI.out HNO.out), rfl, (fun j e => .inl e), HC2.out, HK2.out, HS4.out, few_up HF4.out (by omega)⟩
      · have HNO := hid (hno i)
        have A2 := hid ((Below.refl w1.heap.size w1).alloc (Nat.le_refl _) (.cells (entC kd tx ix pk pn bo ct sm) 75))
        clear hno
        go_wp2_with fail
        go_ret2
        exact ⟨none, s4, _, HSC.out _ (Scans.no HI.out HNO.out), rfl, (fun j e => .inl e), HC1.out.next A2.out, HK1.out.trans (KS.of A2.out), HS4.out, few_up HF4.out (by omega)⟩
    · obtain rfl : i = n := by omega
      clear hlt
      go_wp2_with fail
      go_ret2
      exact ⟨none, s', _, HSC.out _ (Scans.stop (Nat.le_refl _)), rfl, (fun j e => .inl e), HCD.out, HK3.out, HSM.out, few_up HFW.out (by omega)⟩
end
end Go.Proofs.YtaonifdfhlbaiaaGreatDoor.Jn

/- The document's own journal: New, of any place. -/
namespace Go.Proofs.YtaonifdfhlbaiaaGreatDoor.Jn
open Go.RowKit
open Go.Lib (hid)
open Go.Proofs.YtaonifdfhlbaiaaGreatDoor.Dk
section
variable {K : Nat → Prop} {R : Nat} {w : World} {s : St}
set_option maxHeartbeats 1000000 in
theorem rnew_nil (w : World) (b n t : Int) : Calls Tryz.prog 8 #[.pointer none, .int .i64 b, .int .i64 n, .int .i64 t] w fun e w' => e = .returned (.tuple #[.pointer none, .int .i64 1]) ∧ w' = w := by
  go_enter Tryz.func8, Tryz.ntmps8
  go_wp2_with fail
  go_ret2
  exact ⟨rfl, rfl⟩
set_option maxRecDepth 100000 in
set_option maxHeartbeats 4000000 in
theorem rnew_b1 (h0 : Rc K R w s) (b n t : Int) (h : n < 2) : Calls Tryz.prog 8 #[.pointer (some ⟨R, 0, none⟩), .int .i64 b, .int .i64 n, .int .i64 t] w fun e w' => e = .returned (.tuple #[.pointer none, .int .i64 1]) ∧ w' = w := by
  obtain ⟨a, rfl, hr, _⟩ := h0.ex
  have c0 : w.cell? ⟨a.D, 0, none⟩ = some (.slice (some ⟨a.P, 0, none⟩) s.pages.length a.cp) := by
    rw [cell_of_row _ _ _ _ _ _ hr.head]; rfl
  have hm := hr.good.n2
  generalize s.pages.length = m at *
  have e1 : decide (n < 2) = true := by simpa using h
  clear h0 hr hm  h
  go_enter Tryz.func8, Tryz.ntmps8
  go_wp2_with fail
  go_ret2
  exact ⟨rfl, rfl⟩
set_option maxRecDepth 100000 in
set_option maxHeartbeats 4000000 in
theorem rnew_b2 (h0 : Rc K R w s) (b n t : Int) (h1 : ¬ n < 2) (h : 999 < n) : Calls Tryz.prog 8 #[.pointer (some ⟨R, 0, none⟩), .int .i64 b, .int .i64 n, .int .i64 t] w fun e w' => e = .returned (.tuple #[.pointer none, .int .i64 1]) ∧ w' = w := by
  obtain ⟨a, rfl, hr, _⟩ := h0.ex
  have c0 : w.cell? ⟨a.D, 0, none⟩ = some (.slice (some ⟨a.P, 0, none⟩) s.pages.length a.cp) := by
    rw [cell_of_row _ _ _ _ _ _ hr.head]; rfl
  have hm := hr.good.n2
  generalize s.pages.length = m at *
  have e1 : decide (n < 2) = false := by simpa using h1
  have e2 : decide (999 < n) = true := by simpa using h
  clear h0 hr hm h1 h
  go_enter Tryz.func8, Tryz.ntmps8
  go_wp2_with fail
  go_ret2
  exact ⟨rfl, rfl⟩
set_option maxRecDepth 100000 in
set_option maxHeartbeats 4000000 in
theorem rnew_b3 (h0 : Rc K R w s) (b n t : Int) (h1 : ¬ n < 2) (h2 : ¬ 999 < n) (h : b < 0) : Calls Tryz.prog 8 #[.pointer (some ⟨R, 0, none⟩), .int .i64 b, .int .i64 n, .int .i64 t] w fun e w' => e = .returned (.tuple #[.pointer none, .int .i64 1]) ∧ w' = w := by
  obtain ⟨a, rfl, hr, _⟩ := h0.ex
  have c0 : w.cell? ⟨a.D, 0, none⟩ = some (.slice (some ⟨a.P, 0, none⟩) s.pages.length a.cp) := by
    rw [cell_of_row _ _ _ _ _ _ hr.head]; rfl
  have hm := hr.good.n2
  generalize s.pages.length = m at *
  have e1 : decide (n < 2) = false := by simpa using h1
  have e2 : decide (999 < n) = false := by simpa using h2
  have e3 : decide (b < 0) = true := by simpa using h
  clear h0 hr hm h1 h2 h
  go_enter Tryz.func8, Tryz.ntmps8
  go_wp2_with fail
  go_ret2
  exact ⟨rfl, rfl⟩
set_option maxRecDepth 100000 in
set_option maxHeartbeats 4000000 in
theorem rnew_b4 (h0 : Rc K R w s) (b n t : Int) (h1 : ¬ n < 2) (h2 : ¬ 999 < n) (h3 : ¬ b < 0) (h : (s.pages.length : Int) - n < b) : Calls Tryz.prog 8 #[.pointer (some ⟨R, 0, none⟩), .int .i64 b, .int .i64 n, .int .i64 t] w fun e w' => e = .returned (.tuple #[.pointer none, .int .i64 1]) ∧ w' = w := by
  obtain ⟨a, rfl, hr, _⟩ := h0.ex
  have c0 : w.cell? ⟨a.D, 0, none⟩ = some (.slice (some ⟨a.P, 0, none⟩) s.pages.length a.cp) := by
    rw [cell_of_row _ _ _ _ _ _ hr.head]; rfl
  have hm := hr.good.n2
  generalize s.pages.length = m at *
  have e1 : decide (n < 2) = false := by simpa using h1
  have e2 : decide (999 < n) = false := by simpa using h2
  have e3 : decide (b < 0) = false := by simpa using h3
  have e4 : decide ((m : Int) - n < b) = true := by simpa using h
  have hw : wrap64 ((m : Int) - n) = (m : Int) - n := by unfold wrap64; omega
  clear h0 hr hm h1 h2 h3 h
  go_enter Tryz.func8, Tryz.ntmps8
  go_wp2_with fail
  go_ret2
  exact ⟨rfl, rfl⟩
set_option maxRecDepth 100000 in
set_option maxHeartbeats 4000000 in
theorem rnew_b5 (h0 : Rc K R w s) (b n t : Int) (h1 : ¬ n < 2) (h2 : ¬ 999 < n) (h3 : ¬ b < 0) (h4 : ¬ (s.pages.length : Int) - n < b) (h : t < 1) : Calls Tryz.prog 8 #[.pointer (some ⟨R, 0, none⟩), .int .i64 b, .int .i64 n, .int .i64 t] w fun e w' => e = .returned (.tuple #[.pointer none, .int .i64 1]) ∧ w' = w := by
  obtain ⟨a, rfl, hr, _⟩ := h0.ex
  have c0 : w.cell? ⟨a.D, 0, none⟩ = some (.slice (some ⟨a.P, 0, none⟩) s.pages.length a.cp) := by
    rw [cell_of_row _ _ _ _ _ _ hr.head]; rfl
  have hm := hr.good.n2
  generalize s.pages.length = m at *
  have e1 : decide (n < 2) = false := by simpa using h1
  have e2 : decide (999 < n) = false := by simpa using h2
  have e3 : decide (b < 0) = false := by simpa using h3
  have e4 : decide ((m : Int) - n < b) = false := by simpa using h4
  have e5 : decide (t < 1) = true := by simpa using h
  have hw : wrap64 ((m : Int) - n) = (m : Int) - n := by unfold wrap64; omega
  clear h0 hr hm h1 h2 h3 h4 h
  go_enter Tryz.func8, Tryz.ntmps8
  go_wp2_with fail
  go_ret2
  exact ⟨rfl, rfl⟩
set_option maxRecDepth 100000 in
set_option maxHeartbeats 4000000 in
theorem rnew_b6 (h0 : Rc K R w s) (b n t : Int) (h1 : ¬ n < 2) (h2 : ¬ 999 < n) (h3 : ¬ b < 0) (h4 : ¬ (s.pages.length : Int) - n < b) (h5 : ¬ t < 1) (h : 4294967295 < t) : Calls Tryz.prog 8 #[.pointer (some ⟨R, 0, none⟩), .int .i64 b, .int .i64 n, .int .i64 t] w fun e w' => e = .returned (.tuple #[.pointer none, .int .i64 1]) ∧ w' = w := by
  obtain ⟨a, rfl, hr, _⟩ := h0.ex
  have c0 : w.cell? ⟨a.D, 0, none⟩ = some (.slice (some ⟨a.P, 0, none⟩) s.pages.length a.cp) := by
    rw [cell_of_row _ _ _ _ _ _ hr.head]; rfl
  have hm := hr.good.n2
  generalize s.pages.length = m at *
  have e1 : decide (n < 2) = false := by simpa using h1
  have e2 : decide (999 < n) = false := by simpa using h2
  have e3 : decide (b < 0) = false := by simpa using h3
  have e4 : decide ((m : Int) - n < b) = false := by simpa using h4
  have e5 : decide (t < 1) = false := by simpa using h5
  have e6 : decide (4294967295 < t) = true := by simpa using h
  have hw : wrap64 ((m : Int) - n) = (m : Int) - n := by unfold wrap64; omega
  clear h0 hr hm h1 h2 h3 h4 h5 h
  go_enter Tryz.func8, Tryz.ntmps8
  go_wp2_with fail
  go_ret2
  exact ⟨rfl, rfl⟩
theorem rnew_bad (h0 : Rc K R w s) (b n t : Int) (h : ¬ (2 ≤ n ∧ n ≤ 999 ∧ 1 ≤ t ∧ t ≤ 4294967295 ∧ 0 ≤ b ∧ b + n ≤ (s.pages.length : Int))) : Calls Tryz.prog 8 #[.pointer (some ⟨R, 0, none⟩), .int .i64 b, .int .i64 n, .int .i64 t] w fun e w' => e = .returned (.tuple #[.pointer none, .int .i64 1]) ∧ w' = w := by
  by_cases h1 : n < 2
  · exact rnew_b1 h0 b n t h1
  · by_cases h2 : 999 < n
    · exact rnew_b2 h0 b n t h1 h2
    · by_cases h3 : b < 0
      · exact rnew_b3 h0 b n t h1 h2 h3
      · by_cases h4 : (s.pages.length : Int) - n < b
        · exact rnew_b4 h0 b n t h1 h2 h3 h4
        · by_cases h5 : t < 1
          · exact rnew_b5 h0 b n t h1 h2 h3 h4 h5
          · by_cases h6 : 4294967295 < t
            · exact rnew_b6 h0 b n t h1 h2 h3 h4 h5 h6
            · exact absurd ⟨by omega, by omega, by omega, by omega, by omega, by omega⟩ h
set_option maxRecDepth 100000 in
set_option maxHeartbeats 4000000 in
theorem rnew_ok (h0 : Rc K R w s) (b n t : Nat) (ok : JOk b n t) (hp : b + n ≤ s.pages.length) : Calls Tryz.prog 8 #[.pointer (some ⟨R, 0, none⟩), .int .i64 (b : Int), .int .i64 (n : Int), .int .i64 (t : Int)] w fun e w' => ∃ J, e = .returned (.tuple #[.pointer (some ⟨J, 0, none⟩), .int .i64 0]) ∧ J = w.heap.size ∧ RAt w' J R b n t ∧ Below w.heap.size w w' := by
  obtain ⟨a, rfl, hr, _⟩ := h0.ex
  have c0 : w.cell? ⟨a.D, 0, none⟩ = some (.slice (some ⟨a.P, 0, none⟩) s.pages.length a.cp) := by
    rw [cell_of_row _ _ _ _ _ _ hr.head]; rfl
  have hm := hr.good.n2
  generalize s.pages.length = m at *
  obtain ⟨k1, k2, k3, k4, k5⟩ := ok
  have e1 : decide ((n : Int) < 2) = false := by simp; omega
  have e2 : decide ((999 : Int) < (n : Int)) = false := by simp; omega
  have e3 : decide ((b : Int) < 0) = false := by simp
  have e4 : decide ((m : Int) - (n : Int) < (b : Int)) = false := by simp; omega
  have e5 : decide ((t : Int) < 1) = false := by first | (simp; done) | (simp; omega) | (rw [decide_eq_false_iff_not]; omega)
  have e6 : decide ((4294967295 : Int) < (t : Int)) = false := by simp; omega
  have e7 : (t == 0) = false := by simp; omega
  have e8 : decide (n < 2) = false := by simp; omega
  have hw : wrap64 ((m : Int) - (n : Int)) = (m : Int) - (n : Int) := by unfold wrap64; omega
  have HX := hid (show RAt (w.alloc (.cells #[.pointer (some ⟨a.D, 0, none⟩), .int .i64 (b : Int), .int .i64 (n : Int), .int .i64 (t : Int)] 53)) w.heap.size a.D b n t from heap_alloc_new w _)
  have HB := hid ((Below.refl w.heap.size w).alloc (Nat.le_refl _) (.cells #[.pointer (some ⟨a.D, 0, none⟩), .int .i64 (b : Int), .int .i64 (n : Int), .int .i64 (t : Int)] 53))
  clear h0 hr hm hp k1 k2 k3 k4 k5
  go_enter Tryz.func8, Tryz.ntmps8
  go_wp2_with fail
  go_ret2
  exact ⟨_, rfl, rfl, HX.out, HB.out⟩
end
end Go.Proofs.YtaonifdfhlbaiaaGreatDoor.Jn

/- The document's crash and the program's: the same writes come, with the same bytes. -/
namespace Go.Proofs.YtaonifdfhlbaiaaGreatDoor.Dk
open Go.RowKit
open Go.Lib (hid)

theorem textAt_full {s : St} (h : Good s) (j : Nat) (hj : j < s.waits.length) : (textAt s j).toList.isEmpty = false := by
  rw [textAt_of s j hj]
  have h1 := (h.wait _ (List.getElem_mem hj)).2
  have h2 : (s.waits[j].2).toList.length = 256 := by rw [Go.ByteArray.toList_eq]; simpa using h1
  cases e : (s.waits[j].2).toList with
  | nil => rw [e] at h2; simp at h2
  | cons => rfl
/-- what stands there when the first k of the kept ones have come -/
def Ag (s : St) (ks : List Int) (k : Nat) (o : List ByteArray) : Prop :=
  o.length = s.waits.length ∧ ∀ j, j < s.waits.length → o.getD j emptyB = if (j : Int) ∈ ks.take k then textAt s j else emptyB
theorem free_ag {s : St} (h : Good s) {ks : List Int} {k : Nat} {o : List ByteArray} (hA : Ag s ks k o) (x : Int) : freeB o x = true ↔ 0 ≤ x ∧ x < (s.waits.length : Int) ∧ x ∉ ks.take k := by
  unfold freeB
  simp only [Bool.and_eq_true, decide_eq_true_eq, hA.1]
  constructor
  · rintro ⟨h1, h2, h3⟩
    refine ⟨h1, h2, fun hm => ?_⟩
    have hx : ((x.toNat : Nat) : Int) = x := by omega
    rw [hA.2 x.toNat (by omega), hx, if_pos hm, textAt_full h x.toNat (by omega)] at h3
    cases h3
  · rintro ⟨h1, h2, h3⟩
    have hx : ((x.toNat : Nat) : Int) = x := by omega
    refine ⟨h1, h2, ?_⟩
    rw [hA.2 x.toNat (by omega), hx, if_neg h3]
    exact emptyB_nil
theorem ag_zero (s : St) (ks : List Int) : Ag s ks 0 (none0 s) := by
  refine ⟨by simp [none0], fun j hj => ?_⟩
  rw [List.take_zero, if_neg List.not_mem_nil]
  unfold none0
  rw [List.getD_eq_getElem?_getD, List.getElem?_replicate]
  split <;> rfl
theorem ag_step {s : St} {ks : List Int} {k : Nat} {o : List ByteArray} (hA : Ag s ks k o) (hk : k < ks.length) (h0 : 0 ≤ ks[k]) : Ag s ks (k + 1) (o.set ks[k].toNat (textAt s ks[k].toNat)) := by
  refine ⟨by rw [List.length_set]; exact hA.1, fun j hj => ?_⟩
  rw [List.take_succ_eq_append_getElem hk]
  by_cases e : j = ks[k].toNat
  · have hx : (j : Int) = ks[k] := by omega
    rw [if_pos (by rw [hx]; exact List.mem_append_right _ (List.mem_singleton.2 rfl)), ← e, List.getD_eq_getElem?_getD, List.getElem?_set_self (by rw [hA.1]; exact hj)]; rfl
  · have hx : (j : Int) ≠ ks[k] := by omega
    rw [List.getD_eq_getElem?_getD, List.getElem?_set_ne (Ne.symm e), ← List.getD_eq_getElem?_getD, hA.2 j hj]
    simp only [List.mem_append, List.mem_singleton, hx, or_false]
/-- may the i-th one be kept? -/
def kOk (s : St) (ks : List Int) (i : Nat) : Prop := ∀ h : i < ks.length, 0 ≤ ks[i] ∧ ks[i] < (s.waits.length : Int) ∧ ks[i] ∉ ks.take i
theorem keep_ok {s : St} (h : Good s) (ks : List Int) (k : Nat) (hk : k ≤ ks.length) (hv : ∀ i, i < k → kOk s ks i) : ∃ o, keepL s (ks.take k) (none0 s) = some o ∧ Ag s ks k o := by
  induction k with
  | zero => exact ⟨_, by rw [List.take_zero]; rfl, ag_zero s ks⟩
  | succ k ih =>
    obtain ⟨o, h1, h2⟩ := ih (by omega) fun i hi => hv i (by omega)
    obtain ⟨g1, g2, g3⟩ := hv k (by omega) (by omega)
    exact ⟨_, keepL_more s ks k _ o (by omega) h1 ((free_ag h h2 _).2 ⟨g1, g2, g3⟩), ag_step h2 (by omega) g1⟩
theorem keep_no {s : St} (h : Good s) (ks : List Int) (k : Nat) (hk : k < ks.length) (hv : ∀ i, i < k → kOk s ks i) (hb : ¬ kOk s ks k) : keepL s ks (none0 s) = none := by
  obtain ⟨o, h1, h2⟩ := keep_ok h ks k (by omega) hv
  refine keepL_stop s ks k _ o hk h1 ?_
  cases hf : freeB o ks[k] with
  | false => rfl
  | true => exact absurd (fun _ => (free_ag h h2 _).1 hf) hb
theorem keep_valid {s : St} (h : Good s) (ks : List Int) (o : List ByteArray) (hk : keepL s ks (none0 s) = some o) : ∀ k, k ≤ ks.length → ∀ i, i < k → kOk s ks i := by
  intro k
  induction k with
  | zero => intro _ i hi; omega
  | succ k ih =>
    intro hl i hi
    by_cases e : i = k
    · subst e
      refine Classical.byContradiction fun hb => ?_
      rw [keep_no h ks i (by omega) (ih (by omega)) hb] at hk
      cases hk
    · exact ih (by omega) i (by omega)
/-- what comes of the write at j -/
def rOut (s : St) (ks : List Int) (torn a : Int) (j : Nat) : ByteArray := if (j : Int) ∈ ks then textAt s j else if (j : Int) = torn then tornB (textAt s j) a.toNat else emptyB
theorem come_yes {s : St} (h : Good s) (ks : List Int) (torn a : Int) (hv : ∀ i, i < ks.length → kOk s ks i ∧ ∀ hi : i < ks.length, ks[i] ≠ torn) (ht : -1 ≤ torn) (ht2 : torn < (s.waits.length : Int)) (ha : 0 ≤ torn → 0 ≤ a ∧ a ≤ 256) :
    ∃ o, comeS s ks torn a = some o ∧ o.length = s.waits.length ∧ ∀ j, j < s.waits.length → o.getD j emptyB = rOut s ks torn a j := by
  obtain ⟨o, h1, h2⟩ := keep_ok h ks ks.length (Nat.le_refl _) fun i hi => (hv i hi).1
  have h2' := h2
  rw [List.take_length] at h1
  unfold Ag at h2
  rw [List.take_length] at h2
  have hnm : torn ∉ ks := fun hm => by
    obtain ⟨i, hi, e⟩ := List.getElem_of_mem hm
    exact (hv i hi).2 hi e
  unfold comeS rOut
  rw [h1]
  by_cases hn : torn = -1
  · refine ⟨o, by simp only [hn, if_true], h2.1, fun j hj => ?_⟩
    rw [h2.2 j hj]
    by_cases hm : (j : Int) ∈ ks
    · rw [if_pos hm, if_pos hm]
    · rw [if_neg hm, if_neg hm, if_neg (by omega)]
  · have hf : freeB o torn = true := (free_ag h h2' torn).2 ⟨by omega, ht2, by rw [List.take_length]; exact hnm⟩
    refine ⟨o.set torn.toNat (tornB (textAt s torn.toNat) a.toNat), by simp only [hn, if_false, hf, if_true]; rw [if_pos (ha (by omega))], by rw [List.length_set]; exact h2.1, fun j hj => ?_⟩
    by_cases e : j = torn.toNat
    · have hx : (j : Int) = torn := by omega
      rw [← e, List.getD_eq_getElem?_getD, List.getElem?_set_self (by rw [h2.1]; exact hj), if_neg (by rw [hx]; exact hnm), if_pos hx]; rfl
    · rw [List.getD_eq_getElem?_getD, List.getElem?_set_ne (Ne.symm e), ← List.getD_eq_getElem?_getD, h2.2 j hj]
      by_cases hm : (j : Int) ∈ ks
      · rw [if_pos hm, if_pos hm]
      · rw [if_neg hm, if_neg hm, if_neg (by omega)]
theorem come_no_kept {s : St} (h : Good s) (ks : List Int) (torn a : Int) (k : Nat) (hk : k < ks.length) (hb : ¬ kOk s ks k ∨ ks[k] = torn) : comeS s ks torn a = none := by
  unfold comeS
  cases he : keepL s ks (none0 s) with
  | none => rfl
  | some o =>
    have hval := keep_valid h ks o he ks.length (Nat.le_refl _)
    rcases hb with hb | hb
    · exact absurd (hval k hk) hb
    · obtain ⟨o', h1, h2⟩ := keep_ok h ks ks.length (Nat.le_refl _) hval
      rw [List.take_length, he] at h1
      injection h1 with h1
      subst h1
      obtain ⟨g1, _, _⟩ := hval k hk hk
      have hf : freeB o torn = false := by
        cases hf : freeB o torn with
        | false => rfl
        | true =>
          have h3 := ((free_ag h h2 torn).1 hf).2.2
          rw [List.take_length, ← hb] at h3
          exact absurd (List.getElem_mem hk) h3
      simp only [hf, Bool.false_eq_true, if_false]
      rw [if_neg (by omega)]
theorem come_no_torn {s : St} (h : Good s) (ks : List Int) (torn a : Int) (hv : ∀ i, i < ks.length → kOk s ks i) (hb : torn < -1 ∨ (s.waits.length : Int) ≤ torn ∨ (0 ≤ torn ∧ (a < 0 ∨ 256 < a))) : comeS s ks torn a = none := by
  obtain ⟨o, h1, h2⟩ := keep_ok h ks ks.length (Nat.le_refl _) hv
  rw [List.take_length] at h1
  unfold comeS
  rw [h1]
  simp only
  rw [if_neg (by omega)]
  cases hf : freeB o torn with
  | false => rfl
  | true =>
    have h3 := (free_ag h h2 torn).1 hf
    rw [if_pos rfl, if_neg (by omega)]
theorem tornB_size (t : ByteArray) (a : Nat) (h : t.size = 256) (ha : a ≤ 256) : (tornB t a).size = 256 := by
  show (Pg.tornL t.data.toList a).toArray.size = 256
  rw [List.size_toArray]
  exact Pg.torn_length _ _ (by simpa using h) ha
theorem full_of_size (t : ByteArray) (h : t.size = 256) : t.toList.isEmpty = false := by
  have h2 : t.toList.length = 256 := by rw [Go.ByteArray.toList_eq]; simpa using h
  cases e : t.toList with
  | nil => rw [e] at h2; simp at h2
  | cons => rfl
theorem come_set {s : St} {o : List ByteArray} {j : Nat} {t : ByteArray} (hl : o.length = s.waits.length) (hj : j < s.waits.length) (he : o.getD j emptyB = t) (ht : t.toList.isEmpty = false) : (comeK s o (j + 1)).pages = (comeK s o j).pages.set s.waits[j].1 t := by
  have hlo : j < o.length := by omega
  have e : o[j] = t := by rw [← he, List.getD_eq_getElem?_getD, List.getElem?_eq_getElem hlo]; rfl
  rw [crashP_some s o j hlo hj (by rw [e]; exact ht), e]
theorem come_skip {s : St} {o : List ByteArray} {j : Nat} (hl : o.length = s.waits.length) (hj : j < s.waits.length) (he : o.getD j emptyB = emptyB) : comeK s o (j + 1) = comeK s o j := by
  have hlo : j < o.length := by omega
  have e : o[j] = emptyB := by rw [← he, List.getD_eq_getElem?_getD, List.getElem?_eq_getElem hlo]; rfl
  exact crashP_none s o j hlo (by rw [e]; exact emptyB_nil)
theorem rOut_kept {s : St} {ks : List Int} {torn a : Int} {j : Nat} (h : (j : Int) ∈ ks) : rOut s ks torn a j = textAt s j := if_pos h
theorem rOut_torn {s : St} {ks : List Int} {torn a : Int} {j : Nat} (h : (j : Int) ∉ ks) (h2 : (j : Int) = torn) : rOut s ks torn a j = tornB (textAt s j) a.toNat := by
  unfold rOut; rw [if_neg h, if_pos h2]
theorem rOut_none {s : St} {ks : List Int} {torn a : Int} {j : Nat} (h : (j : Int) ∉ ks) (h2 : ¬ (j : Int) = torn) : rOut s ks torn a j = emptyB := by
  unfold rOut; rw [if_neg h, if_neg h2]
end Go.Proofs.YtaonifdfhlbaiaaGreatDoor.Dk

/- What stands on a disk behind a crash in a Commit: all of its pages are scanned, or none. Plain. -/
namespace Go.Proofs.YtaonifdfhlbaiaaGreatDoor.Jn
open Go.RowKit
open Go.Lib (hid)
open Go.Proofs.YtaonifdfhlbaiaaGreatDoor.Dk
open Go.Proofs.YtaonifdfhlbaiaaGreatDoor.En (Lst entC encR mayE mayS PageT textS entB Rd)
open Go.Proofs.YtaonifdfhlbaiaaGreatDoor.Pg (sealL openL mayP headL lowL sumN tornL)
open Go.Proofs.YtaonifdfhlbaiaaGreatDoor.Sm (U sumB)
/-- the last byte ahead of the sum is none of the body's, if that is short -/
theorem seal_251 {k n : Nat} {b : List UInt8} (hb : b.length ≤ 243) : (sealL k n b)[251]? = some 0 := by
  have h1 := Pg.headL_length k n b (by omega)
  unfold sealL
  rw [List.getElem?_append_left (by omega)]
  unfold headL
  rw [List.getElem?_append_right (by simp [Fd.be_length]), Fd.be_length, List.getElem?_append_right (by simp [Fd.be_length]), Fd.be_length, List.getElem?_append_right (by simp [Fd.be_length]), Fd.be_length, List.getElem?_append_right (by simp [Fd.be_length]), Fd.be_length, List.getElem?_append_right (by omega)]
  simp [Pg.zs]
  rw [List.getElem?_replicate, if_pos (by omega)]
/-- a torn page that is whole all the same is as it was -/
theorem torn_seal {k n k' n' a : Nat} {b b' : List UInt8} (hb : b.length ≤ 244) (hb' : b'.length ≤ 243) (ha : a ≤ 256) (h : tornL (sealL k n b) a = sealL k' n' b') : tornL (sealL k n b) a = sealL k n b := by
  have hl := Pg.sealL_length k n b hb
  rcases Nat.lt_or_ge a 252 with h1 | h1
  · have h2 := seal_251 (k := k') (n := n') hb'
    rw [← h] at h2
    unfold tornL at h2
    rw [List.getElem?_append_right (by simp; omega), List.getElem?_replicate] at h2
    simp only [List.length_take] at h2
    split at h2
    · simp at h2
    · cases h2
  · have h2 := congrArg (List.take 252) h
    have h3 := congrArg (List.drop 252) h
    have h4 : (tornL (sealL k n b) a).take 252 = (sealL k n b).take 252 := by
      unfold tornL
      rw [List.take_append_of_le_length (by simp; omega), List.take_take, Nat.min_eq_left h1]
    rw [h4, Pg.seal_take k n b hb, Pg.seal_take k' n' b' (by omega)] at h2
    rw [Pg.seal_drop k' n' b' (by omega), ← h2, ← Pg.seal_drop k n b hb] at h3
    rw [← List.take_append_drop 252 (tornL (sealL k n b) a), h3, h4, List.take_append_drop]
/-- an entry's bytes are fewer -/
theorem enc_short {kd tx ix pk pn : Int} {b : ByteArray} {ct sm : Int} (_ : 0 ≤ sm) (h : mayE kd tx ix pk pn b ct sm) : (encR kd tx ix pk pn b ct sm).1.size ≤ 243 := by
  rw [En.encR_yes h]
  have hb : b.data.toList.length = b.size := by simp
  show (En.encE _ _ _ _ _ _ _ _).toArray.size ≤ 243
  rw [List.size_toArray]
  obtain ⟨_, _, _, _, hr⟩ := h
  rcases hr with ⟨rfl, h2, -⟩ | ⟨rfl, -⟩ | ⟨rfl, -⟩
  · have := h2.2.2.2.2.2
    simp [En.encE, En.headE_length, Fd.be_length]; omega
  · simp [En.encE, En.headE_length, Fd.be_length]
  · simp [En.encE, En.headE_length]
theorem isJ_seal {u : ByteArray} {m i t : Nat} {kd pk pn : Int} {bo : ByteArray} {ct sm : Int} (h : IsJ u m i t kd pk pn bo ct sm) : ∃ S : List UInt8, S.length ≤ 243 ∧ u.data.toList = sealL 5 m S := by
  obtain ⟨S, h1, h2, _, h4, h5⟩ := h
  have hz := enc_short h2 h4
  rw [h5] at hz
  refine ⟨S.data.toList, by simpa using hz, ?_⟩
  obtain ⟨_, h6 | ⟨k', n', b', hm, hl, ho⟩⟩ := Pg.open_back u.data.toList (by rw [h1])
  · rw [h6.2] at h1; cases h1
  · rw [ho] at h1
    injection h1 with e1 h1; injection h1 with e2 h1; injection h1 with e3 _
    subst e1 e2 e3
    exact hl.symm
theorem isJ_torn {v : ByteArray} {a m m' i t : Nat} {S : List UInt8} (hv : v.data.toList = sealL 5 m S) (hS : S.length ≤ 244) (ha : a ≤ 256) {kd pk pn : Int} {bo : ByteArray} {ct sm : Int} (h : IsJ (tornB v a) m' i t kd pk pn bo ct sm) : tornB v a = v := by
  obtain ⟨S', h1, h2⟩ := isJ_seal h
  apply text_inj
  show (tornL v.data.toList a).toArray.toList = _
  have h3 : (tornB v a).data.toList = tornL v.data.toList a := List.toList_toArray
  rw [List.toList_toArray, hv]
  rw [h3, hv] at h2
  exact torn_seal hS h1 ha h2
/-- with what each write comes -/
theorem come_out {s : St} (h : Dk.Good s) {ks : List Int} {torn a : Int} {o : List ByteArray} (hc : comeS s ks torn a = some o) : o.length = s.waits.length ∧ ∀ j, j < s.waits.length → o.getD j emptyB = emptyB ∨ o.getD j emptyB = textAt s j ∨ ∃ x ≤ 256, o.getD j emptyB = tornB (textAt s j) x := by
  unfold comeS at hc
  cases he : keepL s ks (none0 s) with
  | none => rw [he] at hc; cases hc
  | some o1 =>
    rw [he] at hc
    have hval := keep_valid h ks o1 he ks.length (Nat.le_refl _)
    obtain ⟨o', h1, h2⟩ := keep_ok h ks ks.length (Nat.le_refl _) hval
    rw [List.take_length, he] at h1
    injection h1 with h1
    subst h1
    have base : ∀ j, j < s.waits.length → o1.getD j emptyB = emptyB ∨ o1.getD j emptyB = textAt s j := fun j hj => by
      rw [h2.2 j hj]; split
      · exact .inr rfl
      · exact .inl rfl
    simp only at hc
    by_cases ht : torn = -1
    · rw [if_pos ht] at hc
      injection hc with hc; subst hc
      exact ⟨h2.1, fun j hj => (base j hj).imp id .inl⟩
    · rw [if_neg ht] at hc
      by_cases hf : freeB o1 torn = true
      · rw [if_pos hf] at hc
        by_cases ha : 0 ≤ a ∧ a ≤ 256
        · rw [if_pos ha] at hc
          injection hc with hc; subst hc
          refine ⟨by rw [List.length_set]; exact h2.1, fun j hj => ?_⟩
          by_cases e : j = torn.toNat
          · subst e
            refine .inr (.inr ⟨a.toNat, by omega, ?_⟩)
            rw [List.getD_eq_getElem?_getD, List.getElem?_set_self (by rw [h2.1]; exact hj)]; rfl
          · rw [List.getD_eq_getElem?_getD, List.getElem?_set_ne (Ne.symm e), ← List.getD_eq_getElem?_getD]
            exact (base j hj).imp id .inl
        · rw [if_neg ha] at hc; cases hc
      · rw [if_neg hf] at hc; cases hc
theorem crashP_at (s : St) (o : List ByteArray) (j : Nat) : ∀ k, k ≤ s.waits.length → (crashP s o k).getD j emptyB = s.pages.getD j emptyB ∨ ∃ i, ∃ h : i < s.waits.length, (s.waits[i]'h).1 = j ∧ (crashP s o k).getD j emptyB = o.getD i emptyB ∧ (o.getD i emptyB).toList.isEmpty = false
  | 0, _ => .inl rfl
  | k + 1, hk => by
    unfold crashP
    have ih := crashP_at s o j k (by omega)
    by_cases he : (o.getD k emptyB).toList.isEmpty = true
    · rw [if_pos he]; exact ih
    · rw [if_neg he]
      have hw : (s.waits.getD k (0, emptyB)) = s.waits[k]'(by omega) := by rw [List.getD_eq_getElem?_getD, List.getElem?_eq_getElem (by omega)]; rfl
      rw [hw]
      by_cases e : (s.waits[k]'(by omega)).1 = j
      · by_cases hl : j < (crashP s o k).length
        · refine .inr ⟨k, by omega, e, ?_, by simpa using he⟩
          rw [e, List.getD_eq_getElem?_getD, List.getElem?_set_self hl]; rfl
        · left
          rw [List.getD_eq_getElem?_getD, List.getElem?_eq_none (by rw [List.length_set]; omega), List.getD_eq_getElem?_getD, List.getElem?_eq_none (by rw [crashP_length] at hl; omega)]
      · rw [List.getD_eq_getElem?_getD, List.getElem?_set_ne e, ← List.getD_eq_getElem?_getD]; exact ih
/-- the disk's pages, and what waits: of the new ones -/
structure Wt (s : St) (OLD NEW : Nat → ByteArray) : Prop where
  old : ∀ j, s.pages.getD j emptyB = OLD j
  wait : ∀ x ∈ s.waits, x.2 = NEW x.1
theorem Wt.wr {s : St} {OLD NEW : Nat → ByteArray} (h : Wt s OLD NEW) (m : Nat) : Wt (wrU s (m : Int) (NEW m)).2 OLD NEW := by
  unfold wrU
  split
  · refine ⟨h.old, fun x hx => ?_⟩
    have hx : x ∈ s.waits ++ [((m : Int).toNat, NEW m)] := hx
    rcases List.mem_append.1 hx with e | e
    · exact h.wait x e
    · rw [List.mem_singleton.1 e, Int.toNat_natCast]
  · exact h
theorem crash_vw (s : St) (o : List ByteArray) : vw (crashS s o) = fun j => (crashP s o s.waits.length).getD j emptyB := rfl
theorem Wt.crash {s : St} {OLD NEW : Nat → ByteArray} (hg : Dk.Good s) (h : Wt s OLD NEW) {ks : List Int} {torn a : Int} {o : List ByteArray} (hc : comeS s ks torn a = some o) (j : Nat) : vw (crashS s o) j = OLD j ∨ vw (crashS s o) j = NEW j ∨ ∃ x ≤ 256, vw (crashS s o) j = tornB (NEW j) x := by
  obtain ⟨hl, ho⟩ := come_out hg hc
  rw [crash_vw]
  rcases crashP_at s o j s.waits.length (Nat.le_refl _) with e | ⟨i, hi, e1, e2, e3⟩
  · exact .inl (e.trans (h.old j))
  · have ht : textAt s i = NEW j := by rw [textAt_of s i hi, h.wait _ (List.getElem_mem hi), e1]
    have h4 := ho i hi
    rw [ht] at h4
    show _ ∨ _ ∨ _
    rcases h4 with h4 | h4 | ⟨x, hx, h4⟩
    · rw [h4, emptyB_nil] at e3; cases e3
    · exact .inr (.inl (e2.trans h4))
    · exact .inr (.inr ⟨x, hx, e2.trans h4⟩)
/-- of a crash's pages all are scanned, or none -/
theorem scan_mixed {V OLD NEW : Nat → ByteArray} {b n t : Nat} (ok : JOk b n t) {L : List PageT} (h0 : 0 < L.length) (hs : AllS L) (hl : L.length < n) (hnew : ∀ i, i < L.length → NEW (b + i) = stg b t L i) (hcm : NEW (b + L.length) = cmt b t L)
    (hv : ∀ j, V j = OLD j ∨ V j = NEW j ∨ ∃ x ≤ 256, V j = tornB (NEW j) x) (hold : ∀ j i kd pk pn bo ct sm, ¬ IsJ (OLD j) j i t kd pk pn bo ct sm) {r : Option (List PageT)} (hr : Scans V b n t 0 [] r) : r = none ∨ r = some L := by
  have hsl : ∀ i, i ≤ L.length → ∃ S : List UInt8, S.length ≤ 244 ∧ (NEW (b + i)).data.toList = sealL 5 (b + i) S := fun i hi => by
    rcases Nat.lt_or_ge i L.length with h | h
    · rw [hnew i h, stg_at h]
      have hz := enc_short (by decide) (may1 t i ok.t1 ok.t2 (by have := ok.n9; omega) (hs i h))
      exact ⟨_, by simpa using Nat.le_succ_of_le hz, List.toList_toArray⟩
    · obtain rfl : i = L.length := by omega
      rw [hcm]
      have hz := enc_short (U_fit (sumB (textS L L.length))).1 (may2 t L.length _ ok.t1 ok.t2 (by have := ok.n9; omega) h0)
      exact ⟨_, by simpa using Nat.le_succ_of_le hz, List.toList_toArray⟩
  have hmust : ∀ i, i ≤ L.length → ∀ kd pk pn bo ct sm, IsJ (V (b + i)) (b + i) i t kd pk pn bo ct sm → V (b + i) = NEW (b + i) := fun i hi kd pk pn bo ct sm hj => by
    rcases hv (b + i) with h | h | ⟨x, hx, h⟩
    · rw [h] at hj; exact absurd hj (hold _ _ _ _ _ _ _ _)
    · exact h
    · obtain ⟨S, g1, g2⟩ := hsl i hi
      rw [h] at hj
      exact h.trans (isJ_torn g2 g1 hx hj)
  have hsg : ∀ i (h : i < L.length), IsJ (NEW (b + i)) (b + i) i t 1 L[i].1 L[i].2.1 L[i].2.2 0 0 := fun i h => by
    rw [hnew i h, stg_at h]
    exact isJ_pgJ (by decide) (by decide) (may1 t i ok.t1 ok.t2 (by have := ok.n9; omega) (hs i h)) (by have := ok.bn; omega)
  have hct : IsJ (NEW (b + L.length)) (b + L.length) L.length t 2 0 0 ⟨#[]⟩ (L.length : Nat) (U (sumB (textS L L.length))) := by
    rw [hcm]
    exact isJ_pgJ (U_fit _).1 (U_fit _).2 (may2 t L.length _ ok.t1 ok.t2 (by have := ok.n9; omega) h0) (by have := ok.bn; omega)
  have all : ∀ i acc r, Scans V b n t i acc r → i ≤ L.length → acc = L.take i → r = none ∨ r = some L := by
    intro i acc r h
    induction h with
    | stop _ => exact fun _ _ => .inl rfl
    | no _ _ => exact fun _ _ => .inl rfl
    | other _ _ _ _ => exact fun _ _ => .inl rfl
    | @page i acc pk pn bo ct sm r h hj _ ih =>
      intro hi hacc
      have hV := hmust i hi _ _ _ _ _ _ hj
      rw [hV] at hj
      rcases Nat.lt_or_ge i L.length with h2 | h2
      · obtain ⟨-, -, -, rfl, rfl, rfl, -, -⟩ := isJ_same hj (hsg i h2)
        refine ih (by omega) ?_
        rw [hacc, List.take_succ_eq_append_getElem h2]
      · obtain rfl : i = L.length := by omega
        exact absurd (isJ_same hj hct).1 (by decide)
    | @done i acc kd pk pn bo ct sm h hj hk he =>
      intro hi hacc
      have hV := hmust i hi _ _ _ _ _ _ hj
      rw [hV] at hj
      rcases Nat.lt_or_ge i L.length with h2 | h2
      · exact absurd (isJ_same hj (hsg i h2)).1 hk
      · obtain rfl : i = L.length := by omega
        rw [hacc, List.take_length]; exact .inr rfl
  exact all 0 [] r hr (Nat.zero_le _) rfl
end Go.Proofs.YtaonifdfhlbaiaaGreatDoor.Jn
