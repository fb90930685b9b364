/- Window of the reference's atlas. -/
import Derived.Test.YtmniaaledplhfaaAtRef
import Derived.Test.YtmniaaledplhfaaAtWin
namespace Go.Proofs.Ytmniaaledplhfaa.At
open Go.RowKit
open Go.Lib (hid)
open Go.Proofs.Ytmniaaledplhfaa.Ky Go.Proofs.Ytmniaaledplhfaa.Bk Go.Proofs.Ytmniaaledplhfaa.Pt

set_option maxRecDepth 100000 in
set_option maxHeartbeats 8000000 in
theorem rwindow_ok {N b : Nat} {X : Nat → Prop} {v : Value} {d : Int} {K : List Rec} (lo hi : List Nat) (q r : Option Addr) (c' c'' : Nat) (w : World) (h : Ra N w X b v d K) (hlo : Pt w q lo) (hhi : Pt w r hi) (hr : boxB lo hi d = true) :
    Calls Try.prog 19 #[.pointer (some ⟨b, 0, none⟩), .agg #[.slice q lo.length c', .slice r hi.length c'']] w fun e w' => ∃ p' c2, e = .returned (.tuple #[.slice p' (winR (sortR K) lo hi).length c2, .int .i64 0]) ∧ Rs (fun _ => False) w' p' (winR (sortR K) lo hi) ∧ Below w.heap.size w w' := by
  have hl6 := boxB_fit hr
  have HC := hid fun (w' : World) (hb : Below w.heap.size w w') => refCheckBox_ok lo hi q r c' c'' d w' (hlo.below hb) (hhi.below hb) (by omega)
  rw [hr, err_true true rfl] at HC
  have HALL := hid fun (w' : World) (hb : Below w.heap.size w w') => rall_ok w' (h.next hb)
  obtain ⟨V, hV⟩ : ∃ V, w.alloc (.cells #[.slice q lo.length c', .slice r hi.length c''] 35 (0, 0)) = V := ⟨_, rfl⟩
  have HB := hid (show Below w.heap.size w V by rw [← hV]; exact below_alloc w _)
  have HA := hid (show V.heap[w.heap.size]? = some (.cells #[.slice q lo.length c', .slice r hi.length c''] 35 (0, 0)) by rw [← hV]; exact heap_alloc_new w _)
  have HST := hid fun (w' : World) (hb : Below V.heap.size V w') => (show (w'.cell? ⟨w.heap.size, 0, none⟩ = some (.slice q lo.length c') ∧ w'.cell? ⟨w.heap.size, 1, none⟩ = some (.slice r hi.length c'')) ∧ w'.cell? ⟨b, 0, none⟩ = some (.int .i64 d) from by
    have h1 := (h.next (HB.out.trans (hb.mono HB.out.size))).cells
    have h2 := two_cells ((hb.block w.heap.size (Array.getElem?_eq_some_iff.1 HA.out).1).trans HA.out)
    exact ⟨⟨h2.1, h2.2.1⟩, h1.1⟩)
  have HIN := hid fun (k : List Nat) (pk : Option Addr) (ck : Nat) (w' : World) (hb : Below w.heap.size w w') (hk : Pt w' pk k) (hkl : k.length ≤ 9223372036854775807) => refIn_ok k lo hi pk q r ck c' c'' w' hk (hlo.below hb) (hhi.below hb) hkl
  have HLM := hid (show (sortR K).length ≤ 1000 by rw [sort_len]; exact h.big.1)
  have HBIG := hid (show ∀ x ∈ sortR K, x.1.length ≤ 1000 from fun x hx => (h.big.2 x (sort_mem hx)).1)
  have HV0 := hid (Below.refl V.heap.size V).drew
  have HVL := hid (show V.heap.size = w.heap.size + 1 by rw [← hV]; simp)
  obtain ⟨⟨a1, a2⟩, a3⟩ := HST.out _ (Below.refl _ _)
  clear hr hlo hhi h
  go_enter Try.func19, Try.ntmps19
  go_wp2_with fail
  go_region_held3 (fun w' => (w'.cell? ⟨w.heap.size, 0, none⟩ = some (.slice q lo.length c') ∧ w'.cell? ⟨w.heap.size, 1, none⟩ = some (.slice r hi.length c'')) ∧ w'.cell? ⟨b, 0, none⟩ = some (.int .i64 d)) (first | exact ⟨⟨a1, a2⟩, a3⟩ | exact x4 | go_keep)
    (first
      | (go_at_call 38; refine (HC.out _ HB.out.drew).mono ?_; rintro e w4 ⟨rfl, hb⟩; have HV4 := hid (HV0.out.trans (hb.mono HV0.out.size)); have x4 := HST.out _ HV4.out; clear hb)
      | fail)
  clear a1 a2 a3 x4 HV0 hV HC
  go_wp2_with fail
  refine (HALL.out _ (HB.out.trans (HV4.out.mono HB.out.size))).mono ?_
  rintro e w6 ⟨p6, c6, rfl, hr6, hb6⟩
  have HR6 := hid hr6
  have HV6 := hid (HV4.out.trans (hb6.mono HV4.out.size))
  clear hr6 hb6 HALL HV4
  generalize hM : sortR K = M at HLM HBIG HR6
  have HMM := hid hM
  clear hM
  have HRG := hid (Rs.old HR6.out)
  have hlen := HLM.out
  go_wp2_with fail
  go_loopw [7, 8] (fun vi i wr => ∃ (j : Nat) (xs : List Value), j ≤ M.length ∧ i = .int .i64 j ∧ Below w6.heap.size w6 wr ∧ wr.ownsRow w6.heap.size 33 2 vi (winR (M.take j) lo hi).length xs ∧ RC (fun b => vi.ownBlock = some b ∨ b < 0) wr xs (winR (M.take j) lo hi)) (fun _ i _ => M.length - (intOf i).toNat)
  case atStart => exact ⟨0, [], by omega, rfl, Below.refl _ _, World.ownsRow_nil _ _ _ _, RC.nil⟩
  case round =>
    obtain ⟨j, xs, hj, rfl, hb, ho, hrc⟩ := hrel
    have HB6 := hid hb; have HO := hid (show Out1 0 w6.heap.size wr u7 (winR (M.take j) lo hi) xs from ⟨ho, hrc⟩); clear hb ho hrc
    have HBV := hid (HV6.out.trans (HB6.out.mono HV6.out.size))
    obtain ⟨⟨a1, a2⟩, _⟩ := HST.out _ HBV.out
    by_cases hlt : j < M.length
    · obtain ⟨g, off, q1, c1, hpe, hgl, d1, d2, hq1⟩ := (HRG.out.keep (keep_ge HB6.out)).at j hlt
      subst hpe
      have hbig := HBIG.out _ (List.getElem_mem hlt)
      have HSN := hid (winR_snoc M lo hi j hlt)
      have hwl := winR_len M lo hi j
      obtain ⟨k, hk⟩ : ∃ k, M[j].1 = k := ⟨_, rfl⟩
      obtain ⟨t, ht⟩ : ∃ t, M[j].2 = t := ⟨_, rfl⟩
      have hrec : M[j] = (k, t) := Prod.ext hk ht
      rw [hrec] at HSN
      rw [hk] at hq1 d1 hbig
      rw [ht] at d2
      have HQ1 := hid hq1
      have HI := hid fun (w' : World) (hb : Below wr.heap.size wr w') => HIN.out k q1 c1 w' (HB.out.trans ((HBV.out.trans (hb.mono HBV.out.size)).mono HB.out.size)) (HQ1.out.pt.below hb) (by omega)
      have HD := hid fun (w' : World) (hb : Below wr.heap.size wr w') => (show (w'.cell? ⟨w.heap.size, 0, none⟩ = some (.slice q lo.length c') ∧ w'.cell? ⟨w.heap.size, 1, none⟩ = some (.slice r hi.length c'')) ∧ w'.cell? ⟨g, off + j * 2, none⟩ = some (.slice q1 k.length c1) ∧ w'.cell? ⟨g, off + j * 2 + 1, none⟩ = some (.string t) from
        ⟨(HST.out _ (HBV.out.trans (hb.mono HBV.out.size))).1, (hb.cell (p := ⟨g, _, none⟩) hgl).trans d1, (hb.cell (p := ⟨g, _, none⟩) hgl).trans d2⟩)
      have z1 : (0 : Int) ≤ (j : Int) := by omega
      have z2 : (j : Int) < (M.length : Int) := by omega
      clear hk ht hrec hq1
      cases hin : inB k lo hi with
      | true =>
        rw [hin] at HI
        have HNX := hid (show winR (M.take (j + 1)) lo hi = winR (M.take j) lo hi ++ [(k, t)] by rw [HSN.out]; simp [hin])
        clear hin HSN
        go_wp2_with fail
        go_region_held3 (fun w' => (w'.cell? ⟨w.heap.size, 0, none⟩ = some (.slice q lo.length c') ∧ w'.cell? ⟨w.heap.size, 1, none⟩ = some (.slice r hi.length c'')) ∧ w'.cell? ⟨g, off + j * 2, none⟩ = some (.slice q1 k.length c1) ∧ w'.cell? ⟨g, off + j * 2 + 1, none⟩ = some (.string t)) (first | exact ⟨⟨a1, a2⟩, d1, d2⟩ | exact x5 | go_keep)
          (first
            | (go_at_call 39; refine (HI.out _ (Below.refl _ _).drew).mono ?_; rintro e w5 ⟨rfl, hb⟩; have H5 := hid ((show Below wr.heap.size wr wr.drew from (Below.refl _ _).drew).trans hb); have x5 := HD.out _ H5.out; clear hb)
            | fail)
        clear a1 a2 d1 d2
        obtain ⟨_, d1, d2⟩ := x5
        have HO5 := hid (own_keep HO.out.own (fun g hg => H5.out.block g (HO.out.own.lt g hg).2))
        have HS5 := hid (HB6.out.trans (H5.out.mono HB6.out.size))
        have HW := hid (HBV.out.trans (H5.out.mono HBV.out.size))
        have HQ5 := hid (HQ1.out.keep (.below (H5.out.trans ((below_alloc w5 (.cells #[.slice q1 k.length c1, .string t] 33 (0, 0))).mono H5.out.size))))
        have HLN : Hid ((winR (M.take (j + 1)) lo hi).length = (winR (M.take j) lo hi).length + 1) := hid (by rw [HNX.out]; simp)
        have HON := hid fun (v' : Value) (w7 : World) (hF : Owns (w5.alloc (.cells #[.slice q1 k.length c1, .string t] 33 (0, 0))) w6.heap.size 33 2 u7 ((winR (M.take j) lo hi).length + 1) (xs ++ [.slice q1 k.length c1, .string t]) v' w7) => HO.out.add (H5.out.trans ((below_alloc w5 _).mono H5.out.size)) (RC.one (c := c1) (t := t) (HQ5.out.less fun b hb h => h.elim (fun h => (HO.out.own.lt b h).1) (fun h => absurd h (by omega)))) hF
        have HAP := hid (rec_own (w := w5.alloc (.cells #[.slice q1 k.length c1, .string t] 33 (0, 0))) 40 u7 (winR (M.take j) lo hi).length xs (own_keep HO5.out (fun g hg => (below_alloc w5 _).block g (HO5.out.lt g hg).2)) (some ⟨w5.heap.size, 0, none⟩) 1 1 [.slice q1 k.length c1, .string t] (read_new w5 _ _ _) rfl (one_two _ _ rfl rfl) (by omega) (by have := HS5.out.size; simp; omega))
        generalize (winR (M.take j) lo hi).length = n at HAP hwl HLN HON
        go_wp2_with (at_builtin; refine wpList_app rfl _ _ _ rfl rfl rfl HAP.out ?_)
        intro v' w7 hF
        have HN7 := hid (HON.out v' w7 hF)
        have HB7 := hid (show Below w6.heap.size w6 w7 from (HS5.out.alloc HS5.out.size _).grown hF.2.1 (by have := HS5.out.size; simp; omega) (fun g hg => (HO5.out.lt g hg).1))
        clear hF HAP HON HO5
        go_wp2_with fail
        go_roundw
        case rel => exact ⟨j + 1, _, by omega, by go_num, HB7.out, by rw [HNX.out]; exact HN7.out.own, by rw [HNX.out]; exact HN7.out.rc⟩
        case measure => simp [intOf]; omega
      | false =>
        rw [hin] at HI
        have HNX := hid (show winR (M.take (j + 1)) lo hi = winR (M.take j) lo hi by rw [HSN.out]; simp [hin])
        clear hin HSN
        go_wp2_with fail
        go_region_held3 (fun w' => (w'.cell? ⟨w.heap.size, 0, none⟩ = some (.slice q lo.length c') ∧ w'.cell? ⟨w.heap.size, 1, none⟩ = some (.slice r hi.length c'')) ∧ w'.cell? ⟨g, off + j * 2, none⟩ = some (.slice q1 k.length c1) ∧ w'.cell? ⟨g, off + j * 2 + 1, none⟩ = some (.string t)) (first | exact ⟨⟨a1, a2⟩, d1, d2⟩ | exact x5 | go_keep)
          (first
            | (go_at_call 39; refine (HI.out _ (Below.refl _ _).drew).mono ?_; rintro e w5 ⟨rfl, hb⟩; have H5 := hid ((show Below wr.heap.size wr wr.drew from (Below.refl _ _).drew).trans hb); have x5 := HD.out _ H5.out; clear hb)
            | fail)
        clear a1 a2 d1 d2 x5
        have HO5 := hid (own_keep HO.out.own (fun g hg => H5.out.block g (HO.out.own.lt g hg).2))
        have HR5 := hid (HO.out.rc.below H5.out)
        go_wp2_with fail
        go_roundw
        case rel => exact ⟨j + 1, xs, by omega, by go_num, HB6.out.trans (H5.out.mono HB6.out.size), by rw [HNX.out]; exact HO5.out, by rw [HNX.out]; exact HR5.out⟩
        case measure => simp [intOf]; omega
    · obtain rfl : j = M.length := by omega
      have HE := hid (HB.out.trans (HBV.out.mono HB.out.size))
      rw [List.take_length] at HO
      obtain ⟨p', c2, rfl, _, hrs⟩ := HO.out.open (Nat.zero_le _)
      have HFR := hid (hrs.less (D' := fun _ => False) fun b _ h => h.elim)
      clear hrs HO a1 a2 hlt hj
      have hM := HMM.out
      subst hM
      go_wp2_with fail
      go_ret2
      first | exact ⟨p', ⟨c2, rfl⟩, HFR.out, HE.out⟩ | exact ⟨p', c2, rfl, HFR.out, HE.out⟩
set_option maxHeartbeats 4000000 in
theorem rwindow_bad {N b : Nat} {X : Nat → Prop} {v : Value} {d : Int} {K : List Rec} (lo hi : List Nat) (q r : Option Addr) (c' c'' : Nat) (w : World) (h : Ra N w X b v d K) (hlo : Pt w q lo) (hhi : Pt w r hi) (hll : lo.length ≤ 9223372036854775807) (hr : boxB lo hi d = false) :
    Calls Try.prog 19 #[.pointer (some ⟨b, 0, none⟩), .agg #[.slice q lo.length c', .slice r hi.length c'']] w fun e w' => e = .returned (.tuple #[.slice none 0 0, .int .i64 1]) ∧ Below w.heap.size w w' := by
  have HC := hid fun (w' : World) (hb : Below w.heap.size w w') => refCheckBox_ok lo hi q r c' c'' d w' (hlo.below hb) (hhi.below hb) hll
  rw [hr, err_false false rfl] at HC
  obtain ⟨V, hV⟩ : ∃ V, w.alloc (.cells #[.slice q lo.length c', .slice r hi.length c''] 35 (0, 0)) = V := ⟨_, rfl⟩
  have HB := hid (show Below w.heap.size w V by rw [← hV]; exact below_alloc w _)
  have HA := hid (show V.heap[w.heap.size]? = some (.cells #[.slice q lo.length c', .slice r hi.length c''] 35 (0, 0)) by rw [← hV]; exact heap_alloc_new w _)
  have HST := hid fun (w' : World) (hb : Below V.heap.size V w') => (show (w'.cell? ⟨w.heap.size, 0, none⟩ = some (.slice q lo.length c') ∧ w'.cell? ⟨w.heap.size, 1, none⟩ = some (.slice r hi.length c'')) ∧ w'.cell? ⟨b, 0, none⟩ = some (.int .i64 d) from by
    have h1 := (h.next (HB.out.trans (hb.mono HB.out.size))).cells
    have h2 := two_cells ((hb.block w.heap.size (Array.getElem?_eq_some_iff.1 HA.out).1).trans HA.out)
    exact ⟨⟨h2.1, h2.2.1⟩, h1.1⟩)
  have HV0 := hid (Below.refl V.heap.size V).drew
  obtain ⟨⟨a1, a2⟩, a3⟩ := HST.out _ (Below.refl _ _)
  clear hr hlo hhi h
  go_enter Try.func19, Try.ntmps19
  go_wp2_with fail
  go_region_held3 (fun w' => (w'.cell? ⟨w.heap.size, 0, none⟩ = some (.slice q lo.length c') ∧ w'.cell? ⟨w.heap.size, 1, none⟩ = some (.slice r hi.length c'')) ∧ w'.cell? ⟨b, 0, none⟩ = some (.int .i64 d)) (first | exact ⟨⟨a1, a2⟩, a3⟩ | exact x4 | go_keep)
    (first
      | (go_at_call 38; refine (HC.out _ HB.out.drew).mono ?_; rintro e w4 ⟨rfl, hb⟩; have HV4 := hid (HV0.out.trans (hb.mono HV0.out.size)); have x4 := HST.out _ HV4.out; clear hb)
      | fail)
  clear a1 a2 a3 x4 HV0 hV HC
  go_wp2_with fail
  go_ret2
  exact ⟨rfl, HB.out.trans (HV4.out.mono HB.out.size)⟩
end Go.Proofs.Ytmniaaledplhfaa.At
