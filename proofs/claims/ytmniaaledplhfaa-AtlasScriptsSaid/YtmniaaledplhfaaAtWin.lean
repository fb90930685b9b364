/- Window and Count of an atlas. -/
import Derived.Test.YtmniaaledplhfaaAtDel
namespace Go.Proofs.Ytmniaaledplhfaa.At
open Go.RowKit
open Go.Lib (hid)
open Go.Proofs.Ytmniaaledplhfaa.Ky Go.Proofs.Ytmniaaledplhfaa.Bk

/-- the records of a window -/
def winR (L : List Rec) (lo hi : List Nat) : List Rec := L.filter fun r => inB r.1 lo hi
theorem winR_snoc (L : List Rec) (lo hi : List Nat) (j : Nat) (hj : j < L.length) : winR (L.take (j + 1)) lo hi = winR (L.take j) lo hi ++ (if inB L[j].1 lo hi = true then [L[j]] else []) := by
  unfold winR
  rw [List.take_succ_eq_append_getElem hj, List.filter_append]
  congr 1
  simp only [List.filter_cons, List.filter_nil]
theorem winR_len (L : List Rec) (lo hi : List Nat) (j : Nat) : (winR (L.take j) lo hi).length ≤ L.length := by
  unfold winR
  exact Nat.le_trans (List.length_filter_le _ _) (by rw [List.length_take]; omega)
theorem winR_big {L : List Rec} (h : bigR L) (lo hi : List Nat) : bigR (winR L lo hi) := ⟨Nat.le_trans (List.length_filter_le _ _) h.1, fun r hr => h.2 r (List.mem_filter.1 hr).1⟩
theorem PtD.old {D : Nat → Prop} {w : World} {p : Option Addr} {l : List Nat} (h : PtD D w p l) : PtD (Ge w.heap.size) w p l := ⟨fun j hj => by
  obtain ⟨b, off, h1, h2, _, h3⟩ := h.cells j hj
  exact ⟨b, off, h1, h2, fun (hb : w.heap.size ≤ b) => by omega, h3⟩, h.fit⟩
theorem Rs.old {D : Nat → Prop} {w : World} {p : Option Addr} {L : List Rec} (h : Rs D w p L) : Rs (Ge w.heap.size) w p L := by
  obtain ⟨xs, h1, h2⟩ := h
  refine ⟨xs, ⟨h1.1, fun j hj => ?_⟩, fun j u hj => ?_⟩
  · obtain ⟨q, c, g1, g2, g3⟩ := h1.2 j hj
    exact ⟨q, c, g1, g2, PtD.old g3⟩
  · obtain ⟨b, off, g1, g2, _, g4⟩ := h2 j u hj
    exact ⟨b, off, g1, g2, fun (hb : w.heap.size ≤ b) => by omega, g4⟩
theorem keep_ge {w w' : World} (hb : Below w.heap.size w w') : Keep (Ge w.heap.size) w w' := ⟨hb.size, fun k hk _ => hb.block k hk⟩
theorem boxB_fit {lo hi : List Nat} {d : Int} (h : boxB lo hi d = true) : lo.length ≤ 6 := by
  unfold boxB checkB mayB at h
  simp at h
  omega
set_option maxRecDepth 100000 in
set_option maxHeartbeats 1000000 in
theorem within_bad (lo hi : List Nat) (q r : Option Addr) (c' c'' : Nat) (d : Int) (P : Option Addr) (w : World) (hd : ∀ w', Below w.heap.size w w' → Calls Try.prog 29 #[.pointer P] w' fun e w2 => e = .returned (.int .i64 d) ∧ w' = w2) (hlo : Pt w q lo) (hhi : Pt w r hi) (hl : lo.length ≤ 9223372036854775807) (hr : boxB lo hi d = false) :
    Calls Try.prog 37 #[.pointer P, .agg #[.slice q lo.length c', .slice r hi.length c'']] w fun e w' => e = .returned (.tuple #[.slice none 0 0, .int .i64 1]) ∧ Below w.heap.size w w' := by
  have HC := hid fun (w' : World) (hb : Below w.heap.size w w') => checkBox_ok lo hi q r c' c'' d w' (hlo.below hb) (hhi.below hb) hl
  rw [hr, err_false false rfl] at HC
  have HB := hid (below_alloc w (.cells #[.slice q lo.length c', .slice r hi.length c''] 35)).drew
  have HA := hid (two_cells (heap_alloc_new w (.cells #[.slice q lo.length c', .slice r hi.length c''] 35)))
  have HD := hid hd
  clear hd hr hlo hhi
  go_enter Try.func37, Try.ntmps37
  go_wp2_with fail
  have a1 := HA.out.1
  have a2 := HA.out.2.1
  go_region_held3 (fun w' => w'.cell? ⟨w.heap.size, 0, none⟩ = some (.slice q lo.length c') ∧ w'.cell? ⟨w.heap.size, 1, none⟩ = some (.slice r hi.length c'')) (first | exact ⟨a1, a2⟩ | exact x4 | go_keep)
    (first
      | (go_at_call 29; refine (HD.out _ HB.out).mono ?_; rintro e w' ⟨rfl, rfl⟩)
      | (go_at_call 50; refine (HC.out _ HB.out).mono ?_; rintro e w4 ⟨rfl, hb⟩; have H2 := hid (HB.out.trans (hb.mono HB.out.size)); have x4 := two_cells ((hb.block w.heap.size (by simp)).trans (heap_alloc_new w (.cells #[.slice q lo.length c', .slice r hi.length c''] 35))); replace x4 := And.intro x4.1 x4.2.1; clear hb)
      | fail)
  go_wp2_with fail
  go_ret2
  exact ⟨rfl, H2.out⟩
set_option maxRecDepth 100000 in
set_option maxHeartbeats 4000000 in
theorem within_ok {N b : Nat} {X : Nat → Prop} {v : Value} {d : Int} {L : List Rec} (lo hi : List Nat) (q r : Option Addr) (c' c'' : Nat) (w : World) (h : Atl N w X b v d L) (hlo : Pt w q lo) (hhi : Pt w r hi) (hr : boxB lo hi d = true) :
    Calls Try.prog 37 #[.pointer (some ⟨b, 0, none⟩), .agg #[.slice q lo.length c', .slice r hi.length c'']] w fun e w' => ∃ p' c2, e = .returned (.tuple #[.slice p' (winR L lo hi).length c2, .int .i64 0]) ∧ Rs (fun _ => False) w' p' (winR L lo hi) ∧ Below w.heap.size w w' := by
  have hl6 := boxB_fit hr
  have HC := hid fun (w' : World) (hb : Below w.heap.size w w') => checkBox_ok lo hi q r c' c'' d w' (hlo.below hb) (hhi.below hb) (by omega)
  rw [hr, err_true true rfl] at HC
  obtain ⟨p, c, rfl, hlc, hcm⟩ := h.form
  obtain ⟨V, hV⟩ : ∃ V, w.alloc (.cells #[.slice q lo.length c', .slice r hi.length c''] 35 (0, 0)) = V := ⟨_, rfl⟩
  have HB := hid (show Below w.heap.size w V by rw [← hV]; exact below_alloc w _)
  have HA := hid (show V.heap[w.heap.size]? = some (.cells #[.slice q lo.length c', .slice r hi.length c''] 35 (0, 0)) by rw [← hV]; exact heap_alloc_new w _)
  have HST := hid fun (w' : World) (hb : Below V.heap.size V w') => (show (w'.cell? ⟨w.heap.size, 0, none⟩ = some (.slice q lo.length c') ∧ w'.cell? ⟨w.heap.size, 1, none⟩ = some (.slice r hi.length c'')) ∧ w'.cell? ⟨b, 0, none⟩ = some (.int .i64 d) ∧ w'.cell? ⟨b, 1, none⟩ = some (.slice p L.length c) from by
    have h1 := (h.next (HB.out.trans (hb.mono HB.out.size))).cells
    have h2 := two_cells ((hb.block w.heap.size (Array.getElem?_eq_some_iff.1 HA.out).1).trans HA.out)
    exact ⟨⟨h2.1, h2.2.1⟩, h1.1, h1.2.1⟩)
  have HRS := hid fun (w' : World) (hb : Below w.heap.size w w') => (Rs.old h.rs).keep (keep_ge hb)
  have HIN := hid fun (k : List Nat) (pk : Option Addr) (ck : Nat) (w' : World) (hb : Below w.heap.size w w') (hk : Pt w' pk k) (hkl : k.length ≤ 9223372036854775807) => in_ok k lo hi pk q r ck c' c'' w' hk (hlo.below hb) (hhi.below hb) hkl (by omega)
  have HBIG := hid h.big
  have hlen := h.big.1
  have HV0 := hid (Below.refl V.heap.size V).drew
  have HVL := hid (show V.heap.size = w.heap.size + 1 by rw [← hV]; simp)
  obtain ⟨⟨a1, a2⟩, a3, a4⟩ := HST.out _ (Below.refl _ _)
  clear hr hlo hhi h
  have a3d : V.drew.cell? ⟨b, 0, none⟩ = some (.int .i64 d) := a3
  go_enter Try.func37, Try.ntmps37
  go_wp2_with fail
  go_region_held3 (fun w' => w'.cell? ⟨w.heap.size, 0, none⟩ = some (.slice q lo.length c') ∧ w'.cell? ⟨w.heap.size, 1, none⟩ = some (.slice r hi.length c'')) (first | exact ⟨a1, a2⟩ | exact x4.1 | go_keep)
    (first
      | (go_at_call 29; refine (coords_ok _ a3d).mono ?_; rintro e w' ⟨rfl, rfl⟩)
      | (go_at_call 50; refine (HC.out _ HB.out.drew).mono ?_; rintro e w4 ⟨rfl, hb⟩; have HV4 := hid (HV0.out.trans (hb.mono HV0.out.size)); have x4 := HST.out _ HV4.out; clear hb)
      | fail)
  clear a1 a2 a3 a3d a4 x4 HV0 hV HC
  obtain ⟨⟨a1, a2⟩, a3, a4⟩ := HST.out _ HV4.out
  go_wp2_with fail
  clear a1 a2 a3 a4
  go_loopw [7, 22] (fun vi i wr => ∃ (j : Nat) (xs : List Value), j ≤ L.length ∧ i = .int .i64 j ∧ Below V.heap.size V wr ∧ wr.ownsRow V.heap.size 33 2 vi (winR (L.take j) lo hi).length xs ∧ RC (Ge w.heap.size) wr xs (winR (L.take j) lo hi)) (fun _ i _ => L.length - (intOf i).toNat)
  case atStart => exact ⟨0, [], by omega, rfl, HV4.out, World.ownsRow_nil _ _ _ _, RC.nil⟩
  case round =>
    obtain ⟨j, xs, hj, rfl, hb, ho, hrc⟩ := hrel
    have HBV := hid hb; have HO := hid ho; have HRC := hid hrc; clear hb ho hrc HV4
    rename World => wr
    by_cases hlt : j < L.length
    · have HBW := hid (HB.out.trans (HBV.out.mono HB.out.size))
      obtain ⟨g, off, q1, c1, hpe, hgl, d1, d2, hq1⟩ := (HRS.out _ HBW.out).at j hlt
      subst hpe
      have hbig := HBIG.out.2 _ (List.getElem_mem hlt)
      have HSN := hid (winR_snoc L lo hi j hlt)
      have hwl := winR_len L lo hi j
      obtain ⟨k, hk⟩ : ∃ k, L[j].1 = k := ⟨_, rfl⟩
      obtain ⟨t, ht⟩ : ∃ t, L[j].2 = t := ⟨_, rfl⟩
      have hrec : L[j] = (k, t) := Prod.ext hk ht
      rw [hrec] at HSN
      rw [hk] at hq1 d1 hbig
      rw [ht] at d2 hbig
      have HQ1 := hid hq1
      obtain ⟨V2, hV2⟩ : ∃ V2, wr.alloc (.cells #[.slice q1 k.length c1, .string t] 33 (0, 0)) = V2 := ⟨_, rfl⟩
      have HB2 := hid (show Below wr.heap.size wr V2 by rw [← hV2]; exact below_alloc wr _)
      have HA2 := hid (show V2.heap[wr.heap.size]? = some (.cells #[.slice q1 k.length c1, .string t] 33 (0, 0)) by rw [← hV2]; exact heap_alloc_new wr _)
      have e1 := two_cells HA2.out
      obtain ⟨e1, e2, _, _⟩ := e1
      obtain ⟨⟨a1, a2⟩, a3, a4⟩ := HST.out _ (HBV.out.trans (HB2.out.mono HBV.out.size))
      have HI := hid (HIN.out k q1 c1 V2 (HBW.out.trans (HB2.out.mono HBW.out.size)) ((HQ1.out.pt).below HB2.out) (by omega))
      clear hk ht hrec hq1
      cases hin : inB k lo hi with
      | true =>
        rw [hin] at HI
        have HNX := hid (show winR (L.take (j + 1)) lo hi = winR (L.take j) lo hi ++ [(k, t)] by rw [HSN.out]; simp [hin])
        clear hin HSN
        go_wp2_with fail
        refine HI.out.mono ?_
        rintro e w5 ⟨rfl, hb⟩
        have HB5 := hid (HB2.out.trans (hb.mono HB2.out.size))
        have x5 := two_cells ((hb.block wr.heap.size (Array.getElem?_eq_some_iff.1 HA2.out).1).trans HA2.out)
        obtain ⟨x5, x6, _, _⟩ := x5
        have HBV5 := hid (HBV.out.trans (HB5.out.mono HBV.out.size))
        have HO5 := hid (own_keep HO.out (fun g hg => HB5.out.block g (HO.out.lt g hg).2))
        have HR5 := hid (HRC.out.below HB5.out)
        have HP5 := hid (HQ1.out.keep (.below HB5.out))
        clear hb a1 a2 a3 a4 e1 e2 d1 d2 hV2
        have HLN : Hid ((winR (L.take (j + 1)) lo hi).length = (winR (L.take j) lo hi).length + 1) := hid (by rw [HNX.out]; simp)
        generalize (winR (L.take j) lo hi).length = n at HO5 hwl HLN
        have HAP := hid (rec_own (w := w5.alloc (.cells #[.slice q1 k.length c1, .string t] 33 (0, 0))) 40 u7 n xs (own_keep HO5.out (fun g hg => (below_alloc w5 _).block g (HO5.out.lt g hg).2)) (some ⟨w5.heap.size, 0, none⟩) 1 1 [.slice q1 k.length c1, .string t] (read_new w5 _ _ _) rfl (one_two _ _ rfl rfl) (by omega) (by have := HBV5.out.size; simp; omega))
        go_wp2_with (at_builtin; refine wpList_app rfl _ _ _ rfl rfl rfl HAP.out ?_)
        intro v' w6 hF
        obtain ⟨ho6, hg6, hat6⟩ := hF
        have HO6 := hid ho6
        have HB6 := hid (show Below V.heap.size V w6 from (HBV5.out.alloc HBV5.out.size _).grown hg6 (by have := HBV5.out.size; simp; omega) (fun g hg => (HO5.out.lt g hg).1))
        have HK6 := hid (show Keep (Ge w.heap.size) w5 w6 from ⟨Nat.le_trans (by simp) hg6.size, fun g hg hn => by
          have hn' : g < w.heap.size := Nat.lt_of_not_le hn
          rw [hg6.block g (by simp; omega) (fun e => by have := (HO5.out.lt g e.symm).1; have := HVL.out; omega), Below.heap_alloc _ _ _ hg]⟩)
        have HR6 := hid ((HR5.out.app (RC.one (c := c1) (t := t) HP5.out)).keep HK6.out)
        clear ho6 hg6 hat6 HAP HO5 HR5 HP5
        go_wp2_with fail
        go_roundw
        case rel => exact ⟨j + 1, _, by omega, by go_num, HB6.out, by rw [HLN.out]; exact HO6.out, by rw [HNX.out]; exact HR6.out⟩
        case measure => simp [intOf]; omega
      | false =>
        rw [hin] at HI
        have HNX := hid (show winR (L.take (j + 1)) lo hi = winR (L.take j) lo hi by rw [HSN.out]; simp [hin])
        clear hin HSN
        go_wp2_with fail
        refine HI.out.mono ?_
        rintro e w5 ⟨rfl, hb⟩
        have HB5 := hid (HB2.out.trans (hb.mono HB2.out.size))
        have HBV5 := hid (HBV.out.trans (HB5.out.mono HBV.out.size))
        have HO5 := hid (own_keep HO.out (fun g hg => HB5.out.block g (HO.out.lt g hg).2))
        have HR5 := hid (HRC.out.below HB5.out)
        clear hb a1 a2 a3 a4 e1 e2 d1 d2 hV2
        go_wp2_with fail
        go_roundw
        case rel => exact ⟨j + 1, xs, by omega, by go_num, HBV5.out, by rw [HNX.out]; exact HO5.out, by rw [HNX.out]; exact HR5.out⟩
        case measure => simp [intOf]; omega
    · obtain rfl : j = L.length := by omega
      have hbv := HBV.out
      have HF := hid (show ∃ p' c2, u7 = .slice p' (winR L lo hi).length c2 ∧ Rs (fun _ => False) wr p' (winR L lo hi) by
        have h1 := HO.out
        have h2 := HRC.out
        rw [List.take_length] at h1 h2
        exact Rs.of_row h1 (h2.less (fun _ _ h => h.elim)) (fun _ _ h => h))
      obtain ⟨p', c2, rfl, hrs⟩ := HF.out
      have HFR := hid hrs
      have HE := hid (HB.out.trans (HBV.out.mono HB.out.size))
      clear hrs HF HO
      go_wp2_with fail
      go_ret2
      exact ⟨p', c2, rfl, HFR.out, HE.out⟩
set_option maxHeartbeats 1000000 in
theorem window_bad (lo hi : List Nat) (q r : Option Addr) (c' c'' : Nat) (d : Int) (P : Option Addr) (w : World) (hd : ∀ w', Below w.heap.size w w' → Calls Try.prog 29 #[.pointer P] w' fun e w2 => e = .returned (.int .i64 d) ∧ w' = w2) (hlo : Pt w q lo) (hhi : Pt w r hi) (hl : lo.length ≤ 9223372036854775807) (hr : boxB lo hi d = false) :
    Calls Try.prog 18 #[.pointer P, .agg #[.slice q lo.length c', .slice r hi.length c'']] w fun e w' => ∃ p', e = .returned (.tuple #[.slice p' 0 0, .int .i64 1]) ∧ Below w.heap.size w w' := by
  obtain ⟨V, hV⟩ : ∃ V, w.alloc (.cells #[.slice q lo.length c', .slice r hi.length c''] 35 (0, 0)) = V := ⟨_, rfl⟩
  have HB := hid (show Below w.heap.size w V by rw [← hV]; exact below_alloc w _)
  have hA := two_cells (show V.heap[w.heap.size]? = some (.cells #[.slice q lo.length c', .slice r hi.length c''] 35 (0, 0)) by rw [← hV]; exact heap_alloc_new w _)
  have HW := hid (within_bad lo hi q r c' c'' d P V (fun w' hb => hd w' (HB.out.trans (hb.mono HB.out.size))) (hlo.below HB.out) (hhi.below HB.out) hl hr)
  have HR := hid fun (w' : World) => records_ok (D := fun _ => False) [] none 0 w' (Rs.nil _) (by unfold bigR; simp)
  obtain ⟨a1, a2, _, _⟩ := hA
  clear hd hlo hhi hr
  go_enter Try.func18, Try.ntmps18
  go_wp2_with (first
    | (go_at_call 37; refine HW.out.mono ?_; rintro e w2 ⟨rfl, hb⟩; have HB2 := hid (HB.out.trans (hb.mono HB.out.size)); clear hb)
    | (go_at_call 26; refine (HR.out _).mono ?_; rintro e w3 ⟨p3, rfl, _, hb⟩; have HB3 := hid (HB2.out.trans (hb.mono HB2.out.size)); clear hb))
  go_ret2
  exact ⟨p3, rfl, HB3.out⟩
set_option maxHeartbeats 1000000 in
theorem count_bad (lo hi : List Nat) (q r : Option Addr) (c' c'' : Nat) (d : Int) (P : Option Addr) (w : World) (hd : ∀ w', Below w.heap.size w w' → Calls Try.prog 29 #[.pointer P] w' fun e w2 => e = .returned (.int .i64 d) ∧ w' = w2) (hlo : Pt w q lo) (hhi : Pt w r hi) (hl : lo.length ≤ 9223372036854775807) (hr : boxB lo hi d = false) :
    Calls Try.prog 20 #[.pointer P, .agg #[.slice q lo.length c', .slice r hi.length c'']] w fun e w' => e = .returned (.tuple #[.int .i64 0, .int .i64 1]) ∧ Below w.heap.size w w' := by
  obtain ⟨V, hV⟩ : ∃ V, w.alloc (.cells #[.slice q lo.length c', .slice r hi.length c''] 35 (0, 0)) = V := ⟨_, rfl⟩
  have HB := hid (show Below w.heap.size w V by rw [← hV]; exact below_alloc w _)
  have hA := two_cells (show V.heap[w.heap.size]? = some (.cells #[.slice q lo.length c', .slice r hi.length c''] 35 (0, 0)) by rw [← hV]; exact heap_alloc_new w _)
  have HW := hid (within_bad lo hi q r c' c'' d P V (fun w' hb => hd w' (HB.out.trans (hb.mono HB.out.size))) (hlo.below HB.out) (hhi.below HB.out) hl hr)
  obtain ⟨a1, a2, _, _⟩ := hA
  clear hd hlo hhi hr
  go_enter Try.func20, Try.ntmps20
  go_wp2_with (go_at_call 37; refine HW.out.mono ?_; rintro e w2 ⟨rfl, hb⟩; have HB2 := hid (HB.out.trans (hb.mono HB.out.size)); clear hb)
  go_ret2
  exact ⟨rfl, HB2.out⟩
set_option maxHeartbeats 1000000 in
theorem window_ok {N b : Nat} {X : Nat → Prop} {v : Value} {d : Int} {L : List Rec} (lo hi : List Nat) (q r : Option Addr) (c' c'' : Nat) (w : World) (h : Atl N w X b v d L) (hlo : Pt w q lo) (hhi : Pt w r hi) (hr : boxB lo hi d = true) :
    Calls Try.prog 18 #[.pointer (some ⟨b, 0, none⟩), .agg #[.slice q lo.length c', .slice r hi.length c'']] w fun e w' => ∃ p', e = .returned (.tuple #[.slice p' (winR L lo hi).length (winR L lo hi).length, .int .i64 0]) ∧ Rs (Lt w.heap.size) w' p' (winR L lo hi) ∧ Below w.heap.size w w' := by
  obtain ⟨V, hV⟩ : ∃ V, w.alloc (.cells #[.slice q lo.length c', .slice r hi.length c''] 35 (0, 0)) = V := ⟨_, rfl⟩
  have HB := hid (show Below w.heap.size w V by rw [← hV]; exact below_alloc w _)
  have hA := two_cells (show V.heap[w.heap.size]? = some (.cells #[.slice q lo.length c', .slice r hi.length c''] 35 (0, 0)) by rw [← hV]; exact heap_alloc_new w _)
  have HW := hid (within_ok lo hi q r c' c'' V (h.next HB.out) (hlo.below HB.out) (hhi.below HB.out) hr)
  have HBG := hid (winR_big h.big lo hi)
  generalize winR L lo hi = M at HW HBG
  obtain ⟨a1, a2, _, _⟩ := hA
  clear h hlo hhi hr
  go_enter Try.func18, Try.ntmps18
  go_wp2_with (first
    | (go_at_call 37; refine HW.out.mono ?_; rintro e w2 ⟨p2, c2, rfl, hr, hb⟩; have HR := hid (records_ok M p2 c2 w2 hr HBG.out); have HB2 := hid (HB.out.trans (hb.mono HB.out.size)); clear hb hr)
    | (go_at_call 26; refine HR.out.mono ?_; rintro e w3 ⟨p3, rfl, hr, hb⟩; have HR3 := hid (hr.lt HB2.out.size); have HB3 := hid (HB2.out.trans (hb.mono HB2.out.size)); clear hb hr))
  go_ret2
  exact ⟨p3, rfl, HR3.out, HB3.out⟩
set_option maxHeartbeats 1000000 in
theorem count_ok {N b : Nat} {X : Nat → Prop} {v : Value} {d : Int} {L : List Rec} (lo hi : List Nat) (q r : Option Addr) (c' c'' : Nat) (w : World) (h : Atl N w X b v d L) (hlo : Pt w q lo) (hhi : Pt w r hi) (hr : boxB lo hi d = true) :
    Calls Try.prog 20 #[.pointer (some ⟨b, 0, none⟩), .agg #[.slice q lo.length c', .slice r hi.length c'']] w fun e w' => e = .returned (.tuple #[.int .i64 ((winR L lo hi).length : Int), .int .i64 0]) ∧ Below w.heap.size w w' := by
  obtain ⟨V, hV⟩ : ∃ V, w.alloc (.cells #[.slice q lo.length c', .slice r hi.length c''] 35 (0, 0)) = V := ⟨_, rfl⟩
  have HB := hid (show Below w.heap.size w V by rw [← hV]; exact below_alloc w _)
  have hA := two_cells (show V.heap[w.heap.size]? = some (.cells #[.slice q lo.length c', .slice r hi.length c''] 35 (0, 0)) by rw [← hV]; exact heap_alloc_new w _)
  have HW := hid (within_ok lo hi q r c' c'' V (h.next HB.out) (hlo.below HB.out) (hhi.below HB.out) hr)
  generalize winR L lo hi = M at HW
  obtain ⟨a1, a2, _, _⟩ := hA
  clear h hlo hhi hr
  go_enter Try.func20, Try.ntmps20
  go_wp2_with (go_at_call 37; refine HW.out.mono ?_; rintro e w2 ⟨p2, c2, rfl, hr, hb⟩; have HB2 := hid (HB.out.trans (hb.mono HB.out.size)); clear hb hr)
  go_ret2
  exact ⟨rfl, HB2.out⟩
end Go.Proofs.Ytmniaaledplhfaa.At
