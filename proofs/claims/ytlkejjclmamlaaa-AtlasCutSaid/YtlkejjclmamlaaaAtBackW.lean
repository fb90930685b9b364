/- AtlasBack walked. -/
import Derived.Test.YtlkejjclmamlaaaAtOpen
namespace Go.Proofs.Ytlkejjclmamlaaa
open Go.RowKit
open Go.Lib (hid)
open Go.ChangeShapes Go.WideShapes Go.Joins
open Go.Proofs.Ytlkejjclmamlaaa.Ky Go.Proofs.Ytlkejjclmamlaaa.Bk Go.Proofs.Ytlkejjclmamlaaa.At

theorem dataAt_put (L : List Rec) (k : List Nat) (t : ByteArray) : dataAt (putR L (k, t)) k = t := by
  obtain ⟨h1, _, h3⟩ := put_place (L := L) (k, t)
  unfold dataAt
  rw [show lessN (putR L (k, t)) k = lessN L k from h1, h3]
theorem has_cut {L : List Rec} (hu : upL L) (k : List Nat) : hasN (cutR L k) k = false := by
  cases hh : hasN L k with
  | false => unfold cutR; rw [hh]; simpa using hh
  | true =>
    obtain ⟨hi, he⟩ := hasN_iff.1 hh
    obtain ⟨i, hii⟩ : ∃ i, lessN L k = i := ⟨_, rfl⟩
    have hs := (lessN_spec L k).1
    rw [hii] at hs
    simp only [hii] at he hi
    have hc : cutR L k = L.take i ++ L.drop (i + 1) := by unfold cutR; simp [hh, hii]
    have htl : (L.take i).length = i := by rw [List.length_take]; omega
    have hat : ∀ h : i < (cutR L k).length, ∃ h' : i + 1 < L.length, (cutR L k)[i] = L[i + 1] := fun h => by
      have hl : (cutR L k).length = L.length - 1 := by rw [hc, List.length_append, htl, List.length_drop]; omega
      refine ⟨by omega, ?_⟩
      have e : (cutR L k)[i]? = L[i + 1]? := by rw [hc, List.getElem?_append_right (by omega), htl, Nat.sub_self, List.getElem?_drop]
      rw [List.getElem?_eq_getElem h, List.getElem?_eq_getElem (by omega)] at e
      simpa using e
    have hlt2 : ∀ h' : i + 1 < L.length, cmp k L[i + 1].1 < 0 := fun h' => by
      have := List.pairwise_iff_getElem.1 hu i (i + 1) hi h' (by omega)
      rwa [he] at this
    have hless : lessN (cutR L k) k = i := lessN_at i (by rw [hc, List.length_append, htl]; omega) (fun j hj hji => by
      have e : (cutR L k)[j] = L[j]'(by omega) := by
        have e : (cutR L k)[j]? = L[j]? := by rw [hc, List.getElem?_append_left (by omega), List.getElem?_take_of_lt hji]
        rw [List.getElem?_eq_getElem hj, List.getElem?_eq_getElem (by omega)] at e
        simpa using e
      rw [e]; exact hs j (by omega) hji) (fun h => by
      obtain ⟨h', e⟩ := hat h
      rw [e]
      have h1 := hlt2 h'
      have h2 := cmp_flip k L[i + 1].1
      omega)
    cases hx : hasN (cutR L k) k with
    | false => rfl
    | true =>
      obtain ⟨g1, g2⟩ := hasN_iff.1 hx
      simp only [hless] at g1 g2
      obtain ⟨h', e⟩ := hat g1
      have h1 := hlt2 h'
      rw [← e, g2] at h1
      have h2 := cmp_flip k k
      omega
/-- a record is put, if it may be -/
def stepP (d : Int) (M : List Rec) (r : Rec) : List Rec := if recB r.1 r.2 d = true then putR M r else M
theorem stepP_len (d : Int) (M : List Rec) (r : Rec) : (stepP d M r).length ≤ M.length + 1 := by
  unfold stepP
  split
  · rw [putR_length]; split <;> omega
  · omega
set_option maxRecDepth 100000 in
theorem AtlasBack_open0 {H : Type} {enc : TypeId × Value → H} {W : World} {base : Nat} {v : Value} {d : DataW H} {p : List MemPlace} (hv : Value.okWide Try.prog W .any base 58 v) (h : DataW.Trod enc Try.prog W 0 (fun _ => true) true 58 v d p) : CaseV W v := open_caseA hv h
set_option maxRecDepth 100000 in
set_option maxHeartbeats 8000000 in
theorem Back_start (d : Int) (P : Option Addr) (L : List Rec) (C : Nat) (p : Option Addr) (k : List Nat) (c : Nat) (t u : ByteArray) (w : World) (hP : Rs (fun _ => False) w P L) (hL : L.length ≤ 9223372036854775807) (hp : Pt w p k) (hk : k.length ≤ 9223372036854775807) (_ : t.size ≤ 9223372036854775807) (hu : u.size ≤ 9223372036854775807) :
    Calls Try.prog 5 #[.agg #[.int .i64 d, .slice P L.length C, .slice p k.length c, .string t, .string u]] w fun e w' => e = .returned (.bool true) ∧ Below w.heap.size w w' := by
  obtain ⟨V, hV⟩ : ∃ V, w.alloc (.cells #[.int .i64 d, .slice P L.length C, .slice p k.length c, .string t, .string u] 58 (0, 0)) = V := ⟨_, rfl⟩
  have HB := hid (show Below w.heap.size w V by rw [← hV]; exact below_alloc w _)
  have hA : V.heap[w.heap.size]? = some (.cells #[.int .i64 d, .slice P L.length C, .slice p k.length c, .string t, .string u] 58 (0, 0)) := by rw [← hV]; exact heap_alloc_new w _
  have a0 : V.cell? ⟨w.heap.size, 0, none⟩ = some (.int .i64 d) := by rw [cell_of_row _ _ _ _ _ _ hA]; rfl
  have a1 : V.cell? ⟨w.heap.size, 1, none⟩ = some (.slice P L.length C) := by rw [cell_of_row _ _ _ _ _ _ hA]; rfl
  have a2 : V.cell? ⟨w.heap.size, 2, none⟩ = some (.slice p k.length c) := by rw [cell_of_row _ _ _ _ _ _ hA]; rfl
  have a3 : V.cell? ⟨w.heap.size, 3, none⟩ = some (.string t) := by rw [cell_of_row _ _ _ _ _ _ hA]; rfl
  have a4 : V.cell? ⟨w.heap.size, 4, none⟩ = some (.string u) := by rw [cell_of_row _ _ _ _ _ _ hA]; rfl
  have hne : w.heap.size < V.heap.size := (Array.getElem?_eq_some_iff.1 hA).1
  have HP := hid (And.intro (hP.below HB.out) (hp.below HB.out))
  clear hA hP hp
  go_enter Try.func5, Try.ntmps5
  go_wp2_with fail
  have n0 := World.new_ne V ⟨w.heap.size, 0, none⟩ a0
  go_region_held3 (fun w' => (w'.cell? ⟨w.heap.size, 0, none⟩ = some (.int .i64 d) ∧ w'.cell? ⟨w.heap.size, 1, none⟩ = some (.slice P L.length C) ∧ w'.cell? ⟨w.heap.size, 2, none⟩ = some (.slice p k.length c)) ∧ w'.cell? ⟨w.heap.size, 3, none⟩ = some (.string t) ∧ w'.cell? ⟨w.heap.size, 4, none⟩ = some (.string u)) (first | exact ⟨⟨a0, a1, a2⟩, a3, a4⟩ | go_keep) (fail)
  have HBE0 := hid (show Below w.heap.size w (V.alloc (.cells #[.slice p k.length c, .string t] 33 (0, 0))).drew from (HB.out.trans ((below_alloc V _).mono HB.out.size)).drew)
  have HR0 := hid (show (V.alloc (.cells #[.slice p k.length c, .string t] 33 (0, 0))).drew.heap[V.heap.size]? = some (.cells #[.slice p k.length c, .string t] 33 (0, 0)) from heap_alloc_new V _)
  have HP0 := hid (And.intro ((HP.out.1.alloc (.cells #[.slice p k.length c, .string t] 33 (0, 0))).drew) ((HP.out.2.alloc (.cells #[.slice p k.length c, .string t] 33 (0, 0))).drew))
  clear a0 a1 a2 a3 a4 n0 hne HP HB hV
  generalize (V.alloc (.cells #[.slice p k.length c, .string t] 33 (0, 0))).drew = V0 at HBE0 HR0 HP0 ⊢
  generalize V.heap.size = g at HR0 ⊢
  have HBE := hid fun (w' : World) (hb : Below V0.heap.size V0 w') => HBE0.out.trans (hb.mono HBE0.out.size)
  have HR := hid fun (w' : World) (hb : Below V0.heap.size V0 w') => (show w'.cell? ⟨g, 0, none⟩ = some (.slice p k.length c) ∧ w'.cell? ⟨g, 1, none⟩ = some (.string t) from by
    have h := two_cells ((hb.block g (Array.getElem?_eq_some_iff.1 HR0.out).1).trans HR0.out)
    exact ⟨h.1, h.2.1⟩)
  obtain ⟨r0, r1⟩ := HR.out _ (Below.refl _ _)
  have HK := hid fun (w' : World) (hb : Below V0.heap.size V0 w') => HP0.out.2.below hb
  have HLS := hid fun (w' : World) (hb : Below V0.heap.size V0 w') => HP0.out.1.below hb
  by_cases hd : 1 ≤ d ∧ d ≤ 6
  · have HD := hid hd
    clear hd
    go_wp2_with fail
    refine (aw_new (X := No) d V0 V0 (Below.refl _ _) HD.out (fun _ h => h.elim)).mono ?_
    rintro e w1 ⟨rfl, ha, _⟩
    have HA := hid ha; clear ha
    clear r0 r1
    generalize V0.heap.size = b0 at HA ⊢
    obtain ⟨r0, r1⟩ := HR.out _ HA.out.below
    have HFW := hid (few_ok L P C w1 (HLS.out _ HA.out.below) hL)
    have HN := hid HA.out.below
    cases hf : fewB L with
    | false =>
      rw [hf] at HFW
      clear hf
      go_wp2_with (first
        | (go_at_call 31; refine HFW.out.mono ?_; rintro e w' ⟨rfl, rfl⟩)
        | (go_at_call 14; refine (live_any _).mono ?_; rintro e w5 ⟨rfl, hb⟩; have H2 := hid (HN.out.trans (hb.mono HN.out.size)); clear hb))
      go_ret
      exact ⟨rfl, HBE.out _ H2.out⟩
    | true =>
      rw [hf] at HFW
      have HFR := hid (fewB_iff.1 hf)
      have hlen := (fewB_iff.1 hf).1
      clear hf
      by_cases hk20 : 20 < k.length
      · have z1 : decide ((20 : Int) < (k.length : Int)) = true := by simp; omega
        clear hk20
        go_wp2_with (first
          | (go_at_call 31; refine HFW.out.mono ?_; rintro e w' ⟨rfl, rfl⟩)
          | (go_at_call 14; refine (live_any _).mono ?_; rintro e w5 ⟨rfl, hb⟩; have H2 := hid (HN.out.trans (hb.mono HN.out.size)); clear hb))
        go_ret
        exact ⟨rfl, HBE.out _ H2.out⟩
      · have z1 : decide ((20 : Int) < (k.length : Int)) = false := by simp; omega
        clear hk20
        by_cases hu40 : 40 < u.size
        · have z2 : decide ((40 : Int) < (u.size : Int)) = true := by simp; omega
          clear hu40
          go_wp2_with (first
            | (go_at_call 31; refine HFW.out.mono ?_; rintro e w' ⟨rfl, rfl⟩)
            | (go_at_call 14; refine (live_any _).mono ?_; rintro e w5 ⟨rfl, hb⟩; have H2 := hid (HN.out.trans (hb.mono HN.out.size)); clear hb))
          go_ret
          exact ⟨rfl, HBE.out _ H2.out⟩
        · have z2 : decide ((40 : Int) < (u.size : Int)) = false := by simp; omega
          have HU40 := hid (show u.size ≤ 40 by omega)
          clear hu40
          go_wp2_with (go_at_call 31; refine HFW.out.mono ?_; rintro e w' ⟨rfl, rfl⟩)
          clear z1 z2 r0 r1 HFW HN
          go_loopw [9] (fun i wr => ∃ (j : Nat) (M : List Rec) (v : Value), j ≤ L.length ∧ i = .int .i64 j ∧ Aw V0 wr No b0 v d M ∧ M.length ≤ j) (fun i _ => L.length - (intOf i).toNat)
          case atStart => exact ⟨0, [], _, by omega, rfl, HA.out, by simp⟩
          case round =>
            obtain ⟨j, M, v, hj, rfl, ha, hm⟩ := hrel
            clear HA
            have HA := hid ha; clear ha
            by_cases hlt : j < L.length
            · obtain ⟨g1, off, q1, c1, hpe, hgl, d1, d2, hq1⟩ := (HLS.out _ HA.out.below).at j hlt
              subst hpe
              have HQ := hid hq1.pt
              have HM := hid (stepP_len d M L[j])
              generalize L[j].1 = k1 at HQ d1
              generalize L[j].2 = t1 at d2
              clear hq1 HM
              by_cases hr : recB k1 t1 d = true
              · have HPT := hid (aw_put HA.out k1 t1 q1 c1 HQ.out hr (by omega))
                have HML := hid (show (putR M (k1, t1)).length ≤ j + 1 by rw [putR_length]; split <;> omega)
                clear hr
                go_wp2_with (go_at_call 19; refine HPT.out.mono ?_; rintro e w2 ⟨rfl, v', ha, _, _, _⟩; have HA2 := hid ha; clear ha)
                go_roundw
                case rel => exact ⟨j + 1, _, v', by omega, by go_num, HA2.out, HML.out⟩
                case measure => simp [intOf]; omega
              · have hr2 : recB k1 t1 d = false := by simpa using hr
                have HPT := hid (aw_put_bad HA.out k1 t1 q1 c1 hr2)
                clear hr hr2
                go_wp2_with (go_at_call 19; refine HPT.out.mono ?_; rintro e w2 ⟨rfl, hb⟩; have HA2 := hid (HA.out.next hb); clear hb)
                go_roundw
                case rel => exact ⟨j + 1, M, v, by omega, by go_num, HA2.out, by omega⟩
                case measure => simp [intOf]; omega
            · obtain rfl : j = L.length := by omega
              have HML := hid hm
              clear hm hlt hj
              obtain ⟨r0, r1⟩ := HR.out _ HA.out.below
              by_cases hr : recB k t d = true
              · have HRB := hid hr
                have HPT := hid (aw_put HA.out k t p c (HK.out _ HA.out.below) hr (by have := HML.out; omega))
                have HCK := hid (show checkB k.length d = true by unfold recB at hr; simp at hr; exact hr.1)
                have HRU := hid (show recB k u d = true by unfold recB at hr ⊢; simp at hr ⊢; exact ⟨hr.1, HU40.out⟩)
                clear hr
                go_wp2_with fail
                refine HPT.out.mono ?_
                rintro e w2 ⟨rfl, v2, ha, _, _, _⟩
                have HA2 := hid ha; clear ha HPT r0 r1
                have HM2 := hid (show (putR M (k, t)).length ≤ L.length + 1 by rw [putR_length]; have := HML.out; split <;> omega)
                have HH2 := hid (put_place (L := M) (k, t)).2.1
                have HG2 := hid (dataAt_put M k t)
                have HN3 := hid (show (putR (putR M (k, t)) (k, u)).length = (putR M (k, t)).length by rw [putR_length, if_pos HH2.out])
                generalize putR M (k, t) = M1 at HA2 HM2 HH2 HG2 HN3
                obtain ⟨r0, r1⟩ := HR.out _ HA2.out.below
                go_wp2_with fail
                refine (len_ok w2 HA2.out.atl).mono ?_
                rintro e w' ⟨rfl, rfl⟩
                have hg := get_ok k p c w2 HA2.out.atl (HK.out _ HA2.out.below) HCK.out HH2.out
                rw [HG2.out] at hg
                have HGT := hid hg; clear hg
                go_wp2_with fail
                refine HGT.out.mono ?_
                rintro e w3 ⟨rfl, hb⟩
                have HA3 := hid (HA2.out.next hb); clear hb HGT r0 r1 HA HA2
                obtain ⟨r0, r1⟩ := HR.out _ HA3.out.below
                have HPT := hid (aw_put HA3.out k u p c (HK.out _ HA3.out.below) HRU.out (by have := HM2.out; omega))
                go_wp2_with fail
                refine HPT.out.mono ?_
                rintro e w4 ⟨rfl, v4, ha, _, _, _⟩
                have HA4 := hid ha; clear ha HPT r0 r1 HA3
                have HH4 := hid (put_place (L := M1) (k, u)).2.1
                have HG4 := hid (dataAt_put M1 k u)
                have HC5 := hid (has_cut HA4.out.atl.up k)
                have HL5 := hid (show (cutR (putR M1 (k, u)) k).length = M1.length - 1 by rw [cutR_length, if_pos HH4.out, HN3.out])
                have HP5 := hid (show 0 < M1.length by obtain ⟨h, _⟩ := hasN_iff.1 HH2.out; omega)
                generalize putR M1 (k, u) = M2 at HA4 HH4 HG4 HC5 HL5 HN3
                obtain ⟨r0, r1⟩ := HR.out _ HA4.out.below
                have hg := get_ok k p c w4 HA4.out.atl (HK.out _ HA4.out.below) HCK.out HH4.out
                rw [HG4.out] at hg
                have HGT := hid hg; clear hg
                go_wp2_with fail
                refine HGT.out.mono ?_
                rintro e w5 ⟨rfl, hb⟩
                have HA5 := hid (HA4.out.next hb); clear hb HGT r0 r1 HA4
                obtain ⟨r0, r1⟩ := HR.out _ HA5.out.below
                have hlen5 := len_ok w5 HA5.out.atl
                rw [HN3.out] at hlen5
                have HLN := hid hlen5; clear hlen5
                go_wp2_with fail
                refine HLN.out.mono ?_
                rintro e w' ⟨rfl, rfl⟩
                have HDL := hid (aw_del HA5.out k p c (HK.out _ HA5.out.below) HCK.out HH4.out)
                go_wp2_with fail
                refine HDL.out.mono ?_
                rintro e w6 ⟨rfl, v6, ha, _, _, _⟩
                have HA6 := hid ha; clear ha HDL HLN r0 r1 HA5
                generalize cutR M2 k = M3 at HA6 HC5 HL5
                obtain ⟨r0, r1⟩ := HR.out _ HA6.out.below
                have HGT := hid (get_none k p c w6 HA6.out.atl (HK.out _ HA6.out.below) HCK.out HC5.out)
                go_wp2_with fail
                refine HGT.out.mono ?_
                rintro e w7 ⟨rfl, hb⟩
                have HA7 := hid (HA6.out.next hb); clear hb HGT r0 r1 HA6
                have hlen7 := len_ok w7 HA7.out.atl
                rw [HL5.out] at hlen7
                have HLN := hid hlen7; clear hlen7
                obtain ⟨n1, hn1⟩ : ∃ n1, M1.length - 1 = n1 := ⟨_, rfl⟩
                rw [hn1] at HLN
                have hz : IntKind.i64.wrap ((M1.length : Int) - 1) = (n1 : Int) := by rw [IntKind.wrap_i64]; have := HM2.out; have := HP5.out; omega
                have hz2 : (M1.length : Int) - 1 = (n1 : Int) := by have := HP5.out; omega
                have hz3 : IntKind.i64.wrap (n1 : Int) = (n1 : Int) := by rw [IntKind.wrap_i64]; have := HM2.out; omega
                have hz4 : ((n1 : Int) == (n1 : Int)) = true := by simp
                clear hn1
                go_wp2_with fail
                refine HLN.out.mono ?_
                rintro e w' ⟨rfl, rfl⟩
                go_wp2_with fail
                refine (live_any _).mono ?_
                rintro e w8 ⟨rfl, hb⟩
                have HA8 := hid (HA7.out.next hb); clear hb
                go_wp2_with fail
                go_ret
                exact ⟨rfl, HBE.out _ HA8.out.below⟩
              · have hr2 : recB k t d = false := by simpa using hr
                have HPT := hid (aw_put_bad HA.out k t p c hr2)
                clear hr hr2
                go_wp2_with fail
                refine HPT.out.mono ?_
                rintro e w2 ⟨rfl, hb⟩
                have HA2 := hid (HA.out.next hb); clear hb HPT r0 r1
                go_wp2_with (go_at_call 14; refine (live_any _).mono ?_; rintro e w5 ⟨rfl, hb⟩; have HA3 := hid (HA2.out.next hb); clear hb)
                go_ret
                exact ⟨rfl, HBE.out _ HA3.out.below⟩
  · have HD := hid (show d < 1 ∨ 6 < d by omega)
    clear hd
    go_wp2_with (first
      | (go_at_call 11; refine (new_bad d _ HD.out).mono ?_; rintro e w' ⟨rfl, rfl⟩)
      | (go_at_call 14; refine (live_any _).mono ?_; rintro e w5 ⟨rfl, hb⟩; have H2 := hid hb; clear hb))
    go_ret
    exact ⟨rfl, HBE.out _ H2.out⟩
set_option maxRecDepth 100000 in
theorem AtlasBack_walk (v : Value) (w : World) (hv : CaseV w v) :
    Calls Try.prog 5 #[v] w fun e w' => e = .returned (.bool true) ∧ Below w.heap.size w w' := by
  obtain ⟨d, P, L, C, p, k, c, t, u, rfl, hP, hL, hp, hk, ht, hu⟩ := hv
  exact Back_start d P L C p k c t u w hP hL hp hk ht hu
end Go.Proofs.Ytlkejjclmamlaaa
