/- Put and Cut of the reference. -/
import Derived.Test.YtjgjfcidfcfajaaBkCut
namespace Go.Proofs.Ytjgjfcidfcfajaa.Bk
open Go.RowKit
open Go.Lib (hid)
open Go.Proofs.Ytjgjfcidfcfajaa.Ky

/-- the slice up to a place, wherever it points -/
theorem slice_to (p : Option Addr) (len c n : Nat) (h : n ≤ len) (hc : len ≤ c) (w : World) : (Instr.slice 22 (.slice p len c) none (some (.int .i64 (n : Int))) none).run Try.prog w = .ok (.slice p n c) w := by
  have hs : (sizeOf 38).run Try.prog w = .ok 2 w := by kernel_rfl
  rw [run_slice_h w _ p len c (by kernel_rfl) .i64 n (by omega) (by omega)]
  have e : Try.prog.elem 22 = 38 := by kernel_rfl
  rw [e, hs]
  simp only [Result.andThen, sliced, Int.toNat_natCast, Nat.sub_zero, Nat.zero_mul]
  congr 2
  split
  · rfl
  · cases p with
    | none => rfl
    | some a => simp only [Option.map_some]; congr 1
/-- what a list is, out of the row that holds it -/
theorem row_list {w5 : World} {base : Nat} {v : Value} {M : List Rec} {zs : List Value} {n : Nat} (ho : w5.ownsRow base 38 2 v n zs) (hn : n = M.length) (hr : RC (fun _ => False) w5 zs M) :
    ∃ p5 c5, v = .slice p5 M.length c5 ∧ Rs (fun _ => False) w5 p5 M := by
  subst hn
  exact Rs.of_row ho hr (fun _ _ h => h)
set_option maxRecDepth 100000 in
set_option maxHeartbeats 2000000 in
theorem refCut_ok {D : Nat → Prop} (L : List Rec) (k : List Nat) (p q : Option Addr) (c c' : Nat) (w : World) (hp : Rs D w p L) (hq : Pt w q k) (hl : bigR L) (hc : L.length ≤ c) :
    Calls Try.prog 24 #[.slice p L.length c, .slice q k.length c'] w fun e w' => ∃ p' c2, e = .returned (.tuple #[.slice p' (cutR L k).length c2, .bool (hasN L k)]) ∧ Rs (Lt w.heap.size) w' p' (cutR L k) ∧ Below w.heap.size w w' := by
  have HF := hid (refFind_ok L k p q c c' w hp hq hl)
  obtain ⟨xs, hrc, hrd⟩ := hp.open
  have hn := lessN_le L k
  obtain ⟨n, hnn⟩ : ∃ n, lessN L k = n := ⟨_, rfl⟩
  rw [hnn] at hn
  simp only [hnn] at HF
  have HRC := hid hrc
  have HRD := hid hrd
  have HXL := hid hrc.1
  have hbig := hl.1
  have HRE := hid fun (w' : World) (hb : Below w.heap.size w w') => copies_ok L p c w' (hp.below hb) hl
  cases his : hasN L k with
  | false =>
    rw [his] at HF
    have HM : cutR L k = L := by unfold cutR; rw [his]; simp
    rw [HM]
    clear his hnn HM hrc hrd hp hq
    go_enter Try.func24, Try.ntmps24
    go_wp2_with fail
    refine HF.out.mono ?_
    rintro e w2 ⟨rfl, m2, hw2⟩
    have HB2 := hid (show Below w.heap.size w w2 by rw [hw2]; exact below_drewN (Below.refl _ _) m2); clear hw2
    go_wp2_with fail
    refine (HRE.out _ HB2.out).mono ?_
    rintro e w6 ⟨p6, c6, rfl, _, _, hr, hb⟩
    have H6 := hid (hr.lt HB2.out.size); have HB7 := hid (HB2.out.trans (hb.mono HB2.out.size)); clear hr hb
    go_wp2_with fail
    go_ret2
    exact ⟨p6, c6, rfl, H6.out, HB7.out⟩
  | true =>
    rw [his] at HF
    have hnl : n < L.length := by obtain ⟨h, _⟩ := hasN_iff.1 his; rw [hnn] at h; exact h
    obtain ⟨M, hM⟩ : ∃ M, cutR L k = M := ⟨_, rfl⟩
    have HBIG := hid (show bigR M from hM ▸ big_cut k hl)
    have HMM := hid (show M = L.take n ++ L.drop (n + 1) by rw [← hM]; unfold cutR; rw [his]; simp only [hnn]; simp)
    rw [hM]
    have s1 := fun (w : World) => slice_to p L.length c n hn hc w
    obtain ⟨P2, hP2, s3⟩ := slice_back p L.length c (n + 1) hnl hc
    have s3' : ∀ w : World, (Instr.slice 22 (.slice p L.length c) (some (.int .i64 ((n : Int) + 1))) none none).run Try.prog w = .ok (.slice P2 (L.length - (n + 1)) (c - (n + 1))) w := s3
    have HP2 := hid (read_cut hrd ((n + 1) * 2) P2 (by rcases hP2 with h | h; exact Or.inl h; right; rw [hrc.1]; omega))
    have ew : IntKind.i64.wrap ((n : Int) + 1) = (n : Int) + 1 := Go.IntWalk.i64_in _ (by omega)
    have HN := hid (And.intro hn hnl)
    clear his hnn hM hrc hrd hp hq hP2 s3
    go_enter Try.func24, Try.ntmps24
    go_wp2_with fail
    refine HF.out.mono ?_
    rintro e w2 ⟨rfl, m2, hw2⟩
    have HB2 := hid (show Below w.heap.size w w2 by rw [hw2]; exact below_drewN (Below.refl _ _) m2); clear hw2 HF
    have HA1 := hid (rec_own (w := w2) 22 (base := w.heap.size) (.slice none 0 0) 0 [] (World.ownsRow_nil _ _ _ _) p n c (xs.take (n * 2)) ((HRD.out.below HB2.out).take _) (by rw [List.length_take, HXL.out]; have := HN.out.2; omega) (mem_take HRC.out.oneCell) (by omega) HB2.out.size)
    go_wp2_with (at_builtin; refine wpList_app rfl _ _ _ rfl rfl rfl HA1.out ?_)
    intro v' w3 hF
    have HO := hid hF
    have HB3 := hid (HB2.out.grown hF.2.1 HB2.out.size (fun j hj => by cases hj)); clear hF HA1
    have HA2 := hid (rec_own (w := w3) 22 (base := w.heap.size) v' n _ HO.out.1 P2 (L.length - (n + 1)) (c - (n + 1)) (xs.drop ((n + 1) * 2)) (HP2.out.below HB3.out) (by rw [List.length_drop, HXL.out]; omega) (mem_drop HRC.out.oneCell) (by omega) HB3.out.size)
    go_wp2_with (at_builtin; refine wpList_app rfl _ _ _ rfl rfl rfl HA2.out ?_)
    intro v2 w4 hF
    have HB4 := hid (HB3.out.grown hF.2.1 HB3.out.size (fun j hj => (HO.out.1.lt j hj).1))
    obtain ⟨p5, c5, rfl, hr⟩ := row_list (M := M) hF.1 (by rw [HMM.out]; simp; omega) (by
      rw [HMM.out]
      exact (((HRC.out.less (fun _ _ h => h.elim)).take n hn).app ((HRC.out.less (fun _ _ h => h.elim)).drop (n + 1) hnl)).below HB4.out)
    have HR := hid (copies_ok M p5 c5 w4 hr HBIG.out)
    clear hF hr HA2 s1 s3'
    go_wp2_with fail
    refine HR.out.mono ?_
    rintro e w6 ⟨p6, c6, rfl, _, _, hr, hb⟩
    have H6 := hid (hr.lt HB4.out.size); have HB7 := hid (HB4.out.trans (hb.mono HB4.out.size)); clear hr hb
    go_wp2_with fail
    go_ret2
    exact ⟨p6, c6, rfl, H6.out, HB7.out⟩
set_option maxRecDepth 100000 in
set_option maxHeartbeats 4000000 in
theorem refPut_ok {D : Nat → Prop} (L : List Rec) (x : List Nat) (t : ByteArray) (p q : Option Addr) (c c' : Nat) (w : World) (hp : Rs D w p L) (hq : Pt w q x) (hl : bigR L) (hc : L.length ≤ c) (hx : x.length ≤ 1000) (ht : t.size ≤ 1000) (hl2 : L.length < 1000) :
    Calls Try.prog 27 #[.slice p L.length c, .agg #[.slice q x.length c', .string t]] w fun e w' => ∃ p' c2, e = .returned (.slice p' (putR L (x, t)).length c2) ∧ Rs (Lt w.heap.size) w' p' (putR L (x, t)) ∧ Below w.heap.size w w' := by
  have hb0 := below_alloc w (.cells #[.slice q x.length c', .string t] 38)
  have HF := hid (refFind_ok L x p q c c' _ (hp.below hb0) (hq.below hb0) hl)
  have HB0 := hid hb0
  have HA := hid (two_cells (heap_alloc_new w (.cells #[.slice q x.length c', .string t] 38)))
  have HG := hid (show w.heap.size < (w.alloc (.cells #[.slice q x.length c', .string t] 38)).heap.size by simp)
  obtain ⟨xs, hrc, hrd⟩ := hp.open
  have hn := lessN_le L x
  obtain ⟨n, hnn⟩ : ∃ n, lessN L x = n := ⟨_, rfl⟩
  rw [hnn] at hn
  simp only [hnn] at HF
  obtain ⟨M, hM⟩ : ∃ M, putR L (x, t) = M := ⟨_, rfl⟩
  rw [hM]
  have HBIG := hid (show bigR M from hM ▸ big_put (x := x) (t := t) hl hx ht hl2)
  have HRC := hid (hrc.less (D' := fun _ => False) (fun _ _ h => h.elim))
  have HRD := hid hrd
  have HXL := hid hrc.1
  have HQ := hid (Pt.ptd hq)
  have s1 := fun (w : World) => slice_to p L.length c n hn hc w
  have hbig := hl.1
  clear hp hrd hq hb0
  cases his : hasN L x with
  | false =>
    rw [his] at HF
    have HMM := hid (show M = (L.take n ++ [(x, t)]) ++ L.drop n by rw [← hM]; unfold putR; simp only [hnn, his]; simp)
    obtain ⟨P2, hP2, s3⟩ := slice_back p L.length c n hn hc
    have HP2 := hid (read_cut HRD.out (n * 2) P2 (by rcases hP2 with h | h; exact Or.inl h; right; rw [hrc.1]; omega))
    have hnN : n ≤ L.length := hn
    clear his hnn hM hrc hP2
    go_enter Try.func27, Try.ntmps27
    go_wp2_with fail
    refine HF.out.mono ?_
    rintro e w2 ⟨rfl, m2, hw2⟩
    have HB2 := hid (show Below w.heap.size w w2 by rw [hw2]; exact below_drewN HB0.out m2)
    have a2 : w2.cell? ⟨w.heap.size, 0, none⟩ = some (.slice q x.length c') ∧ w2.cell? ⟨w.heap.size, 1, none⟩ = some (.string t) := by rw [hw2]; exact ⟨HA.out.1, HA.out.2.1⟩
    have HG2 := hid (show w.heap.size < w2.heap.size by rw [hw2]; exact HG.out)
    clear hw2 HF
    have HA1 := hid (rec_own (w := w2) 22 (base := w2.heap.size) (.slice none 0 0) 0 [] (World.ownsRow_nil _ _ _ _) p n c (xs.take (n * 2)) ((HRD.out.below HB2.out).take _) (by rw [List.length_take, HXL.out]; omega) (mem_take HRC.out.oneCell) (by omega) (Nat.le_refl _))
    go_wp2_with (at_builtin; refine wpList_app rfl _ _ _ rfl rfl rfl HA1.out ?_)
    intro v' w3 hF
    have HO := hid hF
    have HB3 := hid ((Below.refl w2.heap.size w2).grown hF.2.1 (Nat.le_refl _) (fun j hj => by cases hj)); clear hF HA1
    have a3 := And.intro ((HB3.out.cell (p := ⟨w.heap.size, 0, none⟩) HG2.out).trans a2.1) ((HB3.out.cell (p := ⟨w.heap.size, 1, none⟩) HG2.out).trans a2.2)
    have HBN := hid (HB3.out.alloc HB3.out.size (.cells #[.slice q x.length c', .string t] 38))
    have HA2 := hid (rec_own (w := w3.alloc (.cells #[.slice q x.length c', .string t] 38)) 22 (base := w2.heap.size) v' n _ (own_below HO.out.1 (below_alloc _ _)) (some ⟨w3.heap.size, 0, none⟩) 1 1 [.slice q x.length c', .string t] (read_new w3 _ _ _) rfl (one_two _ _ rfl rfl) (by omega) HBN.out.size)
    go_wp2_with (at_builtin; refine wpList_app rfl _ _ _ rfl rfl rfl HA2.out ?_)
    intro v2 w4 hF
    have HO2 := hid hF.1
    have HB4 := hid (HBN.out.grown hF.2.1 HBN.out.size (fun j hj => (HO.out.1.lt j hj).1)); clear hF HA2 a2 a3
    have HA3 := hid (rec_own (w := w4) 22 (base := w2.heap.size) v2 (n + 1) _ HO2.out P2 (L.length - n) (c - n) (xs.drop (n * 2)) ((HP2.out.below HB2.out).below HB4.out) (by rw [List.length_drop, HXL.out]; omega) (mem_drop HRC.out.oneCell) (by omega) HB4.out.size)
    go_wp2_with (at_builtin; refine wpList_app rfl _ _ _ rfl rfl rfl HA3.out ?_)
    intro v3 w5 hF
    have HB5 := hid (HB4.out.grown hF.2.1 HB4.out.size (fun j hj => (HO2.out.lt j hj).1))
    have HBW := hid (HB2.out.trans (HB5.out.mono HB2.out.size))
    obtain ⟨p5, c5, rfl, hr⟩ := row_list (M := M) hF.1 (by rw [HMM.out]; simp; omega) (by
      rw [HMM.out]
      have hz := (((HRC.out.take n hn).app (RC.one (c := c') (t := t) HQ.out)).app (HRC.out.drop n hnN)).below HBW.out
      rw [List.append_assoc (xs.take (n * 2))] at hz
      exact hz)
    have HR := hid (copies_ok M p5 c5 w5 hr HBIG.out)
    clear hF hr HA3
    go_wp2_with fail
    refine HR.out.mono ?_
    rintro e w6 ⟨p6, c6, rfl, _, _, hr, hb⟩
    have H6 := hid (hr.lt HBW.out.size); have HB7 := hid (HBW.out.trans (hb.mono HBW.out.size)); clear hr hb
    go_wp2_with fail
    go_ret
    exact ⟨p6, c6, rfl, H6.out, HB7.out⟩
  | true =>
    rw [his] at HF
    have HMM := hid (show M = (L.take n ++ [(x, t)]) ++ L.drop (n + 1) by rw [← hM]; unfold putR; simp only [hnn, his]; simp)
    have hnN : n + 1 ≤ L.length := by obtain ⟨h, _⟩ := hasN_iff.1 his; rw [hnn] at h; exact h
    obtain ⟨P2, hP2, s3⟩ := slice_back p L.length c (n + 1) hnN hc
    have HP2 := hid (read_cut HRD.out ((n + 1) * 2) P2 (by rcases hP2 with h | h; exact Or.inl h; right; rw [hrc.1]; omega))
    have s3' : ∀ w : World, (Instr.slice 22 (.slice p L.length c) (some (.int .i64 ((n : Int) + 1))) none none).run Try.prog w = .ok (.slice P2 (L.length - (n + 1)) (c - (n + 1))) w := s3
    have ew : IntKind.i64.wrap ((n : Int) + 1) = (n : Int) + 1 := Go.IntWalk.i64_in _ (by omega)
    clear his hnn hM hrc hP2 s3
    go_enter Try.func27, Try.ntmps27
    go_wp2_with fail
    refine HF.out.mono ?_
    rintro e w2 ⟨rfl, m2, hw2⟩
    have HB2 := hid (show Below w.heap.size w w2 by rw [hw2]; exact below_drewN HB0.out m2)
    have a2 : w2.cell? ⟨w.heap.size, 0, none⟩ = some (.slice q x.length c') ∧ w2.cell? ⟨w.heap.size, 1, none⟩ = some (.string t) := by rw [hw2]; exact ⟨HA.out.1, HA.out.2.1⟩
    have HG2 := hid (show w.heap.size < w2.heap.size by rw [hw2]; exact HG.out)
    clear hw2 HF
    have HA1 := hid (rec_own (w := w2) 22 (base := w2.heap.size) (.slice none 0 0) 0 [] (World.ownsRow_nil _ _ _ _) p n c (xs.take (n * 2)) ((HRD.out.below HB2.out).take _) (by rw [List.length_take, HXL.out]; omega) (mem_take HRC.out.oneCell) (by omega) (Nat.le_refl _))
    go_wp2_with (at_builtin; refine wpList_app rfl _ _ _ rfl rfl rfl HA1.out ?_)
    intro v' w3 hF
    have HO := hid hF
    have HB3 := hid ((Below.refl w2.heap.size w2).grown hF.2.1 (Nat.le_refl _) (fun j hj => by cases hj)); clear hF HA1
    have a3 := And.intro ((HB3.out.cell (p := ⟨w.heap.size, 0, none⟩) HG2.out).trans a2.1) ((HB3.out.cell (p := ⟨w.heap.size, 1, none⟩) HG2.out).trans a2.2)
    have HBN := hid (HB3.out.alloc HB3.out.size (.cells #[.slice q x.length c', .string t] 38))
    have HA2 := hid (rec_own (w := w3.alloc (.cells #[.slice q x.length c', .string t] 38)) 22 (base := w2.heap.size) v' n _ (own_below HO.out.1 (below_alloc _ _)) (some ⟨w3.heap.size, 0, none⟩) 1 1 [.slice q x.length c', .string t] (read_new w3 _ _ _) rfl (one_two _ _ rfl rfl) (by omega) HBN.out.size)
    go_wp2_with (at_builtin; refine wpList_app rfl _ _ _ rfl rfl rfl HA2.out ?_)
    intro v2 w4 hF
    have HO2 := hid hF.1
    have HB4 := hid (HBN.out.grown hF.2.1 HBN.out.size (fun j hj => (HO.out.1.lt j hj).1)); clear hF HA2 a2 a3
    have HA3 := hid (rec_own (w := w4) 22 (base := w2.heap.size) v2 (n + 1) _ HO2.out P2 (L.length - (n + 1)) (c - (n + 1)) (xs.drop ((n + 1) * 2)) ((HP2.out.below HB2.out).below HB4.out) (by rw [List.length_drop, HXL.out]; omega) (mem_drop HRC.out.oneCell) (by omega) HB4.out.size)
    go_wp2_with (at_builtin; refine wpList_app rfl _ _ _ rfl rfl rfl HA3.out ?_)
    intro v3 w5 hF
    have HB5 := hid (HB4.out.grown hF.2.1 HB4.out.size (fun j hj => (HO2.out.lt j hj).1))
    have HBW := hid (HB2.out.trans (HB5.out.mono HB2.out.size))
    obtain ⟨p5, c5, rfl, hr⟩ := row_list (M := M) hF.1 (by rw [HMM.out]; simp; omega) (by
      rw [HMM.out]
      have hz := (((HRC.out.take n hn).app (RC.one (c := c') (t := t) HQ.out)).app (HRC.out.drop (n + 1) hnN)).below HBW.out
      rw [List.append_assoc (xs.take (n * 2))] at hz
      exact hz)
    have HR := hid (copies_ok M p5 c5 w5 hr HBIG.out)
    clear hF hr HA3
    go_wp2_with fail
    refine HR.out.mono ?_
    rintro e w6 ⟨p6, c6, rfl, _, _, hr, hb⟩
    have H6 := hid (hr.lt HBW.out.size); have HB7 := hid (HBW.out.trans (hb.mono HBW.out.size)); clear hr hb
    go_wp2_with fail
    go_ret
    exact ⟨p6, c6, rfl, H6.out, HB7.out⟩
end Go.Proofs.Ytjgjfcidfcfajaa.Bk
