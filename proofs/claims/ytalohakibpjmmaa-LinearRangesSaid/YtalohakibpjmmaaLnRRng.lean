/- Range of the reference's linear. -/
import Derived.Test.YtalohakibpjmmaaLnRef
namespace Go.Proofs.Ytalohakibpjmmaa.Ln
open Go.RowKit
open Go.Lib (hid)
open Go.Proofs.Ytalohakibpjmmaa.Ky
open Go.Proofs.Ytalohakibpjmmaa.Pt
open Go.Proofs.Ytalohakibpjmmaa.Bk
open Go.Proofs.Ytalohakibpjmmaa.Ex

/-- the chains so far -/
def soFarC (n L X : Nat) (bl bh : List Nat) (i : Nat) : List Nat := (List.range i).filter (metC n L X bl bh)
theorem soFarC_yes {n L X : Nat} {bl bh : List Nat} {i : Nat} (h : metC n L X bl bh i = true) : soFarC n L X bl bh (i + 1) = soFarC n L X bl bh i ++ [i] := by
  unfold soFarC; rw [List.range_succ, List.filter_append]; simp [h]
theorem soFarC_no {n L X : Nat} {bl bh : List Nat} {i : Nat} (h : metC n L X bl bh i = false) : soFarC n L X bl bh (i + 1) = soFarC n L X bl bh i := by
  unfold soFarC; rw [List.range_succ, List.filter_append]; simp [h]
theorem soFarC_len (n L X : Nat) (bl bh : List Nat) (i : Nat) : (soFarC n L X bl bh i).length ≤ i := Nat.le_trans (List.length_filter_le _ _) (by simp)
def RGC (n L X P : Nat) (bl bh : List Nat) (W : World) (B : Nat) (s10 s11 : Value) (wr : World) : Prop :=
  ∃ (i : Nat), s11 = .int .i64 (i : Int) ∧ i ≤ P ∧ wr.ownsRow B 3 1 s10 (soFarC n L X bl bh i).length (ki (soFarC n L X bl bh i)) ∧ Below B W wr
set_option maxRecDepth 100000 in
set_option maxHeartbeats 8000000 in
theorem refRangeL_yes {n L X : Nat} {bl bh : List Nat} (hn : 1 ≤ n ∧ n ≤ 6) (hL : L ≤ 10) (hX : X < 2 ^ L) (h1 : bl.length = n) (h2 : bh.length = n) (hbx : boxB bl bh (n : Int) = true) (p q : Option Addr) (c c' : Nat) (w : World) (hp : Pt w p bl) (hq : Pt w q bh) :
    Calls Try.prog 18 #[.agg #[.slice p n c, .slice q n c'], .int .i64 (L : Int), .int .i64 (X : Int)] w (ListPost w (rng n L X bl bh)) := by
  obtain ⟨P, hP⟩ : ∃ P, 2 ^ L + X = P := ⟨_, rfl⟩
  have hp10 := pow_10 hL
  have hP1 : P ≤ 4096 := by omega
  have HRL := hid (show rng n L X bl bh = soFarC n L X bl bh P by unfold rng soFarC; rw [hP])
  obtain ⟨W, hW⟩ : ∃ W, w.alloc (.cells #[Value.slice p n c, .slice q n c'] 32) = W := ⟨_, rfl⟩
  have HB := hid (show Below w.heap.size w W by rw [← hW]; exact below_alloc _ _)
  have HG := hid (show W.heap[w.heap.size]? = some (.cells #[Value.slice p n c, .slice q n c'] 32 (0, 0)) by rw [← hW]; exact heap_alloc_new _ _)
  have HSW := hid (show W.heap.size = w.heap.size + 1 by rw [← hW]; simp)
  have HCN := hid fun V : World => refCount_ok (L : Int) (X : Int) V
  rw [lvB_iff.2 ⟨L, X, rfl, hL, rfl, hX⟩, err_true true rfl, show cntV (L : Int) (X : Int) = ((2 ^ L + X : Nat) : Int) by unfold cntV; rw [lvB_iff.2 ⟨L, X, rfl, hL, rfl, hX⟩, if_pos rfl, Int.toNat_natCast]; omega, hP] at HCN
  have HCB := hid (refCheckBox_ok bl bh p q c c' (n : Int) W (hp.below HB.out) (hq.below HB.out) (by omega))
  rw [hbx, h1, h2, err_true true rfl] at HCB
  have HBX := hid fun (i : Nat) (hi : i < P) (V : World) => (show Calls Try.prog 15 #[.int .i64 (n : Int), .int .i64 (L : Int), .int .i64 (X : Int), .int .i64 (i : Int)] V fun e w' => ∃ p c q c', e = .returned (.tuple #[.agg #[.slice p n c, .slice q n c'], .int .i64 0]) ∧ Pt w' p (cell n (dep L X i) (adr X i)).1 ∧ Pt w' q (cell n (dep L X i) (adr X i)).2 ∧ Below V.heap.size V w' from refBoxL_yes hn hL hX (by rw [hP]; exact hi) V)
  have HM := hid fun (i : Nat) (r s : Option Addr) (d d' : Nat) (V : World) (hb : Below w.heap.size w V) (g1 : Pt V r (cell n (dep L X i) (adr X i)).1) (g2 : Pt V s (cell n (dep L X i) (adr X i)).2) => (show Calls Try.prog 37 #[.agg #[.slice r n d, .slice s n d'], .agg #[.slice p n c, .slice q n c']] V fun e w' => ∃ A la k A' lb k', e = .returned (.tuple #[.agg #[.slice A la k, .slice A' lb k'], .bool (metC n L X bl bh i)]) ∧ Below V.heap.size V w' from by
    have hd := dep_le (L := L) (X := X) (c := i) hL
    have f := cell_fit hn (dep L X i) (adr X i) (by omega)
    have := refMeet_ok (cell n (dep L X i) (adr X i)).1 (cell n (dep L X i) (adr X i)).2 bl bh r s p q d d' c c' V g1 g2 (hp.below hb) (hq.below hb) (by omega)
    unfold NewBox at this
    rw [f.1, f.2, h1, h2] at this
    exact this.mono fun e w' ⟨A, k, A', k', e1, _, _, e2⟩ => ⟨A, _, k, A', _, k', e1, e2⟩)
  obtain ⟨i0, hi0, hz0, hz1, hz2⟩ := info_parts infoI
  have z := two_cells HG.out
  have HPW := hid hP1
  clear hp hq hbx h1 h2 hP hP1 hn hL hX hp10
  go_enter Try.func18, Try.ntmps18
  go_wp2_with fail
  refine (HCN.out _).mono ?_
  rintro e w1 ⟨rfl, rfl⟩
  go_wp2_with fail
  refine HCB.out.mono ?_
  rintro e w1 ⟨rfl, hb⟩
  have HB1 := hid (show Below (w.heap.size + 1) W w1 by rw [← HSW.out]; exact hb)
  clear hb z hW
  go_wp2_with fail
  go_loopw [10, 11] (fun s10 s11 wr => RGC n L X P bl bh W (w.heap.size + 1) s10 s11 wr) (fun _ s11 _ => P - (intOf s11).toNat)
  case atStart => exact ⟨0, rfl, by omega, World.ownsRow_nil _ _ _ _, HB1.out⟩
  case round =>
    rename World => wa
    obtain ⟨i, rfl, hi, ho, hb⟩ := hrel
    have HO := hid ho; have HBW := hid hb
    have hsz := HSW.out
    have HBA := hid (show Below w.heap.size w wa from HB.out.trans (hb.mono (by omega)))
    have HGA := hid (show wa.heap[w.heap.size]? = some (.cells #[Value.slice p n c, .slice q n c'] 32 (0, 0)) from (hb.block _ (by omega)).trans HG.out)
    have hws := hb.size
    have HWS := hid (show w.heap.size + 1 ≤ wa.heap.size by omega)
    by_cases hlt : i < P
    · have HI := hid hlt
      have hpw := HPW.out
      have e5 : decide ((i : Int) < (P : Int)) = true := by simp; omega
      have e5' : decide (i < P) = true := by simpa using hlt
      have s4 : IntKind.i64.wrap ((i : Int) + 1) = (i : Int) + 1 := Go.IntWalk.i64_in _ (by omega)
      have hmax : (soFarC n L X bl bh i).length + 1 ≤ maxLen := by have := soFarC_len n L X bl bh i; unfold maxLen; omega
      have hby : ((soFarC n L X bl bh i).length + 1) * 8 ≤ 140737488355328 := by have := soFarC_len n L X bl bh i; omega
      have x0 := two_cells HGA.out
      clear ho hb hsz hws hi hpw
      go_wp2_with fail
      refine (HBX.out i HI.out wa).mono ?_
      rintro e w5 ⟨r, d, s, d', rfl, q1, q2, hb⟩
      obtain ⟨V1, hV1⟩ : ∃ V1, w5.alloc (.cells #[Value.slice r n d, .slice s n d'] 32) = V1 := ⟨_, rfl⟩
      have HV1 := hid (show Below wa.heap.size wa V1 by rw [← hV1]; exact hb.trans ((below_alloc w5 _).mono hb.size))
      have HQ1 := hid (show Pt V1 r _ by rw [← hV1]; exact q1.alloc _)
      have HQ2 := hid (show Pt V1 s _ by rw [← hV1]; exact q2.alloc _)
      have x1 := two_cells (show V1.heap[w5.heap.size]? = some (.cells #[Value.slice r n d, .slice s n d'] 32 (0, 0)) by rw [← hV1]; exact heap_alloc_new _ _)
      have x2 := two_cells ((HV1.out.block _ (lt_of HGA.out)).trans HGA.out)
      clear hb q1 q2 x0
      go_wp2_with fail
      refine (HM.out i r s d d' V1 (HBA.out.trans (HV1.out.mono HBA.out.size)) HQ1.out HQ2.out).mono ?_
      rintro e w6 ⟨A0, la, k0, A1, lb, k1, rfl, hb⟩
      obtain ⟨V2, hV2⟩ : ∃ V2, w6.alloc (.cells #[Value.slice A0 la k0, .slice A1 lb k1] 32) = V2 := ⟨_, rfl⟩
      have HV2 := hid (show Below wa.heap.size wa V2 by
        have h5 : Below wa.heap.size wa w6 := HV1.out.trans (hb.mono HV1.out.size)
        rw [← hV2]; exact h5.trans ((below_alloc w6 _).mono h5.size))
      clear hb x1 x2 hV1
      have HSV : Hid (w.heap.size + 1 ≤ V2.heap.size) := hid (Nat.le_trans HWS.out HV2.out.size)
      cases hmt : metC n L X bl bh i with
      | true =>
        have HY := hid (soFarC_yes hmt)
        have HO2 := hid (own_stepE HO.out HV2.out)
        have HSA : Hid (w.heap.size + 1 ≤ (V2.alloc (.cells #[Value.int .i64 (i : Int)] 3)).heap.size) := hid (by have := HSV.out; simp; omega)
        clear hmt
        go_wp2_with
          (at_builtin
           refine wpList_append_lies _ rfl (.tmp 54) (.tmp 56) _ rfl (w.heap.size + 1) 3 i0 _ 1 8 Try.underlying37 hi0 hz0 hz1 hz2 rfl (by omega) _ (soFarC n L X bl bh i).length (ki (soFarC n L X bl bh i)) rfl (HO2.out.alloc _)
             ⟨V2.heap.size, 0, none⟩ 1 1 [.int .i64 (i : Int)] rfl rfl (World.news_of_block (cs := #[.int .i64 (i : Int)]) (t := 3) (fr := (0, 0)) (heap_alloc_new V2 _)) (by simp [Value.oneCell']) (by omega) hmax hby HSA.out (V2.heap.size + 1) (by simp) ?_
           intro gg cap w7 ho7 hg7 _ _
           have HO7 := hid ho7
           have HB7 := hid (show Below (w.heap.size + 1) W w7 from ((HBW.out.trans (HV2.out.mono HWS.out)).alloc HSV.out _).grown hg7 HSA.out (fun k hk => (HO2.out.lt k hk).1))
           clear ho7 hg7)
        go_roundw
        case rel => exact ⟨i + 1, by go_num, HI.out, by rw [HY.out, List.length_append, ki_snoc]; exact HO7.out, HB7.out⟩
        case measure => simp [intOf]; have := HI.out; omega
      | false =>
        have HY := hid (soFarC_no hmt)
        clear hmt
        go_wp2_with fail
        go_roundw
        case rel => exact ⟨i + 1, by go_num, HI.out, by rw [HY.out]; exact own_stepE HO.out HV2.out, HBW.out.trans (HV2.out.mono HWS.out)⟩
        case measure => simp [intOf]; have := HI.out; omega
    · have e5 : decide ((i : Int) < (P : Int)) = false := by simp; omega
      have e5' : decide (i < P) = false := by simpa using hlt
      obtain rfl : i = P := by omega
      obtain ⟨pp, cc, hv, hcl⟩ := own_cellsE ho
      subst hv
      have HCL := hid hcl
      clear ho hb hsz hws hi hlt hcl
      go_wp2_with fail
      go_ret2
      rw [HRL.out]
      exact ⟨pp, cc, rfl, HCL.out, HBA.out⟩
set_option maxRecDepth 100000 in
set_option maxHeartbeats 4000000 in
theorem refRangeL_no {bl bh : List Nat} (l x : Int) (p q : Option Addr) (c c' : Nat) (w : World) (hp : Pt w p bl) (hq : Pt w q bh) (hl : bl.length ≤ 1000000) (h : rnB bl bh l x = false) :
    Calls Try.prog 18 #[.agg #[.slice p bl.length c, .slice q bh.length c'], .int .i64 l, .int .i64 x] w fun e w' => e = .returned (.tuple #[.slice none 0 0, .int .i64 1]) ∧ Below w.heap.size w w' := by
  have HC := hid fun V : World => refCount_ok l x V
  obtain ⟨W, hW⟩ : ∃ W, w.alloc (.cells #[Value.slice p bl.length c, .slice q bh.length c'] 32) = W := ⟨_, rfl⟩
  have HB := hid (show Below w.heap.size w W by rw [← hW]; exact below_alloc _ _)
  have z := two_cells (show W.heap[w.heap.size]? = some (.cells #[Value.slice p bl.length c, .slice q bh.length c'] 32 (0, 0)) by rw [← hW]; exact heap_alloc_new _ _)
  have HCB := hid (refCheckBox_ok bl bh p q c c' (bl.length : Int) W (hp.below HB.out) (hq.below HB.out) (by omega))
  cases hv : lvB l x with
  | false =>
    rw [hv, err_false false rfl] at HC
    generalize cntV l x = n at HC
    clear hp hq hl h hv HCB
    go_enter Try.func18, Try.ntmps18
    go_wp2_with fail
    refine (HC.out _).mono ?_
    rintro e w1 ⟨rfl, rfl⟩
    go_wp2_with fail
    go_ret2
    exact ⟨rfl, HB.out⟩
  | true =>
    rw [hv, err_true true rfl] at HC
    have hb : boxB bl bh (bl.length : Int) = false := by unfold rnB at h; rw [hv, Bool.true_and] at h; exact h
    rw [hb, err_false false rfl] at HCB
    generalize cntV l x = n at HC
    clear hp hq hl h hv hb
    go_enter Try.func18, Try.ntmps18
    go_wp2_with fail
    refine (HC.out _).mono ?_
    rintro e w1 ⟨rfl, rfl⟩
    go_wp2_with fail
    refine HCB.out.mono ?_
    rintro e w1 ⟨rfl, hb⟩
    have HBF := hid (HB.out.trans (hb.mono HB.out.size))
    clear z hb hW
    go_wp2_with fail
    go_ret2
    exact ⟨rfl, HBF.out⟩
theorem refRangeL_any {bl bh : List Nat} (l x : Int) (p q : Option Addr) (c c' : Nat) (w : World) (hp : Pt w p bl) (hq : Pt w q bh) (hl : bl.length ≤ 1000000) :
    Calls Try.prog 18 #[.agg #[.slice p bl.length c, .slice q bh.length c'], .int .i64 l, .int .i64 x] w (AnyList w (rnL bl bh l x) (err (rnB bl bh l x))) := by
  cases h : rnB bl bh l x with
  | false =>
    rw [show rnL bl bh l x = [] by unfold rnL; rw [h]; rfl]
    exact (refRangeL_no l x p q c c' w hp hq hl h).mono fun e w' ⟨h1, h2⟩ => ⟨none, 0, h1, fun j hj => absurd hj (by simp [ki]), h2⟩
  | true =>
    rw [show rnL bl bh l x = rng bl.length l.toNat x.toNat bl bh by unfold rnL; rw [h, if_pos rfl]]
    obtain ⟨L, X, rfl, hL, rfl, hX, hn, h2, hb⟩ := rn_parts h
    rw [Int.toNat_natCast, Int.toNat_natCast, h2]
    exact refRangeL_yes hn hL hX rfl h2 hb p q c c' w hp hq
theorem refBoxL_any (dim l x c : Int) (w : World) : Calls Try.prog 15 #[.int .i64 dim, .int .i64 l, .int .i64 x, .int .i64 c] w (AnyBox w (bL dim l x c) (err (bB dim l x c))) := by
  cases h : bB dim l x c with
  | false =>
    rw [bL_no h, err_false false rfl]
    exact (refBoxL_no h w).mono fun e w' ⟨h1, h2⟩ => ⟨none, 0, none, 0, h1, Pt.nil _ _, Pt.nil _ _, h2⟩
  | true =>
    obtain ⟨n, L, X, C, rfl, h1, h2, rfl, hL, rfl, hX, rfl, hC⟩ := bB_iff.1 h
    have hd := dep_le (L := L) (X := X) (c := C) hL
    have f := cell_fit ⟨h1, h2⟩ (dep L X C) (adr X C) (by omega)
    have := refBoxL_yes ⟨h1, h2⟩ hL hX hC w
    rw [bL_yes ⟨h1, h2⟩ hL hX hC]
    unfold AnyBox
    rw [f.1, f.2]
    exact this
end Go.Proofs.Ytalohakibpjmmaa.Ln
