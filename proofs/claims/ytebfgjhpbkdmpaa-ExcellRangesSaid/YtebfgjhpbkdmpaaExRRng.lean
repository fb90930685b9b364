/- The reference's Range of layer 16. -/
import Derived.Test.YtebfgjhpbkdmpaaExRBox
import Derived.Test.YtebfgjhpbkdmpaaExRng
import Derived.Test.YtebfgjhpbkdmpaaKyRMeet
namespace Go.Proofs.Ytebfgjhpbkdmpaa.Ex
open Go.RowKit
open Go.Lib (hid)
open Go.Proofs.Ytebfgjhpbkdmpaa.Ky
open Go.Proofs.Ytebfgjhpbkdmpaa.Pt
open Go.Proofs.Ytebfgjhpbkdmpaa.Bk

theorem own_stepE {w w' : World} {B n : Nat} {v : Value} {xs : List Value} (h : w.ownsRow B 3 1 v n xs) (hb : Below w.heap.size w w') : w'.ownsRow B 3 1 v n xs := by
  refine ⟨h.1, ?_⟩
  rcases h.2 with h0 | ⟨g, cap, cur, hv, hg, hh, rest⟩
  · exact .inl h0
  · exact .inr ⟨g, cap, cur, hv, hg, by rw [hb.block g (Array.getElem?_eq_some_iff.1 hh).1]; exact hh, rest⟩
theorem own_cellsE {w : World} {B : Nat} {v : Value} {xs : List Nat} (h : w.ownsRow B 3 1 v xs.length (ki xs)) : ∃ p c, v = .slice p xs.length c ∧ CellsAt w p (ki xs) := by
  rcases h.2 with ⟨rfl, h0⟩ | ⟨g, cap, cur, rfl, hb, hh, hn, hm, hs, ht⟩
  · have : xs = [] := List.eq_nil_of_length_eq_zero h0
    subst this
    exact ⟨none, 0, rfl, fun j hj => absurd hj (by simp [ki])⟩
  · refine ⟨_, _, rfl, fun j hj => ⟨g, 0, rfl, ?_⟩⟩
    rw [cell_of_row _ _ _ _ _ _ hh, Nat.zero_add]
    obtain ⟨x, hx⟩ : ∃ x, (ki xs)[j] = x := ⟨_, rfl⟩
    have h1 : (ki xs)[j]? = some x := by rw [List.getElem?_eq_getElem hj, hx]
    rw [hx]
    rw [← ht, List.getElem?_take] at h1
    split at h1
    · simpa using h1
    · simp at h1
/-- the addresses so far -/
def soFar (n D : Nat) (bl bh : List Nat) (i : Nat) : List Nat := (List.range i).filter (met n D bl bh)
theorem soFar_yes {n D : Nat} {bl bh : List Nat} {i : Nat} (h : met n D bl bh i = true) : soFar n D bl bh (i + 1) = soFar n D bl bh i ++ [i] := by
  unfold soFar; rw [List.range_succ, List.filter_append]; simp [h]
theorem soFar_no {n D : Nat} {bl bh : List Nat} {i : Nat} (h : met n D bl bh i = false) : soFar n D bl bh (i + 1) = soFar n D bl bh i := by
  unfold soFar; rw [List.range_succ, List.filter_append]; simp [h]
theorem soFar_len (n D : Nat) (bl bh : List Nat) (i : Nat) : (soFar n D bl bh i).length ≤ i := Nat.le_trans (List.length_filter_le _ _) (by simp)
def RGR (n D P : Nat) (bl bh : List Nat) (W : World) (B : Nat) (s8 s9 : Value) (wr : World) : Prop :=
  ∃ (i : Nat), s9 = .int .i64 (i : Int) ∧ i ≤ P ∧ wr.ownsRow B 3 1 s8 (soFar n D bl bh i).length (ki (soFar n D bl bh i)) ∧ Below B W wr
set_option maxRecDepth 100000 in
set_option maxHeartbeats 8000000 in
theorem refRange_yes {n D : Nat} {bl bh : List Nat} (hn : 1 ≤ n ∧ n ≤ 6) (hD : D ≤ 12) (h1 : bl.length = n) (h2 : bh.length = n) (hbx : boxB bl bh (n : Int) = true) (p q : Option Addr) (c c' : Nat) (w : World) (hp : Pt w p bl) (hq : Pt w q bh) :
    Calls Try.prog 20 #[.agg #[.slice p n c, .slice q n c'], .int .i64 (n : Int), .int .i64 (D : Int)] w (ListPost w (rangeL n D bl bh)) := by
  obtain ⟨P, hP⟩ : ∃ P, 2 ^ D = P := ⟨_, rfl⟩
  have hP1 : P ≤ 4096 := by rw [← hP]; exact (pow_12 hD).1
  have HRL := hid (show rangeL n D bl bh = soFar n D bl bh P by unfold rangeL soFar; rw [hP])
  obtain ⟨W, hW⟩ : ∃ W, w.alloc (.cells #[Value.slice p n c, .slice q n c'] 28) = W := ⟨_, rfl⟩
  have HB := hid (show Below w.heap.size w W by rw [← hW]; exact below_alloc _ _)
  have HG := hid (show W.heap[w.heap.size]? = some (.cells #[Value.slice p n c, .slice q n c'] 28 (0, 0)) by rw [← hW]; exact heap_alloc_new _ _)
  have HSW := hid (show W.heap.size = w.heap.size + 1 by rw [← hW]; simp)
  have HCB := hid (refCheckBox_ok bl bh p q c c' (n : Int) W (hp.below HB.out) (hq.below HB.out) (by omega))
  rw [hbx, h1, h2, err_true true rfl] at HCB
  have HBX := hid fun (i : Nat) (hi : i < P) (V : World) => (show Calls Try.prog 13 #[.int .i64 (n : Int), .int .i64 (D : Int), .int .i64 (i : Int)] V fun e w' => ∃ p c q c', e = .returned (.tuple #[.agg #[.slice p n c, .slice q n c'], .int .i64 0]) ∧ Pt w' p (cell n D i).1 ∧ Pt w' q (cell n D i).2 ∧ Below V.heap.size V w' from refBox_yes hn hD (by rw [hP]; exact hi) V)
  have HM := hid fun (i : Nat) (r s : Option Addr) (d d' : Nat) (V : World) (hb : Below w.heap.size w V) (g1 : Pt V r (cell n D i).1) (g2 : Pt V s (cell n D i).2) => (show Calls Try.prog 25 #[.agg #[.slice r n d, .slice s n d'], .agg #[.slice p n c, .slice q n c']] V fun e w' => ∃ A la k A' lb k', e = .returned (.tuple #[.agg #[.slice A la k, .slice A' lb k'], .bool (met n D bl bh i)]) ∧ Below V.heap.size V w' from by
    have f := cell_fit hn D i (by omega)
    have := refMeet_ok (cell n D i).1 (cell n D i).2 bl bh r s p q d d' c c' V g1 g2 (hp.below hb) (hq.below hb) (by omega)
    unfold NewBox at this
    rw [f.1, f.2, h1, h2] at this
    exact this.mono fun e w' ⟨A, k, A', k', e1, _, _, e2⟩ => ⟨A, _, k, A', _, k', e1, e2⟩)
  obtain ⟨i0, hi0, hz0, hz1, hz2⟩ := info_parts infoI
  have e1 : decide ((D : Int) < 0) = false := by simp
  have e2 : decide ((12 : Int) < (D : Int)) = false := by simp; omega
  have e2' : decide (12 < D) = false := by simp; omega
  have s0 : IntKind.u64.wrap (D : Int) = (D : Int) := Go.IntWalk.u64_in _ (by omega)
  have g3 : 0 ≤ (D : Int) := by omega
  have g4 : decide ((D : Int) < 0) = false := by simp
  have s1 : (2 : Int) ^ D = (P : Int) := by rw [← hP]; simp
  have s1' : (2 : Int) ^ (min D 64) = (P : Int) := by rw [Nat.min_eq_left (by omega)]; exact s1
  have s3 : IntKind.i64.wrap (P : Int) = (P : Int) := Go.IntWalk.i64_in _ (by omega)
  have z := two_cells HG.out
  have HPW := hid hP1
  clear hp hq hbx h1 h2 hP hP1 hn hD
  go_enter Try.func20, Try.ntmps20
  go_wp2_with fail
  refine HCB.out.mono ?_
  rintro e w1 ⟨rfl, hb⟩
  have HB1 := hid (show Below (w.heap.size + 1) W w1 by rw [← HSW.out]; exact hb)
  clear hb z hW
  go_wp2_with fail
  go_loopw [8, 9] (fun s8 s9 wr => RGR n D P bl bh W (w.heap.size + 1) s8 s9 wr) (fun _ s9 _ => P - (intOf s9).toNat)
  case atStart => exact ⟨0, rfl, by omega, World.ownsRow_nil _ _ _ _, HB1.out⟩
  case round =>
    rename World => wa
    obtain ⟨i, rfl, hi, ho, hb⟩ := hrel
    have HO := hid ho; have HBW := hid hb
    have hsz := HSW.out
    have HBA := hid (show Below w.heap.size w wa from HB.out.trans (hb.mono (by omega)))
    have HGA := hid (show wa.heap[w.heap.size]? = some (.cells #[Value.slice p n c, .slice q n c'] 28 (0, 0)) from (hb.block _ (by omega)).trans HG.out)
    have hws := hb.size
    have HWS := hid (show w.heap.size + 1 ≤ wa.heap.size by omega)
    by_cases hlt : i < P
    · have HI := hid hlt
      have hpw := HPW.out
      have e5 : decide ((i : Int) < (P : Int)) = true := by simp; omega
      have s4 : IntKind.i64.wrap ((i : Int) + 1) = (i : Int) + 1 := Go.IntWalk.i64_in _ (by omega)
      have hmax : (soFar n D bl bh i).length + 1 ≤ maxLen := by have := soFar_len n D bl bh i; unfold maxLen; omega
      have hby : ((soFar n D bl bh i).length + 1) * 8 ≤ 140737488355328 := by have := soFar_len n D bl bh i; omega
      clear ho hb hsz hws hi hpw
      go_wp2_with fail
      refine (HBX.out i HI.out wa).mono ?_
      rintro e w5 ⟨r, d, s, d', rfl, q1, q2, hb⟩
      obtain ⟨V1, hV1⟩ : ∃ V1, w5.alloc (.cells #[Value.slice r n d, .slice s n d'] 28) = V1 := ⟨_, rfl⟩
      have HV1 := hid (show Below wa.heap.size wa V1 by rw [← hV1]; exact hb.trans ((below_alloc w5 _).mono hb.size))
      have HQ1 := hid (show Pt V1 r _ by rw [← hV1]; exact q1.alloc _)
      have HQ2 := hid (show Pt V1 s _ by rw [← hV1]; exact q2.alloc _)
      have x1 := two_cells (show V1.heap[w5.heap.size]? = some (.cells #[Value.slice r n d, .slice s n d'] 28 (0, 0)) by rw [← hV1]; exact heap_alloc_new _ _)
      have x2 := two_cells ((HV1.out.block _ (lt_of HGA.out)).trans HGA.out)
      clear hb q1 q2
      go_wp2_with fail
      refine (HM.out i r s d d' V1 (HBA.out.trans (HV1.out.mono HBA.out.size)) HQ1.out HQ2.out).mono ?_
      rintro e w6 ⟨A0, la, k0, A1, lb, k1, rfl, hb⟩
      obtain ⟨V2, hV2⟩ : ∃ V2, w6.alloc (.cells #[Value.slice A0 la k0, .slice A1 lb k1] 28) = V2 := ⟨_, rfl⟩
      have HV2 := hid (show Below wa.heap.size wa V2 by
        have h5 : Below wa.heap.size wa w6 := HV1.out.trans (hb.mono HV1.out.size)
        rw [← hV2]; exact h5.trans ((below_alloc w6 _).mono h5.size))
      clear hb x1 x2 hV1
      have HSV : Hid (w.heap.size + 1 ≤ V2.heap.size) := hid (Nat.le_trans HWS.out HV2.out.size)
      cases hmt : met n D bl bh i with
      | true =>
        have HY := hid (soFar_yes hmt)
        have HO2 := hid (own_stepE HO.out HV2.out)
        have HSA : Hid (w.heap.size + 1 ≤ (V2.alloc (.cells #[Value.int .i64 (i : Int)] 3)).heap.size) := hid (by have := HSV.out; simp; omega)
        clear hmt
        go_wp2_with
          (at_builtin
           refine wpList_append_lies _ rfl (.tmp 47) (.tmp 49) _ rfl (w.heap.size + 1) 3 i0 _ 1 8 Try.underlying37 hi0 hz0 hz1 hz2 rfl (by omega) _ (soFar n D bl bh i).length (ki (soFar n D bl bh i)) rfl (HO2.out.alloc _)
             ⟨V2.heap.size, 0, none⟩ 1 1 [.int .i64 (i : Int)] rfl rfl (World.news_of_block (cs := #[.int .i64 (i : Int)]) (t := 3) (fr := (0, 0)) (heap_alloc_new V2 _)) (by simp [Value.oneCell']) (by omega) hmax hby HSA.out (V2.heap.size + 1) (by simp) ?_
           intro gg cap w7 ho7 hg7 _ _
           have HO7 := hid ho7
           have HB7 := hid (show Below (w.heap.size + 1) W w7 from ((HBW.out.trans (HV2.out.mono HWS.out)).alloc HSV.out _).grown hg7 HSA.out (fun k hk => (HO2.out.lt k hk).1))
           clear ho7 hg7)
        go_roundw
        case rel => exact ⟨i + 1, by go_num, HI.out, by rw [HY.out, List.length_append, ki_snoc]; exact HO7.out, HB7.out⟩
        case measure => simp [intOf]; have := HI.out; omega
      | false =>
        have HY := hid (soFar_no hmt)
        clear hmt
        go_wp2_with fail
        go_roundw
        case rel => exact ⟨i + 1, by go_num, HI.out, by rw [HY.out]; exact own_stepE HO.out HV2.out, HBW.out.trans (HV2.out.mono HWS.out)⟩
        case measure => simp [intOf]; have := HI.out; omega
    · have e5 : decide ((i : Int) < (P : Int)) = false := by simp; omega
      have e5' : decide (i < P) = false := by simpa using hlt
      obtain rfl : i = P := by omega
      obtain ⟨pp, cc, hv, hcl⟩ := own_cellsE ho
      subst hv
      have HCL := hid hcl
      clear ho hb hsz hws hi hlt hcl
      go_wp2_with fail
      go_ret2
      rw [HRL.out]
      exact ⟨pp, cc, rfl, HCL.out, HBA.out⟩
set_option maxRecDepth 100000 in
set_option maxHeartbeats 4000000 in
theorem refRange_no {bl bh : List Nat} (dim d : Int) (p q : Option Addr) (c c' : Nat) (w : World) (hp : Pt w p bl) (hq : Pt w q bh) (hl : bl.length ≤ 1000000) (h : rangeB bl bh dim d = false) :
    Calls Try.prog 20 #[.agg #[.slice p bl.length c, .slice q bh.length c'], .int .i64 dim, .int .i64 d] w fun e w' => e = .returned (.tuple #[.slice none 0 0, .int .i64 1]) ∧ Below w.heap.size w w' := by
  obtain ⟨W, hW⟩ : ∃ W, w.alloc (.cells #[Value.slice p bl.length c, .slice q bh.length c'] 28) = W := ⟨_, rfl⟩
  have HB := hid (show Below w.heap.size w W by rw [← hW]; exact below_alloc _ _)
  have z := two_cells (show W.heap[w.heap.size]? = some (.cells #[Value.slice p bl.length c, .slice q bh.length c'] 28 (0, 0)) by rw [← hW]; exact heap_alloc_new _ _)
  have HCB := hid (refCheckBox_ok bl bh p q c c' dim W (hp.below HB.out) (hq.below HB.out) (by omega))
  cases hbx : boxB bl bh dim with
  | false =>
    rw [hbx, err_false false rfl] at HCB
    clear hp hq hbx h
    go_enter Try.func20, Try.ntmps20
    go_wp2_with fail
    refine HCB.out.mono ?_
    rintro e w1 ⟨rfl, hb⟩
    have HBF := hid (HB.out.trans (hb.mono HB.out.size))
    clear z hb hW
    go_wp2_with fail
    go_ret2
    exact ⟨rfl, HBF.out⟩
  | true =>
    have hm : ¬ (0 ≤ d ∧ d ≤ 12) := fun hh => by
      unfold rangeB mayD at h
      rw [hbx, decide_eq_true hh.1, decide_eq_true hh.2] at h
      cases h
    rw [hbx, err_true true rfl] at HCB
    by_cases h0 : d < 0
    · have e1 : decide (d < 0) = true := by simpa using h0
      clear hp hq hbx h hm h0
      go_enter Try.func20, Try.ntmps20
      go_wp2_with fail
      refine HCB.out.mono ?_
      rintro e w1 ⟨rfl, hb⟩
      have HBF := hid (HB.out.trans (hb.mono HB.out.size))
      clear z hb hW
      go_wp2_with fail
      go_ret2
      exact ⟨rfl, HBF.out⟩
    · have e1 : decide (d < 0) = false := by simpa using h0
      have e2 : decide (12 < d) = true := by simp; omega
      clear hp hq hbx h hm h0
      go_enter Try.func20, Try.ntmps20
      go_wp2_with fail
      refine HCB.out.mono ?_
      rintro e w1 ⟨rfl, hb⟩
      have HBF := hid (HB.out.trans (hb.mono HB.out.size))
      clear z hb hW
      go_wp2_with fail
      go_ret2
      exact ⟨rfl, HBF.out⟩
end Go.Proofs.Ytebfgjhpbkdmpaa.Ex
