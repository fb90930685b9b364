/- All of region: all numbers, rising, and whether each stands in a whole range. -/
import Derived.Test.YtnmhdlincgefeaaRgOf
import Derived.Test.YtnmhdlincgefeaaRgKeys
import Derived.Maps.OwnRows
import Derived.Maps.OwnOps
import Derived.Maps.GroupsBeside
import Derived.Maps.AppendAt
namespace Go.Proofs.Ytnmhdlincgefeaa.Rg
open Go.RowKit Go.Shelf Go.Maps Go.ChangeShapes Go.ChangeMaps Go.MapKept Go.WideMaps
open Go.Lib (hid)
open Go.Proofs.Ytnmhdlincgefeaa.Sl

theorem claw : Keyed Try.prog 3 := int_keyed Try.underlying3
theorem czero (w : World) : (zeroValue 22).run Try.prog w = .ok (.slice none 0 0) w := by kernel_rfl
theorem groups_empty {H : Type} {w : World} {P : Program} {k : TypeId} {base M : Nat} {e : TypeId} {q : IntKind} (hm : w.heap[M]? = some (.map #[] 0)) (hb : M < base) : w.ownsGroups (H := H) P k base e q M 0 (.map []) :=
  ⟨#[], 0, hm, ⟨by simp, stamped_empty 0, by simp⟩, Nat.le_refl _, rfl, hb, by simp, by simp⟩
theorem grown_below {w w' : World} (h : Below w.heap.size w w') : w.grownBy w' none := ⟨h.os, h.tape, h.output, h.size, fun k hk _ => h.block k hk⟩
theorem groups_below {H : Type} {w w' : World} {P : Program} {k : TypeId} {base M : Nat} {e : TypeId} {q : IntKind} {n : Nat} {D : DataW H} (h : w.ownsGroups P k base e q M n D) (hb : Below w.heap.size w w') : w'.ownsGroups P k base e q M n D :=
  h.kept (grown_below hb) (by simp) (fun _ _ _ _ _ => by
    rename_i x _
    cases hx : x.val.ownBlock with
    | none => exact .inl rfl
    | some g => exact .inr (by simp))
theorem onl_grown {M : Nat} {a b c : World} {row : Option Nat} (h : Onl (· = M) a b) (hg : b.grownBy c row) (hr : ∀ j, row = some j → j = M ∨ a.heap.size ≤ j) : Onl (· = M) a c :=
  ⟨hg.os.trans h.os, hg.tape.trans h.tape, hg.output.trans h.output, Nat.le_trans h.size hg.size, fun j hj hM => (hg.block j (Nat.lt_of_lt_of_le hj h.size) (fun e => by
    rcases hr j e.symm with e1 | e1
    · exact hM e1
    · omega)).trans (h.block j hj hM)⟩
/-- what All answers to whether each stands in a whole range -/
def allB (S : List Nat) (C : List Int) : Bool := (numL C).all (fun x => (filledL S (plc C C.length x)).isSome) && decide (0 < (numL C).length)
/-- what All hands back -/
def ARet (w : World) (S : List Nat) (C : List Int) (e : Ending) (w' : World) : Prop := ∃ p c, e = .returned (.tuple #[.slice p (numL C).length c, .bool (allB S C)]) ∧ CellsAt w' p (iv (numL C)) ∧ Below w.heap.size w w'
theorem ARet.mk {w w' : World} {S : List Nat} {C N : List Int} {p : Option Addr} {c : Nat} {bb : Bool} (hN : numL C = N) (hb : allB S C = bb) (hc : CellsAt w' p (iv N)) (hw : Below w.heap.size w w') : ARet w S C (.returned (.tuple #[.slice p N.length c, .bool bb])) w' := by
  subst hN; subst hb
  exact ⟨p, c, rfl, hc, hw⟩
theorem all_take (l : List Int) (f : Int → Bool) (k : Nat) (hk : k < l.length) (h : (l.take k).all f = true) : (l.take (k + 1)).all f = f l[k] := by
  rw [List.take_succ_eq_append_getElem hk, List.all_append, h]; simp
theorem all_not (l : List Int) (f : Int → Bool) (k : Nat) (hk : k < l.length) (h : f l[k] = false) : l.all f = false := by
  rw [List.all_eq_false]
  exact ⟨l[k], List.getElem_mem hk, by rw [h]; simp⟩
set_option maxRecDepth 100000 in
set_option maxHeartbeats 8000000 in
theorem all_gen (x : Value) (S : List Nat) (C : List Int) (w : World) (hcl : C.length ≤ 4096) (hwf : ∀ z ∈ C, (Lit.int .i64 z).wf = true) (hF : C ≠ [] → Fits S C)
    (hC : ∀ V : World, Below w.heap.size w V → Calls Try.prog 16 #[x] V (Cloned V C)) (hZ : ∀ V : World, Below w.heap.size w V → Calls Try.prog 26 #[x] V (Cloned V (zs S))) :
    Calls Try.prog 12 #[x] w (ARet w S C) := by
  have hmm := @run_makeMap Try.prog
  obtain ⟨i0, hi, hz0, hz1, hz2⟩ := info_parts iinfo
  obtain ⟨W1, hW1⟩ : ∃ W1, w.alloc (.map #[] 0) = W1 := ⟨_, rfl⟩
  have hb1 : Below w.heap.size w W1 := by rw [← hW1]; exact below_alloc w _
  have hM : W1.heap[w.heap.size]? = some (.map #[] 0) := by rw [← hW1]; exact World.alloc_heap_new w _
  have HC := hid (hC W1 hb1)
  have HZ := hid hZ; have HF := hid hF; have HCL := hid hcl; have HB1 := hid hb1; have HMM := hid hM; have HWF := hid hwf
  clear hC hZ hF hb1 hM hcl hwf
  go_enter Try.func12, Try.ntmps12
  go_wp2_with fail
  refine HC.out.mono ?_
  rintro e w2 ⟨p1, c1, rfl, -, hc1, hb2, h0⟩
  have HC1 := hid hc1
  have HP1 := hid (fun h => (h0 h).1)
  have hMlt : w.heap.size < W1.heap.size := (Array.getElem?_eq_some_iff.1 HMM.out).1
  have hM2 : w2.heap[w.heap.size]? = some (.map #[] 0) := (hb2.block _ hMlt).trans HMM.out
  have hlt2 : w.heap.size < w2.heap.size := Nat.lt_of_lt_of_le hMlt hb2.size
  have HB2 := hid (HB1.out.trans (hb2.mono HB1.out.size))
  have HG0 := hid (groups_empty (H := Unit) (P := Try.prog) (k := 3) (base := w2.heap.size) (e := 3) (q := .i64) hM2 hlt2)
  have HLT2 := hid hlt2
  have HM1 := hid hMlt
  clear hc1 hb2 hMlt hM2 HC hmm hlt2 hW1 h0
  go_wp2_with fail
  go_loopw [18] (fun i wr => ∃ k : Nat, k ≤ C.length ∧ i = .int .i64 (k : Int) ∧ wr.ownsGroups (H := Unit) Try.prog 3 w2.heap.size 3 .i64 w.heap.size k (grp C k) ∧ Onl (· = w.heap.size) w2 wr) (fun i _ => C.length - (match i with | .int _ z => z.toNat | _ => 0))
  case atStart => exact ⟨0, Nat.zero_le _, rfl, HG0.out, Onl.ofBelow (Below.refl _ _)⟩
  case round =>
    obtain ⟨k, hk, rfl, hown, hon⟩ := hrel
    by_cases hlt : k < C.length
    · obtain ⟨b1, o1, rfl, lt1, d1⟩ := HC1.out k (by rw [iv_length]; exact hlt)
      rw [iv_at C k hlt] at d1
      have hne : b1 ≠ w.heap.size := fun e => by
        have h1 := HP1.out (by omega)
        injection h1 with h1; injection h1 with h1
        have := HM1.out
        omega
      have d1 := (World.cell?_of_block (a := ⟨b1, o1 + k, none⟩) (hon.block b1 lt1 hne)).trans d1
      have hg : C.getD k 0 = C[k] := by rw [List.getD_eq_getElem?_getD, List.getElem?_eq_getElem hlt]; rfl
      have hkw := HWF.out _ (List.getElem_mem hlt)
      have hkey : keyOf Try.prog 3 (.int .i64 C[k]) = some (.int .i64 C[k]) := keyOf_int_mk Try.underlying3 hkw
      rw [← hg] at d1 hkey
      generalize hz : C.getD k 0 = z at d1 hkey
      have hcl := HCL.out
      clear hkw
      have HHG := hid hz
      clear hz hg
      go_wp2_with (first
        | (at_lookup; refine wpList_lookup_groups _ rfl _ _ 65 rfl 3 22 3 .i64 claw Try.underlying65 (czero _) w2.heap.size w.heap.size k _ rfl hown (by unfold maxLen; omega) _ _ rfl hkey ?_; intro v zl hat hoi hzl hback)
        | (at_builtin; refine wpList_append_own_at _ rfl _ _ 22 rfl w2.heap.size 3 i0 (.int .i64 0) 1 8 Try.underlying22 hi hz0 hz1 hz2 rfl (by decide) _ _ _ rfl (hoi.1.alloc _) ⟨wr.heap.size, 0, none⟩ 1 1 [.int .i64 k] rfl rfl (cell_one_new _ _ _) (ints_oneCell .i64 [(k : Int)]) (by unfold maxLen; omega) (by omega) (by have := hon.size; simp; omega) ?_; intro v' w3 hown' hgrow hnil hloc)
        | (at_mapUpdate; refine wpList_mapUpdate_back _ rfl _ _ _ 65 rfl hback rfl rfl rfl ((World.grownBy_alloc _ _ _).trans hgrow) (hoi.appended hown' (WalkArith.wf_i64 (by omega))) (by simp; omega) (hloc.imp id (fun h => ⟨_, h, by simp⟩)) ?_; intro w4 hown2 hgrow2)
        | go_in)
      have hall := (World.grownBy_alloc wr _ _).trans hgrow
      have hon2 : Onl (· = w.heap.size) w2 w4 := onl_grown (onl_grown hon hall (fun j hj => .inr (hoi.1.lt j hj).1)) hgrow2 (fun j hj => by cases hj; exact .inl rfl)
      have HOI := hid hoi; have HAT := hid hat; have HOW := hid hown2; have HAP := hid (hoi.appended hown' (WalkArith.wf_i64 (by omega)))
      have HON := hid hon2
      go_roundw
      case rel =>
        refine ⟨k + 1, by omega, by go_num, ?_, HON.out⟩
        have := HOW.out
        rw [← HHG.out] at this
        rw [← grp_step (H := Unit) (C := C) (k := k) (by rw [HHG.out]; exact HAT.out) HOI.out HAP.out]
        exact this
      case measure => simp; omega
    · obtain rfl : k = C.length := by omega
      have HPERM := hid (grp_keys (groups_map hown) claw Try.underlying3)
      have hsz := grp_size (H := Unit) C C.length
      have hcl := HCL.out
      have hbw : Below w.heap.size w wr := HB2.out.trans (hon.below (Nat.le_of_lt HLT2.out) (fun j hj => by omega))
      have HSRT := hid (sorted_ok w.heap.size C.length (grp (H := Unit) C C.length) _ wr (groups_map hown) (by unfold maxLen; omega) (by omega))
      have HKEY := hid (keys_ok (some w.heap.size) wr)
      have HOWN := hid hown; have HBW := hid hbw
      clear hown hon hbw hsz
      go_wp2_with fail
      refine HKEY.out.mono ?_
      rintro e w5 ⟨rfl, rfl⟩
      go_wp2_with fail
      refine HSRT.out.mono ?_
      rintro e w6 ⟨v6, ss, rfl, hss, ho6, -, hb6⟩
      have hpm : ss.Perm (numL C) := hss.trans HPERM.out.symm
      rw [numL_sort C ss hpm, hpm.length_eq] at ho6
      obtain ⟨p6, c6, rfl, -, hc6⟩ := own_cells (l := numL C) ho6
      have hb6' : Below wr.heap.size wr w6 := (below_alloc wr _).trans (hb6.mono (by omega))
      have HC6 := hid hc6
      have HB6 := hid (HBW.out.trans (hb6'.mono HBW.out.size))
      have HG6 := hid (groups_below HOWN.out hb6')
      have HZ6 := hid (HZ.out _ HB6.out)
      clear hss hpm ho6 hc6 hb6 hb6' HSRT HKEY HOWN HBW HPERM
      go_wp2_with fail
      refine HZ6.out.mono ?_
      rintro e w7 ⟨p7, c7, rfl, -, hc7, hb7, -⟩
      have HC7 := hid hc7
      have HB7 := hid (HB6.out.trans (hb7.mono HB6.out.size))
      have HG7 := hid (groups_below HG6.out hb7)
      have HN7 := hid (HC6.out.below hb7)
      have hnl := numL_len C
      have HNL := hid hnl
      clear hc7 hb7 hnl
      rw [zs_len]
      generalize hNN : numL C = N at *
      have HNN := hid hNN
      clear hNN
      go_wp2_with fail
      go_loopw [39] (fun i wr => ∃ k : Nat, k ≤ N.length ∧ i = .int .i64 (k : Int) ∧ (N.take k).all (fun x => (filledL S (plc C C.length x)).isSome) = true ∧ Below w7.heap.size w7 wr) (fun i _ => N.length - (match i with | .int _ z => z.toNat | _ => 0))
      case atStart => exact ⟨0, Nat.zero_le _, rfl, by simp, Below.refl _ _⟩
      case round =>
        obtain ⟨k, hk, rfl, hall, hb⟩ := hrel
        by_cases hlt : k < N.length
        · obtain ⟨b1, o1, rfl, lt1, d1⟩ := HN7.out k (by rw [iv_length]; exact hlt)
          rw [iv_at N k hlt] at d1
          have d1 := (hb.cell (p := ⟨b1, o1 + k, none⟩) lt1).trans d1
          have hmem : N[k] ∈ C := (numL_mem C _).1 (by rw [HNN.out]; exact List.getElem_mem hlt)
          have hF := HF.out (fun e => by rw [e] at hmem; cases hmem)
          have hkey : keyOf Try.prog 3 (.int .i64 N[k]) = some (.int .i64 N[k]) := keyOf_int_mk Try.underlying3 (HWF.out _ hmem)
          have hgr := groups_below HG7.out hb
          have HALL := hid (all_take N (fun x => (filledL S (plc C C.length x)).isSome) k hlt hall)
          have HNO := hid (all_not N (fun x => (filledL S (plc C C.length x)).isSome) k hlt)
          have HFF := hid hF
          have HB := hid hb
          have HCC7 := hid (HC7.out.below hb)
          have hcl := HCL.out
          have hnl := HNL.out
          clear hmem hF hall hb
          generalize N[k] = z at d1 hkey HALL HNO
          go_wp2_with (first
            | (at_lookup; refine wpList_lookup_groups _ rfl _ _ 65 rfl 3 22 3 .i64 claw Try.underlying65 (czero _) w2.heap.size w.heap.size C.length _ rfl hgr (by unfold maxLen; omega) _ _ rfl hkey ?_; intro v zl hat hoi hzl hback; have hzz := grp_zs hat hoi; obtain ⟨pv, cv, hv, hcv, hrd⟩ := own_cells (l := zl) hoi.1; have hln : zl.length = (plc C C.length z).length := (by rw [hzz, List.length_map]); rw [hln] at hv hcv; have hrd2 := (show CellsAt wr pv (iv (zs (plc C C.length z))) from (by rw [hzz] at hrd; exact hrd)); clear hat hoi hback hzl hrd hzz; subst hv)
            | fail)
          have hpl := plc_len C C.length z
          have HFL := hid (filled_ok S (plc C C.length z) p7 pv c7 cv wr HCC7.out hrd2 HFF.out.pos HFF.out.few (List.length_pos_iff.2 HFF.out.some) HFF.out.most (fun y hy => by have := plc_lt hy; omega) (by omega) hcv)
          clear hgr hrd2 hcv hln hpl
          cases hfl : (filledL S (plc C C.length z)).isSome with
          | true =>
            refine HFL.out.mono ?_
            rintro e w8 ⟨q1, q2, k1, k2, rfl, -, -, hb8⟩
            rw [hfl]
            rw [hfl] at HALL
            have HB8 := hid (HB.out.trans (hb8.mono HB.out.size))
            clear hb8 hfl
            go_wp2_with fail
            go_roundw
            case rel => exact ⟨k + 1, by omega, by go_num, HALL.out, HB8.out⟩
            case measure => simp; omega
          | false =>
            refine HFL.out.mono ?_
            rintro e w8 ⟨q1, q2, k1, k2, rfl, -, -, hb8⟩
            have HNA := hid (show N.all (fun x => (filledL S (plc C C.length x)).isSome) = false from HNO.out hfl)
            rw [hfl]
            have HB8 := hid (HB.out.trans (hb8.mono HB.out.size))
            have HN8 := hid ((HN7.out.below HB.out).below hb8)
            clear hb8 hfl
            go_wp2_with fail
            go_ret2
            exact ARet.mk HNN.out (by unfold allB; rw [HNN.out, HNA.out, Bool.false_and]) HN8.out (HB7.out.trans (HB8.out.mono HB7.out.size))
        · obtain rfl : k = N.length := by omega
          rw [List.take_length] at hall
          have HALL := hid hall
          have HB := hid hb
          clear hall hb
          go_wp2_with fail
          go_ret2
          have HE := hid (show allB S C = decide (0 < N.length) by unfold allB; rw [HNN.out, HALL.out, Bool.true_and])
          exact ARet.mk HNN.out (by first | exact HE.out | (rw [HE.out]; simp)) (HN7.out.below HB.out) (HB7.out.trans (HB.out.mono HB7.out.size))
theorem all_ok {w : World} {b g h : Nat} {S : List Nat} {C : List Int} (H : Slb w b g h (zs S) C) (F : Fits S C) (hwf : ∀ z ∈ C, (Lit.int .i64 z).wf = true) :
    Calls Try.prog 12 #[.pointer (some ⟨b, 0, none⟩)] w (ARet w S C) := by
  have hcl : C.length ≤ 4096 := by rw [F.len]; exact F.most
  exact all_gen _ S C w hcl hwf (fun _ => F) (fun V hV => cells_ok (H.below hV) (by omega)) (fun V hV => sizes_ok (H.below hV) (by rw [zs_len]; have := F.few; omega))
theorem cloned_none {w w' : World} (hb : Below w.heap.size w w') : Cloned w [] (.returned (.slice none 0 0)) w' := ⟨none, 0, rfl, Nat.le_refl _, fun j hj => absurd hj (by simp [iv]), hb, fun h => absurd h (by simp)⟩
theorem all_none (w : World) : Calls Try.prog 12 #[.pointer none] w (ARet w [] []) :=
  all_gen _ [] [] w (by simp) (by simp) (fun h => absurd rfl h) (fun V _ => (Cells_none V).mono fun e w' ⟨he, hb⟩ => by rw [he]; exact cloned_none hb) (fun V _ => (Sizes_none V).mono fun e w' ⟨he, hb⟩ => by rw [he]; exact cloned_none hb)
end Go.Proofs.Ytnmhdlincgefeaa.Rg
