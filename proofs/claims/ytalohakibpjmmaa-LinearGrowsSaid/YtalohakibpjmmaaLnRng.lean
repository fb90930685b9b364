/- Range of linear. -/
import Derived.Test.YtalohakibpjmmaaLnSmall
import Derived.Test.YtalohakibpjmmaaLnAny
import Derived.Test.YtalohakibpjmmaaExRRng
namespace Go.Proofs.Ytalohakibpjmmaa.Ln
open Go.RowKit
open Go.Lib (hid)
open Go.Proofs.Ytalohakibpjmmaa.Ky
open Go.Proofs.Ytalohakibpjmmaa.Pt
open Go.Proofs.Ytalohakibpjmmaa.Bk
open Go.Proofs.Ytalohakibpjmmaa.Ex

/-- the halves of a cell so far -/
def hvs (n L : Nat) (bl bh : List Nat) (a j : Nat) : List Nat := ([2 * a, 2 * a + 1].take j).filter (met n (L + 1) bl bh)
theorem hvs_yes {n L : Nat} {bl bh : List Nat} {a j : Nat} (hj : j < 2) (h : met n (L + 1) bl bh (2 * a + j) = true) : hvs n L bl bh a (j + 1) = hvs n L bl bh a j ++ [2 * a + j] := by
  unfold hvs
  rcases (show j = 0 ∨ j = 1 by omega) with rfl | rfl
  · simp at h; simp [h]
  · simp [List.filter_cons, h]
    split <;> rfl
theorem hvs_no {n L : Nat} {bl bh : List Nat} {a j : Nat} (hj : j < 2) (h : met n (L + 1) bl bh (2 * a + j) = false) : hvs n L bl bh a (j + 1) = hvs n L bl bh a j := by
  unfold hvs
  rcases (show j = 0 ∨ j = 1 by omega) with rfl | rfl
  · simp at h; simp [h]
  · simp [List.filter_cons, h]
theorem hvs_len (n L : Nat) (bl bh : List Nat) (a j : Nat) : (hvs n L bl bh a j).length ≤ 2 := by
  unfold hvs
  exact Nat.le_trans (List.length_filter_le _ _) (by simp; omega)
theorem hvs_all {n L X : Nat} {bl bh : List Nat} {a : Nat} (h : ¬ X ≤ a) : ofA n L X bl bh a = hvs n L bl bh a 2 := by unfold ofA hvs; rw [if_neg h]; rfl
def RnR (n L X : Nat) (bl bh A : List Nat) (W : World) (B : Nat) (s10 s37 : Value) (wr : World) : Prop :=
  ∃ (i : Nat), s37 = .int .i64 (i : Int) ∧ i ≤ A.length ∧ wr.ownsRow B 3 1 s10 (outL n L X bl bh A i).length (ki (outL n L X bl bh A i)) ∧ Below B W wr
def HvR (n L : Nat) (bl bh O : List Nat) (a : Nat) (W : World) (B : Nat) (s10 s50 : Value) (wr : World) : Prop :=
  ∃ (j : Nat), s50 = .int .i64 (j : Int) ∧ j ≤ 2 ∧ wr.ownsRow B 3 1 s10 (O ++ hvs n L bl bh a j).length (ki (O ++ hvs n L bl bh a j)) ∧ Below B W wr
set_option maxRecDepth 100000 in
set_option maxHeartbeats 8000000 in
theorem rangeL_yes {n L X : Nat} {bl bh : List Nat} (hn : 1 ≤ n ∧ n ≤ 6) (hL : L ≤ 10) (hX : X < 2 ^ L) (h1 : bl.length = n) (h2 : bh.length = n) (hbx : boxB bl bh (n : Int) = true) (p q : Option Addr) (c c' : Nat) (w : World) (hp : Pt w p bl) (hq : Pt w q bh) :
    Calls Try.prog 17 #[.agg #[.slice p n c, .slice q n c'], .int .i64 (L : Int), .int .i64 (X : Int)] w (ListPost w (rng n L X bl bh)) := by
  obtain ⟨A, hA⟩ : ∃ A, rangeL n L bl bh = A := ⟨_, rfl⟩
  have hp10 := pow_10 hL
  have hAl : A.length ≤ 1024 := by rw [← hA]; unfold rangeL; exact Nat.le_trans (List.length_filter_le _ _) (by simp; omega)
  have hAx : ∀ j, (h : j < A.length) → A[j] < 1024 := fun j h => by
    have hm : A[j] ∈ rangeL n L bl bh := by rw [hA]; exact List.getElem_mem h
    unfold rangeL at hm
    have := (List.mem_filter.1 hm).1
    rw [List.mem_range] at this
    omega
  have hAy : ∀ j, (h : j < A.length) → A[j] < 2 ^ L := fun j h => by
    have hm : A[j] ∈ rangeL n L bl bh := by rw [hA]; exact List.getElem_mem h
    unfold rangeL at hm
    have := (List.mem_filter.1 hm).1
    rwa [List.mem_range] at this
  have HRL := hid (show rng n L X bl bh = outL n L X bl bh A A.length by rw [outL_all, ← hA, flat_all hn hL hX])
  obtain ⟨W, hW⟩ : ∃ W, w.alloc (.cells #[Value.slice p n c, .slice q n c'] 32) = W := ⟨_, rfl⟩
  have HB := hid (show Below w.heap.size w W by rw [← hW]; exact below_alloc _ _)
  have HG := hid (show W.heap[w.heap.size]? = some (.cells #[Value.slice p n c, .slice q n c'] 32 (0, 0)) by rw [← hW]; exact heap_alloc_new _ _)
  have HSW := hid (show W.heap.size = w.heap.size + 1 by rw [← hW]; simp)
  have HLV := hid fun V : World => lvB_ok (L : Int) (X : Int) V
  rw [lvB_iff.2 ⟨L, X, rfl, hL, rfl, hX⟩] at HLV
  have HRG := hid (rangeE_yes hn (show L ≤ 12 by omega) h1 h2 hbx p q c c' W (hp.below HB.out) (hq.below HB.out))
  rw [hA] at HRG
  unfold ListPost at HRG
  have HBX := hid fun (i : Nat) (hi : i < 2 ^ (L + 1)) (V : World) => (show Calls Try.prog 31 #[.int .i64 (n : Int), .int .i64 ((L + 1 : Nat) : Int), .int .i64 (i : Int)] V fun e w' => ∃ p c q c', e = .returned (.tuple #[.agg #[.slice p n c, .slice q n c'], .int .i64 0]) ∧ Pt w' p (cell n (L + 1) i).1 ∧ Pt w' q (cell n (L + 1) i).2 ∧ Below V.heap.size V w' from boxE_yes hn (show L + 1 ≤ 12 by omega) hi V)
  have HM := hid fun (i : Nat) (r s : Option Addr) (d d' : Nat) (V : World) (hb : Below w.heap.size w V) (g1 : Pt V r (cell n (L + 1) i).1) (g2 : Pt V s (cell n (L + 1) i).2) => (show Calls Try.prog 35 #[.agg #[.slice r n d, .slice s n d'], .agg #[.slice p n c, .slice q n c']] V fun e w' => ∃ A la k A' lb k', e = .returned (.tuple #[.agg #[.slice A la k, .slice A' lb k'], .bool (met n (L + 1) bl bh i)]) ∧ Below V.heap.size V w' from by
    have f := cell_fit hn (L + 1) i (by omega)
    have := meet_ok (cell n (L + 1) i).1 (cell n (L + 1) i).2 bl bh r s p q d d' c c' V g1 g2 (hp.below hb) (hq.below hb) (by omega) (by omega)
    unfold NewBox at this
    rw [f.1, f.2, h1, h2] at this
    exact this.mono fun e w' ⟨A, k, A', k', e1, _, _, e2⟩ => ⟨A, _, k, A', _, k', e1, e2⟩)
  obtain ⟨i0, hi0, hz0, hz1, hz2⟩ := info_parts infoI
  have z := two_cells HG.out
  have s2 : IntKind.i64.wrap ((L : Int) + 1) = ((L + 1 : Nat) : Int) := Go.IntWalk.i64_in _ (by omega)
  obtain ⟨L1, hL1⟩ : ∃ L1, L + 1 = L1 := ⟨_, rfl⟩
  rw [hL1] at s2 HBX
  have HAL := hid hAl; have HAX := hid hAx; have HAY := hid hAy
  have HL1 := hid hL1
  have HXB := hid (show X < 1024 by omega)
  clear hp hq hbx h1 h2 hn hA hAl hAx hAy hp10 hX hL1
  go_enter Try.func17, Try.ntmps17
  go_wp2_with fail
  refine (HLV.out _).mono ?_
  rintro e w1 ⟨rfl, rfl⟩
  go_wp2_with fail
  refine HRG.out.mono ?_
  rintro e w1 ⟨pa, ca, rfl, hcl, hb⟩
  have HB1 := hid (show Below (w.heap.size + 1) W w1 by rw [← HSW.out]; exact hb)
  have HCL := hid hcl
  clear hb z hW hcl
  go_wp2_with fail
  go_loopw [10, 37] (fun s10 s37 wr => RnR n L X bl bh A w1 w1.heap.size s10 s37 wr) (fun _ s37 _ => A.length - (intOf s37).toNat)
  case atStart => exact ⟨0, rfl, by omega, by rw [outL_zero]; exact World.ownsRow_nil _ _ _ _, Below.refl _ _⟩
  case round =>
    rename World => wa
    obtain ⟨i, rfl, hi, ho, hb⟩ := hrel
    have HO := hid ho; have HBW0 := hid hb
    have hsz := HSW.out
    have hW1 := HB1.out
    have hw1s : w.heap.size + 1 ≤ w1.heap.size := by have := hW1.size; omega
    have HBW := hid (show Below (w.heap.size + 1) W wa from hW1.trans (hb.mono hw1s))
    have HBA := hid (show Below w.heap.size w wa from HB.out.trans (HBW.out.mono (by omega)))
    have HGA := hid (show wa.heap[w.heap.size]? = some (.cells #[Value.slice p n c, .slice q n c'] 32 (0, 0)) from (HBW.out.block _ (by omega)).trans HG.out)
    have HWS := hid (show w1.heap.size ≤ wa.heap.size from hb.size)
    have hol := outL_len n L X bl bh A i
    by_cases hlt : i < A.length
    · have HI := hid hlt
      obtain ⟨b1, o1, rfl, c1⟩ := HCL.out i (by rw [ki_length]; exact hlt)
      have d1 : wa.cell? ⟨b1, o1 + i, none⟩ = some (.int .i64 ((A[i] : Nat) : Int)) := by
        have c2 : w1.cell? ⟨b1, o1 + i, none⟩ = some (.int .i64 ((A[i] : Nat) : Int)) := by have := c1; simp [ki] at this; exact this
        exact (hb.cell (World.block_lt_of_cell? w1 ⟨b1, o1 + i, none⟩ c2)).trans c2
      have HNX := hid (outL_next (n := n) (L := L) (X := X) (bl := bl) (bh := bh) hlt)
      have hax := HAX.out i hlt
      have hay := HAY.out i hlt
      generalize A[i] = a at d1 HNX hax hay
      have s4 : IntKind.i64.wrap ((i : Int) + 1) = ((i + 1 : Nat) : Int) := Go.IntWalk.i64_in _ (by have := HAL.out; omega)
      have e5 : decide ((i : Int) < (A.length : Int)) = true := by simpa using hlt
      have e5' : decide (i < A.length) = true := by simpa using hlt
      have hal := HAL.out
      obtain ⟨O, hO⟩ : ∃ O, outL n L X bl bh A i = O := ⟨_, rfl⟩
      rw [hO] at HO HNX hol
      by_cases hxa : X ≤ a
      · have e6 : decide ((X : Int) ≤ (a : Int)) = true := by simpa using hxa
        have e6' : decide (X ≤ a) = true := by simpa using hxa
        have hmax : O.length + 1 ≤ maxLen := by unfold maxLen; omega
        have hby : (O.length + 1) * 8 ≤ 140737488355328 := by omega
        have hxb := HXB.out
        have s5 : IntKind.i64.wrap ((a : Int) + (X : Int)) = ((a + X : Nat) : Int) := by rw [show (a : Int) + (X : Int) = ((a + X : Nat) : Int) by omega]; exact Go.IntWalk.i64_in _ (by omega)
        rw [show ofA n L X bl bh a = [a + X] by unfold ofA; rw [if_pos hxa]] at HNX
        have HSA : Hid (w1.heap.size ≤ (wa.alloc (.cells #[Value.int .i64 ((a + X : Nat) : Int)] 3)).heap.size) := hid (by have := HWS.out; simp; omega)
        obtain ⟨y, hy⟩ : ∃ y, a + X = y := ⟨_, rfl⟩
        rw [hy] at s5 HNX HSA
        clear ho hb hsz hW1 hi hlt hol hal hxa hxb hax hay hO hy c1 hw1s
        go_wp2_with
          (at_builtin
           refine wpList_append_lies _ rfl (.tmp 44) (.tmp 48) _ rfl w1.heap.size 3 i0 _ 1 8 Try.underlying37 hi0 hz0 hz1 hz2 rfl (by omega) _ O.length (ki O) rfl (HO.out.alloc _)
             ⟨wa.heap.size, 0, none⟩ 1 1 [.int .i64 (y : Int)] rfl rfl (World.news_of_block (cs := #[.int .i64 (y : Int)]) (t := 3) (fr := (0, 0)) (heap_alloc_new wa _)) (by simp [Value.oneCell']) (by omega) hmax hby HSA.out (wa.heap.size + 1) (by simp) ?_
           intro gg cap w7 ho7 hg7 _ _
           have HO7 := hid ho7
           have HB7 := hid (show Below w1.heap.size w1 w7 from ((HBW0.out).alloc HWS.out _).grown hg7 HSA.out (fun k hk => (HO.out.lt k hk).1))
           clear ho7 hg7)
        go_roundw
        case rel => exact ⟨i + 1, rfl, HI.out, by rw [HNX.out, List.length_append, ki_snoc]; exact HO7.out, HB7.out⟩
        case measure => simp [intOf]; have := HI.out; omega
      · have e6 : decide ((X : Int) ≤ (a : Int)) = false := by simpa using hxa
        have e6' : decide (X ≤ a) = false := by simpa using hxa
        rw [hvs_all hxa] at HNX
        have HOL := hid (show O.length ≤ 2048 by omega)
        have HAY1 := hid hay; have HAX1 := hid hax
        clear ho hb hsz hW1 hi hlt hol hal hxa hax hay hO c1 hw1s
        go_wp2_with fail
        clear e5 e5' e6 e6' d1
        go_loopw [10, 50] (fun s10 s50 wr => HvR n L bl bh O a w1 w1.heap.size s10 s50 wr) (fun _ s50 _ => 2 - (intOf s50).toNat)
        case atStart => exact ⟨0, rfl, by omega, by rw [show hvs n L bl bh a 0 = [] by simp [hvs], List.append_nil]; exact HO.out, HBW0.out⟩
        case round =>
          rename World => wb
          obtain ⟨j, rfl, hj, ho, hb⟩ := hrel
          have HO2 := hid ho; have HBW2 := hid hb
          have hsz := HSW.out
          have hW1 := HB1.out
          have hw1s : w.heap.size + 1 ≤ w1.heap.size := by have := hW1.size; omega
          have hbw : Below (w.heap.size + 1) W wb := hW1.trans (hb.mono hw1s)
          have HBA2 := hid (show Below w.heap.size w wb from HB.out.trans (hbw.mono (by omega)))
          have HGA2 := hid (show wb.heap[w.heap.size]? = some (.cells #[Value.slice p n c, .slice q n c'] 32 (0, 0)) from (hbw.block _ (by omega)).trans HG.out)
          have HWS2 := hid (show w1.heap.size ≤ wb.heap.size from hb.size)
          by_cases hlt : j < 2
          · have HJ := hid hlt
            have hax := HAX1.out; have hay := HAY1.out
            have e7 : decide ((j : Int) < 2) = true := by simp; omega
            have e7' : decide (j < 2) = true := by simp; omega
            obtain ⟨y, hy⟩ : ∃ y, 2 * a + j = y := ⟨_, rfl⟩
            have s5 : IntKind.i64.wrap (2 * (a : Int)) = ((2 * a : Nat) : Int) := Go.IntWalk.i64_in _ (by omega)
            have s6 : IntKind.i64.wrap (((2 * a : Nat) : Int) + (j : Int)) = (y : Int) := by rw [show ((2 * a : Nat) : Int) + (j : Int) = (y : Int) by omega]; exact Go.IntWalk.i64_in _ (by omega)
            have s7 : IntKind.i64.wrap ((j : Int) + 1) = ((j + 1 : Nat) : Int) := Go.IntWalk.i64_in _ (by omega)
            obtain ⟨aa, haa⟩ : ∃ aa, 2 * a = aa := ⟨_, rfl⟩
            rw [haa] at s5 s6
            have HYB := hid (show y < 2 ^ L1 by rw [← HL1.out, Nat.pow_succ]; omega)
            have hhl := hvs_len n L bl bh a j
            have hol := HOL.out
            have hmax : (O ++ hvs n L bl bh a j).length + 1 ≤ maxLen := by rw [List.length_append]; unfold maxLen; omega
            have hby : ((O ++ hvs n L bl bh a j).length + 1) * 8 ≤ 140737488355328 := by rw [List.length_append]; omega
            have x0 := two_cells HGA2.out
            have HYE := hid (show met n (L + 1) bl bh y = true → hvs n L bl bh a (j + 1) = hvs n L bl bh a j ++ [y] from fun h => by rw [← hy] at h ⊢; exact hvs_yes hlt h)
            have HNE := hid (show met n (L + 1) bl bh y = false → hvs n L bl bh a (j + 1) = hvs n L bl bh a j from fun h => by rw [← hy] at h; exact hvs_no hlt h)
            obtain ⟨O2, hO2⟩ : ∃ O2, O ++ hvs n L bl bh a j = O2 := ⟨_, rfl⟩
            have HAP := hid (show ∀ l, O ++ (hvs n L bl bh a j ++ l) = O2 ++ l from fun l => by rw [← hO2, List.append_assoc])
            have HAQ := hid hO2
            rw [hO2] at hmax hby HO2
            clear ho hb hsz hW1 hw1s hbw hj hlt hax hay hy haa hhl hol hO2
            go_wp2_with fail
            refine (HBX.out y HYB.out wb).mono ?_
            rintro e w5 ⟨r, d, s, d', rfl, q1, q2, hb⟩
            obtain ⟨V1, hV1⟩ : ∃ V1, w5.alloc (.cells #[Value.slice r n d, .slice s n d'] 32) = V1 := ⟨_, rfl⟩
            have HV1 := hid (show Below wb.heap.size wb V1 by rw [← hV1]; exact hb.trans ((below_alloc w5 _).mono hb.size))
            have HQ1 := hid (show Pt V1 r _ by rw [← hV1]; exact q1.alloc _)
            have HQ2 := hid (show Pt V1 s _ by rw [← hV1]; exact q2.alloc _)
            have x1 := two_cells (show V1.heap[w5.heap.size]? = some (.cells #[Value.slice r n d, .slice s n d'] 32 (0, 0)) by rw [← hV1]; exact heap_alloc_new _ _)
            have x2 := two_cells ((HV1.out.block _ (lt_of HGA2.out)).trans HGA2.out)
            clear hb q1 q2 x0
            go_wp2_with fail
            refine (HM.out y r s d d' V1 (HBA2.out.trans (HV1.out.mono HBA2.out.size)) (by rw [HL1.out]; exact HQ1.out) (by rw [HL1.out]; exact HQ2.out)).mono ?_
            rintro e w6 ⟨A0, la, k0, A1, lb, k1, rfl, hb⟩
            obtain ⟨V2, hV2⟩ : ∃ V2, w6.alloc (.cells #[Value.slice A0 la k0, .slice A1 lb k1] 32) = V2 := ⟨_, rfl⟩
            have HV2 := hid (show Below wb.heap.size wb V2 by
              have h5 : Below wb.heap.size wb w6 := HV1.out.trans (hb.mono HV1.out.size)
              rw [← hV2]; exact h5.trans ((below_alloc w6 _).mono h5.size))
            clear hb x1 x2 hV1
            have HSV : Hid (w1.heap.size ≤ V2.heap.size) := hid (Nat.le_trans HWS2.out HV2.out.size)
            cases hmt : met n (L + 1) bl bh y with
            | true =>
              have HY := hid (HYE.out hmt)
              have HO3 := hid (own_stepE HO2.out HV2.out)
              have HSA : Hid (w1.heap.size ≤ (V2.alloc (.cells #[Value.int .i64 (y : Int)] 3)).heap.size) := hid (by have := HSV.out; simp; omega)
              clear hmt
              go_wp2_with
                (at_builtin
                 refine wpList_append_lies _ rfl (.tmp 74) (.tmp 76) _ rfl w1.heap.size 3 i0 _ 1 8 Try.underlying37 hi0 hz0 hz1 hz2 rfl (by omega) _ O2.length (ki O2) rfl (HO3.out.alloc _)
                   ⟨V2.heap.size, 0, none⟩ 1 1 [.int .i64 (y : Int)] rfl rfl (World.news_of_block (cs := #[.int .i64 (y : Int)]) (t := 3) (fr := (0, 0)) (heap_alloc_new V2 _)) (by simp [Value.oneCell']) (by omega) hmax hby HSA.out (V2.heap.size + 1) (by simp) ?_
                 intro gg cap w7 ho7 hg7 _ _
                 have HO7 := hid ho7
                 have HB7 := hid (show Below w1.heap.size w1 w7 from ((HBW2.out.trans (HV2.out.mono HWS2.out)).alloc HSV.out _).grown hg7 HSA.out (fun k hk => (HO3.out.lt k hk).1))
                 clear ho7 hg7)
              go_roundw
              case rel => exact ⟨j + 1, rfl, by have := HJ.out; omega, by rw [HY.out, HAP.out, List.length_append, ki_snoc]; exact HO7.out, HB7.out⟩
              case measure => simp [intOf]; have := HJ.out; omega
            | false =>
              have HY := hid (HNE.out hmt)
              clear hmt
              go_wp2_with fail
              go_roundw
              case rel => exact ⟨j + 1, rfl, by have := HJ.out; omega, by rw [HY.out, HAQ.out]; exact own_stepE HO2.out HV2.out, HBW2.out.trans (HV2.out.mono HWS2.out)⟩
              case measure => simp [intOf]; have := HJ.out; omega
          · obtain rfl : j = 2 := by omega
            have e7 : decide (((2 : Nat) : Int) < 2) = false := by simp
            clear ho hb hsz hW1 hw1s hbw hj hlt
            go_wp2_with fail
            go_roundw
            case rel => exact ⟨i + 1, rfl, HI.out, by rw [HNX.out]; exact HO2.out, HBW2.out⟩
            case measure => simp [intOf]; have := HI.out; omega
    · have e5 : decide ((i : Int) < (A.length : Int)) = false := by simp; omega
      have e5' : decide (i < A.length) = false := by simpa using hlt
      obtain rfl : i = A.length := by omega
      obtain ⟨pp, cc, hv, hcl⟩ := own_cellsE ho
      subst hv
      have HCL2 := hid hcl
      clear ho hb hsz hW1 hw1s hi hlt hcl hol
      go_wp2_with fail
      go_ret2
      rw [HRL.out]
      exact ⟨pp, cc, rfl, HCL2.out, HBA.out⟩
end Go.Proofs.Ytalohakibpjmmaa.Ln
