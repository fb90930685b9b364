/- Box of a scale: the box of cells. -/
import Derived.Test.YtmhjoeegghnlhaaScBox
namespace Go.Proofs.Ytmhjoeegghnlhaa.Sc
open Go.RowKit
open Go.Lib (hid)
open Go.Proofs.Ytmhjoeegghnlhaa.Ky Go.Proofs.Ytmhjoeegghnlhaa.Bk

/-- the least number of the cells from x on, of a coordinate; the most of those up to x -/
def lowN (l : List Nat) (x : Int) : Nat := if 0 < x then l.getD (x.toNat - 1) 0 else 0
def highN (l : List Nat) (x : Int) : Nat := if x < (l.length : Int) then l.getD x.toNat 0 - 1 else 4294967295
def preF (f : Nat → Nat) (D i d : Nat) : List Nat := (List.range D).map fun j => if j < i then f j else d
theorem preF_len (f : Nat → Nat) (D i d : Nat) : (preF f D i d).length = D := by simp [preF]
theorem preF_zero (f : Nat → Nat) (D d : Nat) : preF f D 0 d = List.replicate D d := by
  apply List.ext_getElem <;> simp [preF]
theorem preF_all (f : Nat → Nat) (D d : Nat) : preF f D D d = (List.range D).map f := by
  unfold preF
  exact List.map_congr_left fun j hj => if_pos (List.mem_range.1 hj)
theorem preF_next (f : Nat → Nat) (D i d : Nat) : (preF f D i d).set i (f i) = preF f D (i + 1) d := by
  apply List.ext_getElem
  · simp [preF]
  · intro n h1 h2
    rw [List.getElem_set]
    simp only [preF, List.getElem_map, List.getElem_range]
    by_cases h : i = n
    · subst h; rw [if_pos rfl, if_pos (by omega)]
    · rw [if_neg h]
      by_cases h3 : n < i
      · rw [if_pos h3, if_pos (by omega)]
      · rw [if_neg h3, if_neg (by omega)]
theorem preF_same (f : Nat → Nat) (D i d : Nat) (h : f i = d) : preF f D i d = preF f D (i + 1) d := by
  unfold preF
  refine List.map_congr_left fun j _ => ?_
  by_cases h1 : j < i
  · rw [if_pos h1, if_pos (by omega)]
  · rw [if_neg h1]
    by_cases h2 : j < i + 1
    · obtain rfl : j = i := by omega
      rw [if_pos h2, h]
    · rw [if_neg h2]
theorem getD_fit {l : List Nat} (h : ∀ x ∈ l, x < 4294967296) (j : Nat) : l.getD j 0 < 4294967296 := by
  rw [List.getD_eq_getElem?_getD]
  cases h1 : l[j]? with
  | none => simp
  | some v => exact h v (List.mem_of_getElem? h1)
theorem lowN_fit {l : List Nat} (h : ∀ x ∈ l, x < 4294967296) (x : Int) : lowN l x < 4294967296 := by
  unfold lowN; split
  · exact getD_fit h _
  · omega
theorem highN_fit {l : List Nat} (h : ∀ x ∈ l, x < 4294967296) (x : Int) : highN l x < 4294967296 := by
  unfold highN; split
  · have := getD_fit h x.toNat; omega
  · omega
theorem pt_base {w : World} {p : Option Addr} {l : List Nat} (h : Pt w p l) (h0 : 0 < l.length) : ∃ g f, p = some ⟨g, f, none⟩ ∧ g < w.heap.size ∧ ∀ j, (hj : j < l.length) → w.cell? ⟨g, f + j, none⟩ = some (.int .u32 (l[j] : Int)) := by
  obtain ⟨g, f, e, hlt, _⟩ := h.cells 0 h0
  refine ⟨g, f, e, hlt, fun j hj => ?_⟩
  obtain ⟨g', f', e', _, hc⟩ := h.cells j hj
  rw [e] at e'
  injection e' with e'
  injection e' with e1 e2 _
  subst e1; subst e2
  exact hc
theorem riseS_iff {bs : List (List Nat)} {lo hi : List Int} {i : Nat} (h : riseS bs lo hi i = true) : 0 ≤ lo.getD i 0 ∧ lo.getD i 0 ≤ hi.getD i 0 ∧ hi.getD i 0 ≤ ((bs.getD i []).length : Int) := by
  simpa [riseS] using h
def lowL (bs : List (List Nat)) (lo : List Int) : List Nat := (List.range bs.length).map fun j => lowN (bs.getD j []) (lo.getD j 0)
def highL (bs : List (List Nat)) (hi : List Int) : List Nat := (List.range bs.length).map fun j => highN (bs.getD j []) (hi.getD j 0)
/-- the loop's relation -/
def BoR (W : World) (g10 gl gh D : Nat) (fl fh : Nat → Nat) (s : Value) (wr : World) : Prop :=
  ∃ i : Nat, s = .int .i64 i ∧ i ≤ D ∧ Own wr gl (preF fl D i 0) ∧ Own wr gh (preF fh D i 4294967295) ∧ wr.heap[g10]? = some (.cells #[.slice (some ⟨gl, 0, none⟩) D D, .slice (some ⟨gh, 0, none⟩) D D] 34 (0, 0)) ∧ Below W.heap.size W wr
/-- a box in new memory was returned -/
def BoxR (w : World) (lo hi : List Nat) (n : Nat) (e : Ending) (w' : World) : Prop :=
  ∃ gl gh, e = .returned (.tuple #[.agg #[.slice (some ⟨gl, 0, none⟩) n n, .slice (some ⟨gh, 0, none⟩) n n], .int .i64 0]) ∧ Own w' gl lo ∧ Own w' gh hi ∧ (w.heap.size ≤ gl ∧ w.heap.size ≤ gh) ∧ (lo.length = n ∧ hi.length = n) ∧ ((∀ x ∈ lo, x < 4294967296) ∧ ∀ x ∈ hi, x < 4294967296) ∧ Below w.heap.size w w'
theorem BoxR.box {w w' : World} {lo hi : List Nat} {n : Nat} {e : Ending} (h : BoxR w lo hi n e w') : NewBox w lo hi (.int .i64 0) e w' := by
  obtain ⟨gl, gh, he, h1, h2, _, h3, h4, hb⟩ := h
  exact ⟨_, n, _, n, by rw [he, h3.1, h3.2], h1.pt h4.1, h2.pt h4.2, hb⟩
set_option maxRecDepth 100000 in
set_option maxHeartbeats 4000000 in
theorem box_yes (N b R : Nat) (vs : List Value) (bs : List (List Nat)) (lo hi : List Int) (p q : Option Addr) (c c' n : Nat) (w : World) (h : Sc N w b R vs bs) (hu : upS bs) (hlo : Is w p lo) (hhi : Is w q hi) (hl : lo.length = n) (hh : hi.length = n) (hn : bs.length = n)
    (hr : (List.range n).all (riseS bs lo hi) = true) :
    Calls Try.prog 22 #[.pointer (some ⟨b, 0, none⟩), .slice p n c, .slice q n c'] w (BoxR w (lowL bs lo) (highL bs hi) n) := by
  obtain ⟨W, hW⟩ : ∃ W, (((w.alloc (.cells #[.pointer (some ⟨b, 0, none⟩)] 23)).alloc (.cells #[.slice p n c] 35)).alloc (.cells #[.slice q n c'] 35)).alloc (.cells #[.slice none 0 0, .slice none 0 0] 34) = W := ⟨_, rfl⟩
  have HBW := hid (show Below w.heap.size w W by rw [← hW]; exact (((below_alloc _ _).alloc (Nat.le_trans (Nat.le_refl _) (below_alloc _ _).size) _).alloc (by simp; omega) _).alloc (by simp; omega) _)
  have HW4 := hid (show W.heap[w.heap.size]? = some (.cells #[.pointer (some ⟨b, 0, none⟩)] 23 (0, 0)) ∧ W.heap[w.heap.size + 1]? = some (.cells #[.slice p n c] 35 (0, 0)) ∧ W.heap[w.heap.size + 2]? = some (.cells #[.slice q n c'] 35 (0, 0)) ∧ W.heap[w.heap.size + 3]? = some (.cells #[.slice none 0 0, .slice none 0 0] 34 (0, 0)) ∧ W.heap.size = w.heap.size + 4 by
    rw [← hW]
    have t := three_new w (.cells #[.pointer (some ⟨b, 0, none⟩)] 23) (.cells #[.slice p n c] 35) (.cells #[.slice q n c'] 35)
    refine ⟨(Below.heap_alloc _ _ _ (by rw [t.2.2.2]; omega)).trans t.1, (Below.heap_alloc _ _ _ (by rw [t.2.2.2]; omega)).trans t.2.1, (Below.heap_alloc _ _ _ (by rw [t.2.2.2]; omega)).trans t.2.2.1, ?_, by simp⟩
    rw [← t.2.2.2]; exact heap_alloc_new _ _)
  have hsc := h.next HBW.out
  have hlo1 := hlo.below HBW.out
  have hhi1 := hhi.below HBW.out
  have HST := hid (show ∀ V : World, Below W.heap.size W V → V.cell? ⟨w.heap.size, 0, none⟩ = some (.pointer (some ⟨b, 0, none⟩)) ∧ V.cell? ⟨w.heap.size + 1, 0, none⟩ = some (.slice p n c) ∧ V.cell? ⟨w.heap.size + 1 + 1, 0, none⟩ = some (.slice q n c') ∧ V.heap[w.heap.size + 1 + 1 + 1]? = some (.cells #[.slice none 0 0, .slice none 0 0] 34 (0, 0)) from fun V hV => by
    obtain ⟨a1, a2, a3, a4, a5⟩ := HW4.out
    have b1 := (hV.block _ (lt_of a1)).trans a1
    have b2 := (hV.block _ (lt_of a2)).trans a2
    have b3 := (hV.block _ (lt_of a3)).trans a3
    exact ⟨by rw [cell_of_row _ _ _ _ _ _ b1]; rfl, by rw [cell_of_row _ _ _ _ _ _ b2]; rfl, by rw [cell_of_row _ _ _ _ _ _ b3]; rfl, (hV.block _ (lt_of a4)).trans a4⟩)
  have HCO := hid (coords_ok W hsc.cell.1)
  have hd := h.dim
  rw [hn] at hd HCO
  have HRI := hid fun (m i : Nat) (hin : i < n) => rise_ok N b R vs bs lo hi p q c c' n (w.heap.size + 1) (w.heap.size + 1 + 1) w.heap.size i (W.drewN m) (hsc.next (below_drewN (Below.refl _ _) m)) (hlo1.below (below_drewN (Below.refl _ _) m)) (hhi1.below (below_drewN (Below.refl _ _) m)) hl hh hn hin (HST.out _ (below_drewN (Below.refl _ _) m)).2.1 (HST.out _ (below_drewN (Below.refl _ _) m)).2.2.1 (HST.out _ (below_drewN (Below.refl _ _) m)).1
  have HAL := hid (allBox_ok n (riseS bs lo hi) (.pointer (some ⟨w.heap.size + 1, 0, none⟩)) (.pointer (some ⟨w.heap.size + 1 + 1, 0, none⟩)) (.pointer (some ⟨w.heap.size, 0, none⟩)) W (by omega) HRI.out)
  rw [hr] at HAL
  have HWH := hid fun V => whole_two n V (by omega)
  have HS := hid (And.intro h (And.intro hu (And.intro hlo (And.intro hhi (And.intro hl (And.intro hh (And.intro hn hr)))))))
  have e1 : ((n : Int) == 0) = false := by simp; omega
  have HD := hid hd
  have HK := hid (show w.heap.size ≤ w.heap.size + 1 + 1 + 1 ∧ w.heap.size + 1 + 1 + 1 < W.heap.size by have := HW4.out.2.2.2.2; omega)
  clear HW4
  obtain ⟨y1, y2, y3, y4⟩ := HST.out W (Below.refl _ _)
  clear h hu hlo hhi hl hh hr hn hsc hlo1 hhi1 hd HRI y4
  go_enter Try.func22, Try.ntmps22
  go_wp2_with fail
  refine HCO.out.mono ?_
  rintro e w1 ⟨rfl, rfl⟩
  clear hW
  generalize w.heap.size + 1 + 1 + 1 = k3 at *
  generalize w.heap.size + 1 + 1 = k2 at *
  generalize w.heap.size + 1 = k1 at *
  go_wp2_with fail
  refine HAL.out.mono ?_
  rintro e w1 ⟨rfl, nq, hw1⟩
  have HB1 := hid (show Below W.heap.size W w1 by rw [hw1]; exact below_drewN (Below.refl _ _) _)
  clear hw1 y1 y2 y3 e1 HCO HAL
  obtain ⟨y1, y2, y3, y4⟩ := HST.out _ HB1.out
  clear y4
  go_wp2_with fail
  refine (HWH.out _).mono ?_
  rintro e w4 ⟨gl, gh, rfl, o1, o2, on, og1, og2, hb⟩
  have HB4 := hid (HB1.out.trans (hb.mono HB1.out.size))
  have HO := hid (And.intro o1 (And.intro o2 (And.intro on (And.intro (Nat.le_trans HB1.out.size og1) (Nat.le_trans HB1.out.size og2)))))
  clear o1 o2 on og1 og2 hb y1 y2 y3 HB1 HWH
  obtain ⟨V, hV⟩ : ∃ V, w4.alloc (.cells #[.slice (some ⟨gl, 0, none⟩) n n, .slice (some ⟨gh, 0, none⟩) n n] 34) = V := ⟨_, rfl⟩
  have HX := hid (show Own V gl (List.replicate n 0) ∧ Own V gh (List.replicate n 4294967295) ∧ V.heap[w4.heap.size]? = some (.cells #[.slice (some ⟨gl, 0, none⟩) n n, .slice (some ⟨gh, 0, none⟩) n n] 34 (0, 0)) ∧ Below W.heap.size W V by
    rw [← hV]; exact ⟨HO.out.1.alloc _, HO.out.2.1.alloc _, heap_alloc_new _ _, HB4.out.alloc HB4.out.size _⟩)
  have HNE := hid (show gl ≠ gh ∧ W.heap.size ≤ gl ∧ W.heap.size ≤ gh ∧ gl ≠ w4.heap.size ∧ gh ≠ w4.heap.size ∧ W.heap.size ≤ w4.heap.size by
    have h1 := HO.out.1.lt; have h2 := HO.out.2.1.lt; have h3 := HO.out.2.2; have h4 := HB4.out.size; exact ⟨h3.1, h3.2.1, h3.2.2, by omega, by omega, h4⟩)
  obtain ⟨y1, y2, y3, y4⟩ := HST.out _ HX.out.2.2.2
  have hsv := (HS.out.1.next HBW.out).next HX.out.2.2.2
  have c0 := hsv.cell.1
  rw [HS.out.2.2.2.2.2.2.1] at c0
  clear hsv y4
  go_wp2_with fail
  clear y1 y2 y3 c0
  have HG := hid (show w4.heap.size = w4.heap.size from rfl)
  clear hV HO HB4
  generalize w4.heap.size = g10 at *
  obtain ⟨fl, hfl⟩ : ∃ fl : Nat → Nat, fl = fun j => lowN (bs.getD j []) (lo.getD j 0) := ⟨_, rfl⟩
  obtain ⟨fh, hfh⟩ : ∃ fh : Nat → Nat, fh = fun j => highN (bs.getD j []) (hi.getD j 0) := ⟨_, rfl⟩
  have HFL := hid hfl; have HFH0 := hid hfh
  clear hfl hfh
  go_loopw [45] (fun s wr => BoR W g10 gl gh n fl fh s wr) (fun s _ => n - (intOf s).toNat)
  case atStart => exact ⟨0, rfl, by omega, by rw [preF_zero]; exact HX.out.1, by rw [preF_zero]; exact HX.out.2.1, HX.out.2.2.1, HX.out.2.2.2⟩
  case round =>
    obtain ⟨i, rfl, hi2, o1, o2, h10, hb⟩ := hrel
    have HO1 := hid o1; have HO2 := hid o2; have H10 := hid h10; have HB := hid hb
    have x0 : wr.cell? ⟨g10, 0, none⟩ = some (.slice (some ⟨gl, 0, none⟩) n n) := by rw [cell_of_row _ _ _ _ _ _ h10]; rfl
    have x1 : wr.cell? ⟨g10, 1, none⟩ = some (.slice (some ⟨gh, 0, none⟩) n n) := by rw [cell_of_row _ _ _ _ _ _ h10]; rfl
    obtain ⟨y1, y2, y3, y4⟩ := HST.out _ HB.out
    clear o1 o2 h10 hb
    by_cases hlt : i < n
    · have HI := hid hlt
      obtain ⟨S1, S2, S3, S4, S5, S6, S7, S8⟩ := HS.out
      obtain ⟨l, hl5⟩ : ∃ l, bs[i]? = some l := ⟨_, List.getElem?_eq_getElem (by omega)⟩
      have hS := S1.next HBW.out
      obtain ⟨v, pv, cv, hv, hvp, hcl, hfr, hpt, hown, hlc⟩ := hS.at hl5
      have hRW : R < W.heap.size := hS.ltR
      have c1 := (HB.out.cell (p := ⟨R, i, none⟩) hRW).trans hcl
      obtain ⟨b1, f1, rfl, l1, d1w⟩ := (S3.below HBW.out).cells i (by omega)
      obtain ⟨b2, f2, rfl, l2, d2w⟩ := (S4.below HBW.out).cells i (by omega)
      have d1 := (HB.out.cell (p := ⟨b1, f1 + i, none⟩) l1).trans d1w
      have hrs := riseS_iff (List.all_eq_true.1 S8 i (List.mem_range.2 hlt))
      have g1 : bs.getD i [] = l := by rw [List.getD_eq_getElem?_getD, hl5]; rfl
      have g2 : lo.getD i 0 = lo[i] := by rw [List.getD_eq_getElem?_getD, List.getElem?_eq_getElem (by omega)]; rfl
      have g3 : hi.getD i 0 = hi[i] := by rw [List.getD_eq_getElem?_getD, List.getElem?_eq_getElem (by omega)]; rfl
      rw [g1, g2, g3] at hrs
      have hfl : fl i = lowN l lo[i] := by rw [HFL.out]; show lowN (bs.getD i []) (lo.getD i 0) = _; rw [g1, g2]
      have hfh : fh i = highN l hi[i] := by rw [HFH0.out]; show highN (bs.getD i []) (hi.getD i 0) = _; rw [g1, g3]
      have hpos := (S2 l (List.mem_of_getElem? hl5)).2.1
      have hfit := (S1.fit l (List.mem_of_getElem? hl5)).1
      have hl63 := (S2 l (List.mem_of_getElem? hl5)).2.2
      have hw3 : b2 < W.heap.size := l2
      generalize lo[i] = x at d1 d1w hrs hfl
      generalize hi[i] = y at d2w hrs hfh
      have e1 : decide ((i : Int) < (n : Int)) = true := by simpa using hlt
      have e1' : decide (i < n) = true := by simpa using hlt
      have hd6 := HD.out
      have s1 : IntKind.i64.wrap ((i : Int) + 1) = ((i + 1 : Nat) : Int) := Go.IntWalk.i64_in _ (by omega)
      obtain ⟨r1, r2, r3⟩ := hrs
      clear S1 S2 S3 S4 S5 S6 S7 S8 hl5 hS hv hvp hcl hfr hown hlc hRW d1w g1 g2 g3 l1 y4 hi2
      by_cases t1 : 0 < x
      · have e2 : decide (0 < x) = true := by simpa using t1
        obtain ⟨X, hX⟩ : ∃ X : Nat, x.toNat - 1 = X := ⟨_, rfl⟩
        have hXl : X < l.length := by omega
        obtain ⟨g5, f5, hpv, hg5, hcs⟩ := pt_base hpt (by omega)
        have d5 := (HB.out.cell (p := ⟨g5, f5 + X, none⟩) hg5).trans (hcs X hXl)
        have HFX := hid (show fl i = l[X] by rw [hfl]; unfold lowN; rw [if_pos t1, hX, List.getD_eq_getElem?_getD, List.getElem?_eq_getElem hXl]; rfl)
        generalize l[X] = mx at d5 HFX
        have s3 : IntKind.i64.wrap (x - 1) = (X : Int) := by rw [Go.IntWalk.i64_in _ (by omega)]; omega
        have u1 := HO1.out.cell i (by rw [preF_len]; exact HI.out)
        have u2 := HO1.out.frozen i
        generalize (preF fl n i 0)[i]'_ = ol at u1
        obtain ⟨U, hU⟩ : ∃ U, wr.drew.setCell ⟨gl, i, none⟩ (.int .u32 (mx : Int)) = U := ⟨_, rfl⟩
        have HU1 := hid (show Own U gl (preF fl n (i + 1) 0) by rw [← preF_next, HFX.out, ← hU]; exact HO1.out.drew.set i mx)
        have HU2 := hid (show Own U gh (preF fh n i 4294967295) by rw [← hU]; exact HO2.out.drew.far (by show gh ≠ gl; exact HNE.out.1.symm) _)
        have HU3 := hid (show U.heap[g10]? = some (.cells #[.slice (some ⟨gl, 0, none⟩) n n, .slice (some ⟨gh, 0, none⟩) n n] 34 (0, 0)) by rw [← hU, Below.heap_setCell _ ⟨gl, i, none⟩ _ _ (by show g10 ≠ gl; exact HNE.out.2.2.2.1.symm)]; exact H10.out)
        have HBU := hid (show Below W.heap.size W U by rw [← hU]; exact HB.out.drew.setCell (p := ⟨gl, i, none⟩) HNE.out.2.1 _)
        obtain ⟨v1, v2, v3, _⟩ := HST.out _ HBU.out
        have v4 : U.cell? ⟨g10, 1, none⟩ = some (.slice (some ⟨gh, 0, none⟩) n n) := by rw [cell_of_row _ _ _ _ _ _ HU3.out]; rfl
        have d2 := (HBU.out.cell (p := ⟨b2, f2 + i, none⟩) hw3).trans d2w
        have hXl' : (X : Int) < (l.length : Int) := by omega
        have HPV := hid hpv
        have HCS := hid hcs
        have HPT := hid hpt
        have HG5 := hid hg5
        have HLL := hid (And.intro hpos (And.intro hfit (And.intro hfl hfh)))
        have HR := hid (And.intro r1 (And.intro r2 r3))
        clear hpv hcs hpt hpos hfit hfl hfh r1 r2 r3 t1 hX d2w
        rw [HPV.out] at c1
        go_wp2_with fail
        go_region
        all_goals
          clear c1 d1 d5 s3 u1 u2 x0 x1 y1 y2 y3 hXl hXl' e2
          have hpv := HPV.out
          have hpt := HPT.out
          obtain ⟨hpos, hfit, hfl, hfh⟩ := HLL.out
          obtain ⟨r1, r2, r3⟩ := HR.out
          have hcs := HCS.out
          have hg5 := HG5.out
          clear HPV HPT HLL HR hpv hpt hU
          by_cases t2 : y < (l.length : Int)
          · obtain ⟨Y, rfl⟩ : ∃ Y : Nat, y = (Y : Int) := ⟨y.toNat, by omega⟩
            have hY : Y < l.length := by omega
            have hm5 := hpos _ (List.getElem_mem hY)
            have hm6 := hfit _ (List.getElem_mem hY)
            have HFH := hid (show fh i = l[Y] - 1 by rw [hfh]; unfold highN; rw [if_pos t2, Int.toNat_natCast, List.getD_eq_getElem?_getD, List.getElem?_eq_getElem hY]; rfl)
            have d6 := (HBU.out.cell (p := ⟨g5, f5 + Y, none⟩) hg5).trans (hcs Y hY)
            have e3 : decide ((Y : Int) < (l.length : Int)) = true := by simpa using hY
            have e3' : decide (Y < l.length) = true := by simpa using hY
            generalize l[Y] = m at d6 HFH hm5 hm6
            obtain ⟨M, hM⟩ : ∃ M, m - 1 = M := ⟨_, rfl⟩
            have s4 : IntKind.u32.wrap ((m : Int) - 1) = (M : Int) := by rw [Go.IntWalk.u32_in _ (by omega)]; omega
            rw [hM] at HFH
            have HQ1 := hid (show Own (U.drew.setCell ⟨gh, i, none⟩ (.int .u32 (M : Int))) gl (preF fl n (i + 1) 0) from HU1.out.drew.far (by show gl ≠ gh; exact HNE.out.1) _)
            have HQ2 := hid (show Own (U.drew.setCell ⟨gh, i, none⟩ (.int .u32 (M : Int))) gh (preF fh n (i + 1) 4294967295) by rw [← preF_next, HFH.out]; exact HU2.out.drew.set i M)
            have HQ3 := hid (show (U.drew.setCell ⟨gh, i, none⟩ (.int .u32 (M : Int))).heap[g10]? = some (.cells #[.slice (some ⟨gl, 0, none⟩) n n, .slice (some ⟨gh, 0, none⟩) n n] 34 (0, 0)) by rw [Below.heap_setCell _ ⟨gh, i, none⟩ _ _ (by show g10 ≠ gh; exact HNE.out.2.2.2.2.1.symm)]; exact HU3.out)
            have HQ4 := hid (show Below W.heap.size W (U.drew.setCell ⟨gh, i, none⟩ (.int .u32 (M : Int))) from HBU.out.drew.setCell (p := ⟨gh, i, none⟩) HNE.out.2.2.1 _)
            have u1 := HU2.out.cell i (by rw [preF_len]; exact HI.out)
            have u2 := HU2.out.frozen i
            generalize (preF fh n i 4294967295)[i]'_ = o2 at u1
            clear hcs HCS
            generalize l.length = ln at *
            clear hm5 hm6 hM hfh hfl hpos hfit t2 hg5
            go_wp2_with fail
            go_region
            all_goals
              go_wp2_with fail
              go_roundw
              case rel => exact ⟨i + 1, rfl, HI.out, HQ1.out, HQ2.out, HQ3.out, HQ4.out⟩
              case measure => simp [intOf]; have := HI.out; omega
          · have e3 : decide (y < (l.length : Int)) = false := by simpa using t2
            have HQ2 := hid (show Own U gh (preF fh n (i + 1) 4294967295) by rw [← preF_same _ _ _ _ (show fh i = 4294967295 by rw [hfh]; unfold highN; rw [if_neg t2])]; exact HU2.out)
            clear hcs HCS
            generalize l.length = ln at *
            clear hfh hfl hpos hfit t2
            go_wp2_with fail
            go_roundw
            case rel => exact ⟨i + 1, rfl, HI.out, HU1.out, HQ2.out, HU3.out, HBU.out⟩
            case measure => simp [intOf]; have := HI.out; omega
      · have e2 : decide (0 < x) = false := by simpa using t1
        have HU1 := hid (show Own wr gl (preF fl n (i + 1) 0) by rw [← preF_same _ _ _ _ (show fl i = 0 by rw [hfl]; unfold lowN; rw [if_neg t1])]; exact HO1.out)
        have HU2 := HO2
        have HU3 := H10
        have HBU := HB
        have d2 := (HBU.out.cell (p := ⟨b2, f2 + i, none⟩) hw3).trans d2w
        obtain ⟨U, hU⟩ : ∃ U, wr = U := ⟨_, rfl⟩
        clear t1 d2w hfl x0
        subst hU
        by_cases t2 : y < (l.length : Int)
        · obtain ⟨Y, rfl⟩ : ∃ Y : Nat, y = (Y : Int) := ⟨y.toNat, by omega⟩
          have hY : Y < l.length := by omega
          obtain ⟨g5, f5, rfl, hg5, hcs⟩ := pt_base hpt (by omega)
          have hm5 := hpos _ (List.getElem_mem hY)
          have hm6 := hfit _ (List.getElem_mem hY)
          have HFH := hid (show fh i = l[Y] - 1 by rw [hfh]; unfold highN; rw [if_pos t2, Int.toNat_natCast, List.getD_eq_getElem?_getD, List.getElem?_eq_getElem hY]; rfl)
          have d6 := (HBU.out.cell (p := ⟨g5, f5 + Y, none⟩) hg5).trans (hcs Y hY)
          have e3 : decide ((Y : Int) < (l.length : Int)) = true := by simpa using hY
          have e3' : decide (Y < l.length) = true := by simpa using hY
          generalize l[Y] = m at d6 HFH hm5 hm6
          obtain ⟨M, hM⟩ : ∃ M, m - 1 = M := ⟨_, rfl⟩
          have s4 : IntKind.u32.wrap ((m : Int) - 1) = (M : Int) := by rw [Go.IntWalk.u32_in _ (by omega)]; omega
          rw [hM] at HFH
          have HQ1 := hid (show Own (wr.drew.setCell ⟨gh, i, none⟩ (.int .u32 (M : Int))) gl (preF fl n (i + 1) 0) from HU1.out.drew.far (by show gl ≠ gh; exact HNE.out.1) _)
          have HQ2 := hid (show Own (wr.drew.setCell ⟨gh, i, none⟩ (.int .u32 (M : Int))) gh (preF fh n (i + 1) 4294967295) by rw [← preF_next, HFH.out]; exact HU2.out.drew.set i M)
          have HQ3 := hid (show (wr.drew.setCell ⟨gh, i, none⟩ (.int .u32 (M : Int))).heap[g10]? = some (.cells #[.slice (some ⟨gl, 0, none⟩) n n, .slice (some ⟨gh, 0, none⟩) n n] 34 (0, 0)) by rw [Below.heap_setCell _ ⟨gh, i, none⟩ _ _ (by show g10 ≠ gh; exact HNE.out.2.2.2.2.1.symm)]; exact HU3.out)
          have HQ4 := hid (show Below W.heap.size W (wr.drew.setCell ⟨gh, i, none⟩ (.int .u32 (M : Int))) from HBU.out.drew.setCell (p := ⟨gh, i, none⟩) HNE.out.2.2.1 _)
          have u1 := HU2.out.cell i (by rw [preF_len]; exact HI.out)
          have u2 := HU2.out.frozen i
          generalize (preF fh n i 4294967295)[i]'_ = o2 at u1
          clear hcs
          generalize l.length = ln at *
          clear hpt hm5 hm6 hM hfh hpos hfit t2 hg5
          go_wp2_with fail
          go_region
          all_goals
            go_wp2_with fail
            go_roundw
            case rel => exact ⟨i + 1, rfl, HI.out, HQ1.out, HQ2.out, HQ3.out, HQ4.out⟩
            case measure => simp [intOf]; have := HI.out; omega
        · have e3 : decide (y < (l.length : Int)) = false := by simpa using t2
          have HQ2 := hid (show Own wr gh (preF fh n (i + 1) 4294967295) by rw [← preF_same _ _ _ _ (show fh i = 4294967295 by rw [hfh]; unfold highN; rw [if_neg t2])]; exact HU2.out)
          generalize l.length = ln at *
          clear hpt hfh hpos hfit t2
          go_wp2_with fail
          go_roundw
          case rel => exact ⟨i + 1, rfl, HI.out, HU1.out, HQ2.out, HU3.out, HBU.out⟩
          case measure => simp [intOf]; have := HI.out; omega
    · obtain rfl : i = n := by omega
      have e1 : decide ((i : Int) < (i : Int)) = false := by simp
      have e1' : decide (i < i) = false := by simp
      have hz := zero_cells y4
      have HF1 := hid (show Own wr gl (lowL bs lo) by unfold lowL; rw [HS.out.2.2.2.2.2.2.1, ← HFL.out, ← preF_all fl i 0]; exact HO1.out)
      have HF2 := hid (show Own wr gh (highL bs hi) by unfold highL; rw [HS.out.2.2.2.2.2.2.1, ← HFH0.out, ← preF_all fh i 4294967295]; exact HO2.out)
      have HSO := hid (store_out (lo := []) (hi := []) (A := none) (A' := none) (HBW.out.trans (HB.out.mono HBW.out.size)) HK.out.1 y4 (Pt.nil _ _) (Pt.nil _ _) (.slice (some ⟨gl, 0, none⟩) i i) (.slice (some ⟨gh, 0, none⟩) i i) (by simp))
      have HLN := hid (show (lowL bs lo).length = i ∧ (highL bs hi).length = i by unfold lowL highL; rw [HS.out.2.2.2.2.2.2.1]; simp)
      have HFT := hid (show (∀ x ∈ lowL bs lo, x < 4294967296) ∧ (∀ x ∈ highL bs hi, x < 4294967296) by
        have hb : ∀ j, ∀ x ∈ bs.getD j [], x < 4294967296 := fun j => by
          rw [List.getD_eq_getElem?_getD]
          cases hj : bs[j]? with
          | none => simp
          | some l => exact (HS.out.1.fit l (List.mem_of_getElem? hj)).1
        constructor
        · intro x hx; unfold lowL at hx; obtain ⟨j, _, rfl⟩ := List.mem_map.1 hx; exact lowN_fit (hb j) _
        · intro x hx; unfold highL at hx; obtain ⟨j, _, rfl⟩ := List.mem_map.1 hx; exact highN_fit (hb j) _)
      clear y4 hlt hi2 y1 y2 y3
      go_wp2_with fail
      have z2 := HSO.out.2.2.2
      refine bodyPost_ret (v := .tuple #[.agg #[.slice (some ⟨gl, 0, none⟩) i i, .slice (some ⟨gh, 0, none⟩) i i], .int .i64 0]) (by simp [results, Try.results22, go_sem, z2]) rfl ?_
      have hk := HK.out
      have hne := HNE.out
      have hsw := HBW.out.size
      exact ⟨gl, gh, rfl, (HF1.out.far (p := ⟨k3, 0, none⟩) (by show gl ≠ k3; omega) _).far (p := ⟨k3, 1, none⟩) (by show gl ≠ k3; omega) _, (HF2.out.far (p := ⟨k3, 0, none⟩) (by show gh ≠ k3; omega) _).far (p := ⟨k3, 1, none⟩) (by show gh ≠ k3; omega) _, ⟨by omega, by omega⟩, HLN.out, HFT.out, HSO.out.2.2.1⟩
end Go.Proofs.Ytmhjoeegghnlhaa.Sc
