/- LinearFinds and LinearRanges walked: how many chains, the chain of any point, the box of any chain; the chains that any box meets. -/
import Derived.Test.YtalohakibpjmmaaLnRRng
import Derived.Test.YtalohakibpjmmaaLnOrdW
namespace Go.Proofs.Ytalohakibpjmmaa
open Go.RowKit
open Go.Lib (hid)
open Go.ChangeShapes Go.WideShapes Go.Joins Go.Deep
open Go.Proofs.Ytalohakibpjmmaa.Ky
open Go.Proofs.Ytalohakibpjmmaa.Bk
open Go.Proofs.Ytalohakibpjmmaa.Ex
open Go.Proofs.Ytalohakibpjmmaa.Ln
theorem cCase4 : Try.prog.cellsOf 25 = 4 := by kernel_rfl
def CaseV (w : World) (v : Value) : Prop := ∃ (y : Value) (l x c : Int), v = .agg #[y, .int .i64 l, .int .i64 x, .int .i64 c] ∧ KeyV w y ∧ (-9223372036854775808 ≤ c ∧ c ≤ 9223372036854775807)
set_option maxRecDepth 100000 in
theorem LinearFinds_open0 {H : Type} {enc : TypeId × Value → H} {W : World} {base : Nat} {v : Value} {d : DataW H} {p : List MemPlace} (hv : Value.okWide Try.prog W .any base 25 v) (h : DataW.Trod enc Try.prog W 0 (fun _ => true) true 25 v d p) : CaseV W v := by
  obtain ⟨cs, rfl, hsz⟩ := okWide_struct Try.underlying25 hv
  obtain ⟨fuel, hf⟩ := h
  rw [cCase4] at hsz
  obtain ⟨l⟩ := cs
  have hl : l.length = 4 := hsz
  obtain ⟨x0, x1, x2, x3, rfl⟩ : ∃ x0 x1 x2 x3, l = [x0, x1, x2, x3] := by
    match l, hl with
    | [x0, x1, x2, x3], _ => exact ⟨x0, x1, x2, x3, rfl⟩
  obtain ⟨xs, m, _, _, _, hlen, hff⟩ := DataW.trod_struct Try.underlying25 hf
  have hlen4 : xs.length = 4 := hlen
  have some_at : ∀ j, j < 4 → (xs[j]?).isSome = true := fun j hj => by rw [List.getElem?_eq_getElem (by omega)]; rfl
  obtain ⟨y0, hy0⟩ := Option.isSome_iff_exists.1 (some_at 0 (by omega))
  have h0 := hff 0 _ rfl
  rw [hy0] at h0
  obtain ⟨b, rfl, _⟩ := read_k 3 .i64 1 Try.underlying3 c3 rfl (some_at 1 (by omega)) (hff 1 _ rfl)
  obtain ⟨c, rfl, _⟩ := read_k 3 .i64 2 Try.underlying3 c3 rfl (some_at 2 (by omega)) (hff 2 _ rfl)
  obtain ⟨e, rfl, we⟩ := read_k 3 .i64 3 Try.underlying3 c3 rfl (some_at 3 (by omega)) (hff 3 _ rfl)
  exact ⟨x0, b, c, e, rfl, key_trod (cell_one rfl c23) h0, Ky.wf_i64 we⟩
set_option maxRecDepth 100000 in
theorem LinearRanges_open0 {H : Type} {enc : TypeId × Value → H} {W : World} {base : Nat} {v : Value} {d : DataW H} {p : List MemPlace} (hv : Value.okWide Try.prog W .any base 32 v) (h : DataW.Trod enc Try.prog W 0 (fun _ => true) true 32 v d p) : BoxV W v := open_boxv hv h
theorem bL_lenF (dim l x c : Int) : (bL dim l x c).1.length ≤ 1000000 ∧ (bL dim l x c).2.length ≤ 1000000 := by
  unfold bL; split
  · exact bxL_len _ _ _
  · simp
theorem rn_len (bl bh : List Nat) (l x : Int) : (rnL bl bh l x).length ≤ 1000000 := by
  unfold rnL
  split
  · rename_i h
    obtain ⟨L, X, rfl, hL, rfl, hX, _⟩ := rn_parts h
    have := rng_len bl.length L X bl bh
    have := pow_10 hL
    simp only [Int.toNat_natCast]
    omega
  · simp

set_option maxRecDepth 100000 in
set_option maxHeartbeats 4000000 in
theorem LinearFinds_walk (v : Value) (w : World) (h : CaseV w v) :
    Calls Try.prog 3 #[v] w fun e w' => e = .returned (.bool true) ∧ Below w.heap.size w w' := by
  obtain ⟨y, l, x, a, rfl, ⟨p, k, c, rfl, hp, hl⟩, ha⟩ := h
  obtain ⟨W, hW⟩ : ∃ W, w.alloc (.cells #[.slice p k.length c, .int .i64 l, .int .i64 x, .int .i64 a] 25) = W := ⟨_, rfl⟩
  have HB := hid (show Below w.heap.size w W by rw [← hW]; exact below_alloc _ _)
  have hg : W.heap[w.heap.size]? = some (.cells #[.slice p k.length c, .int .i64 l, .int .i64 x, .int .i64 a] 25 (0, 0)) := by rw [← hW]; exact heap_alloc_new _ _
  have x0 : W.cell? ⟨w.heap.size, 0, none⟩ = some (.slice p k.length c) := by rw [cell_of_row _ _ _ _ _ _ hg]; rfl
  have x1 : W.cell? ⟨w.heap.size, 1, none⟩ = some (.int .i64 l) := by rw [cell_of_row _ _ _ _ _ _ hg]; rfl
  have x2 : W.cell? ⟨w.heap.size, 2, none⟩ = some (.int .i64 x) := by rw [cell_of_row _ _ _ _ _ _ hg]; rfl
  have x3 : W.cell? ⟨w.heap.size, 3, none⟩ = some (.int .i64 a) := by rw [cell_of_row _ _ _ _ _ _ hg]; rfl
  have HP := hid hp
  clear hp
  by_cases h20 : 20 < k.length
  · have e1 : decide ((20 : Int) < (k.length : Int)) = true := by simp; omega
    have e1' : decide (20 < k.length) = true := by simpa using h20
    clear hl h20 hg ha
    go_enter Try.func3, Try.ntmps3
    go_wp2_with fail
    go_quiet (fail)
    go_wp2_with fail
    refine (Ln.live_any _).mono ?_
    rintro e w2 ⟨rfl, hb⟩
    have H1 := hid ((HB.out).trans (((below_drewN (Below.refl W.heap.size W) _).trans hb).mono HB.out.size))
    clear hb
    go_wp2_with fail
    go_ret
    exact ⟨rfl, H1.out⟩
  · have e1 : decide ((20 : Int) < (k.length : Int)) = false := by simp; omega
    have e1' : decide (20 < k.length) = false := by simpa using h20
    by_cases h7 : 7 < l
    · have e2 : decide (7 < l) = true := by simpa using h7
      by_cases h10 : l ≤ 10
      · have e3 : decide (l ≤ 10) = true := by simpa using h10
        clear hl h20 hg ha h7 h10
        go_enter Try.func3, Try.ntmps3
        go_wp2_with fail
        go_quiet (fail)
        go_wp2_with fail
        refine (Ln.live_any _).mono ?_
        rintro e w2 ⟨rfl, hb⟩
        have H1 := hid ((HB.out).trans (((below_drewN (Below.refl W.heap.size W) _).trans hb).mono HB.out.size))
        clear hb
        go_wp2_with fail
        go_ret
        exact ⟨rfl, H1.out⟩
      · have e3 : decide (l ≤ 10) = false := by simpa using h10
        clear h7 h10
        have HC := hid fun (V : World) => count_ok l x V
        have HD := hid fun (V : World) => refCount_ok l x V
        generalize cntV l x = C1 at HC HD
        generalize err (lvB l x) = C2 at HC HD
        have HX := hid fun (V : World) => boxL_any (k.length : Int) l x a ha V
        have HY := hid fun (V : World) => refBoxL_any (k.length : Int) l x a V
        have HL := hid (bL_lenF (k.length : Int) l x a)
        generalize bL (k.length : Int) l x a = Z at HX HY HL
        generalize err (bB (k.length : Int) l x a) = E1 at HX HY
        obtain ⟨L, H⟩ := Z
        unfold AnyBox at HX HY
        have HS := hid fun (p q r s : Option Addr) (c1 c2 c3 c4 : Nat) (V : World) (g1 : Pt V p L) (g2 : Pt V q H) (g3 : Pt V r L) (g4 : Pt V s H) => (show Calls Try.prog 16 #[.agg #[.slice p L.length c1, .slice q H.length c2], .agg #[.slice r L.length c3, .slice s H.length c4]] V fun e w' => e = .returned (.bool true) ∧ Below V.heap.size V w' from by
          have := sameBox_ok L H L H p q r s c1 c2 c3 c4 V g1 g2 g3 g4 HL.out.1 HL.out.2
          rw [show sameBoxB L H L H = true by simp [sameBoxB, sameB]] at this
          exact this)
        have HF := hid fun (V : World) (g : Pt V p k) => findL_ok k p c l x V g (by omega)
        have HG := hid fun (V : World) (g : Pt V p k) => refFindL_ok k p c l x V g (by omega)
        generalize fV k l x = F1 at HF HG
        generalize err (fB k l x) = E2 at HF HG
        clear hl h20 hg ha
        go_enter Try.func3, Try.ntmps3
        go_wp2_with fail
        go_quiet (fail)
        go_wp2_with fail
        refine (HC.out _).mono ?_
        rintro e w0 ⟨rfl, hw0⟩
        have H0 := hid (show Below w.heap.size w w0 by rw [← hw0]; exact below_drewN HB.out _)
        clear hw0 x0 x1 x2 x3
        go_wp2_with fail
        refine (HD.out _).mono ?_
        rintro e w1 ⟨rfl, rfl⟩
        go_wp2_with fail
        refine (HF.out _ (HP.out.below H0.out)).mono ?_
        rintro e w1 ⟨rfl, m, hw⟩
        have H1 := hid (show Below w.heap.size w w1 by rw [hw]; exact below_drewN H0.out m); clear hw
        go_wp2_with fail
        refine (HG.out _ (HP.out.below H1.out)).mono ?_
        rintro e w2 ⟨rfl, m, hw⟩
        have H2 := hid (show Below w.heap.size w w2 by rw [hw]; exact below_drewN H1.out m); clear hw
        go_wp2_with fail
        refine (HX.out _).mono ?_
        rintro e w3 ⟨p1, c1, q1, c2, rfl, g1, g2, hb⟩
        have H3 := hid (H2.out.trans (hb.mono H2.out.size))
        have K1 := hid ((((Cx.start w3).more g2).more g1).box #[.slice p1 L.length c1, .slice q1 H.length c2])
        clear g1 g2 hb
        go_wp2_with fail
        refine (HY.out _).mono ?_
        rintro e w4 ⟨p2, c3, q2, c4, rfl, g1, g2, hb⟩
        have K2 := hid ((((K1.out.step hb).more g2).more g1).box #[.slice p2 L.length c3, .slice q2 H.length c4])
        clear g1 g2 hb K1
        have y1 := K2.out.cells (g := w3.heap.size) (x := .slice p1 L.length c1) (y := .slice q1 H.length c2) (by simp)
        have y2 := K2.out.cells (g := w4.heap.size) (x := .slice p2 L.length c3) (y := .slice q2 H.length c4) (by simp)
        go_wp2_with fail
        refine (HS.out p1 q1 p2 q2 c1 c2 c3 c4 _ (K2.out.pt (p := p1) (by simp)) (K2.out.pt (p := q1) (by simp)) (K2.out.pt (p := p2) (by simp)) (K2.out.pt (p := q2) (by simp))).mono ?_
        rintro e w6 ⟨rfl, hb⟩
        have K5 := hid (K2.out.step hb); clear hb y1 y2 K2
        go_wp2_with fail
        refine (Ln.live_any _).mono ?_
        rintro e w7 ⟨rfl, hb⟩
        have H7 := hid (H3.out.trans ((K5.out.below.trans (hb.mono K5.out.below.size)).mono H3.out.size)); clear hb
        go_wp2_with fail
        go_ret
        exact ⟨rfl, H7.out⟩
    · have e2 : decide (7 < l) = false := by simpa using h7
      clear h7
      have HC := hid fun (V : World) => count_ok l x V
      have HD := hid fun (V : World) => refCount_ok l x V
      generalize cntV l x = C1 at HC HD
      generalize err (lvB l x) = C2 at HC HD
      have HX := hid fun (V : World) => boxL_any (k.length : Int) l x a ha V
      have HY := hid fun (V : World) => refBoxL_any (k.length : Int) l x a V
      have HL := hid (bL_lenF (k.length : Int) l x a)
      generalize bL (k.length : Int) l x a = Z at HX HY HL
      generalize err (bB (k.length : Int) l x a) = E1 at HX HY
      obtain ⟨L, H⟩ := Z
      unfold AnyBox at HX HY
      have HS := hid fun (p q r s : Option Addr) (c1 c2 c3 c4 : Nat) (V : World) (g1 : Pt V p L) (g2 : Pt V q H) (g3 : Pt V r L) (g4 : Pt V s H) => (show Calls Try.prog 16 #[.agg #[.slice p L.length c1, .slice q H.length c2], .agg #[.slice r L.length c3, .slice s H.length c4]] V fun e w' => e = .returned (.bool true) ∧ Below V.heap.size V w' from by
        have := sameBox_ok L H L H p q r s c1 c2 c3 c4 V g1 g2 g3 g4 HL.out.1 HL.out.2
        rw [show sameBoxB L H L H = true by simp [sameBoxB, sameB]] at this
        exact this)
      have HF := hid fun (V : World) (g : Pt V p k) => findL_ok k p c l x V g (by omega)
      have HG := hid fun (V : World) (g : Pt V p k) => refFindL_ok k p c l x V g (by omega)
      generalize fV k l x = F1 at HF HG
      generalize err (fB k l x) = E2 at HF HG
      clear hl h20 hg ha
      go_enter Try.func3, Try.ntmps3
      go_wp2_with fail
      go_quiet (fail)
      go_wp2_with fail
      refine (HC.out _).mono ?_
      rintro e w0 ⟨rfl, hw0⟩
      have H0 := hid (show Below w.heap.size w w0 by rw [← hw0]; exact below_drewN HB.out _)
      clear hw0 x0 x1 x2 x3
      go_wp2_with fail
      refine (HD.out _).mono ?_
      rintro e w1 ⟨rfl, rfl⟩
      go_wp2_with fail
      refine (HF.out _ (HP.out.below H0.out)).mono ?_
      rintro e w1 ⟨rfl, m, hw⟩
      have H1 := hid (show Below w.heap.size w w1 by rw [hw]; exact below_drewN H0.out m); clear hw
      go_wp2_with fail
      refine (HG.out _ (HP.out.below H1.out)).mono ?_
      rintro e w2 ⟨rfl, m, hw⟩
      have H2 := hid (show Below w.heap.size w w2 by rw [hw]; exact below_drewN H1.out m); clear hw
      go_wp2_with fail
      refine (HX.out _).mono ?_
      rintro e w3 ⟨p1, c1, q1, c2, rfl, g1, g2, hb⟩
      have H3 := hid (H2.out.trans (hb.mono H2.out.size))
      have K1 := hid ((((Cx.start w3).more g2).more g1).box #[.slice p1 L.length c1, .slice q1 H.length c2])
      clear g1 g2 hb
      go_wp2_with fail
      refine (HY.out _).mono ?_
      rintro e w4 ⟨p2, c3, q2, c4, rfl, g1, g2, hb⟩
      have K2 := hid ((((K1.out.step hb).more g2).more g1).box #[.slice p2 L.length c3, .slice q2 H.length c4])
      clear g1 g2 hb K1
      have y1 := K2.out.cells (g := w3.heap.size) (x := .slice p1 L.length c1) (y := .slice q1 H.length c2) (by simp)
      have y2 := K2.out.cells (g := w4.heap.size) (x := .slice p2 L.length c3) (y := .slice q2 H.length c4) (by simp)
      go_wp2_with fail
      refine (HS.out p1 q1 p2 q2 c1 c2 c3 c4 _ (K2.out.pt (p := p1) (by simp)) (K2.out.pt (p := q1) (by simp)) (K2.out.pt (p := p2) (by simp)) (K2.out.pt (p := q2) (by simp))).mono ?_
      rintro e w6 ⟨rfl, hb⟩
      have K5 := hid (K2.out.step hb); clear hb y1 y2 K2
      go_wp2_with fail
      refine (Ln.live_any _).mono ?_
      rintro e w7 ⟨rfl, hb⟩
      have H7 := hid (H3.out.trans ((K5.out.below.trans (hb.mono K5.out.below.size)).mono H3.out.size)); clear hb
      go_wp2_with fail
      go_ret
      exact ⟨rfl, H7.out⟩

set_option maxRecDepth 100000 in
set_option maxHeartbeats 4000000 in
theorem LinearRanges_walk (v : Value) (l x : Int) (w : World) (h : BoxV w v) (_ : (Lit.int .i64 l).wf = true) (_ : (Lit.int .i64 x).wf = true) :
    Calls Try.prog 4 #[v, .int .i64 l, .int .i64 x] w fun e w' => e = .returned (.bool true) ∧ Below w.heap.size w w' := by
  obtain ⟨x1, y1, rfl, ⟨p, bl, c, rfl, hp, _⟩, q, bh, c', rfl, hq, _⟩ := h
  obtain ⟨W, hW⟩ : ∃ W, w.alloc (.cells #[Value.slice p bl.length c, .slice q bh.length c'] 32) = W := ⟨_, rfl⟩
  have HB := hid (show Below w.heap.size w W by rw [← hW]; exact below_alloc _ _)
  have HG := hid (show W.heap[w.heap.size]? = some (.cells #[Value.slice p bl.length c, .slice q bh.length c'] 32 (0, 0)) by rw [← hW]; exact heap_alloc_new _ _)
  have z := two_cells HG.out
  by_cases h1 : 20 < bl.length
  · have e1 : decide ((20 : Int) < (bl.length : Int)) = true := by simp; omega
    have e1' : decide (20 < bl.length) = true := by simpa using h1
    clear hp hq h1
    go_enter Try.func4, Try.ntmps4
    go_wp2_with fail
    refine (Ln.live_any _).mono ?_
    rintro e w4 ⟨rfl, hb⟩
    have H4 := hid (HB.out.trans (hb.mono HB.out.size)); clear hb
    go_wp2_with fail
    go_ret
    exact ⟨rfl, H4.out⟩
  · have e1 : decide ((20 : Int) < (bl.length : Int)) = false := by simp; omega
    have e1' : decide (20 < bl.length) = false := by simpa using h1
    by_cases h2 : 20 < bh.length
    · have e2 : decide ((20 : Int) < (bh.length : Int)) = true := by simp; omega
      have e2' : decide (20 < bh.length) = true := by simpa using h2
      clear hp hq h1 h2
      go_enter Try.func4, Try.ntmps4
      go_wp2_with fail
      refine (Ln.live_any _).mono ?_
      rintro e w4 ⟨rfl, hb⟩
      have H4 := hid (HB.out.trans (hb.mono HB.out.size)); clear hb
      go_wp2_with fail
      go_ret
      exact ⟨rfl, H4.out⟩
    · have e2 : decide ((20 : Int) < (bh.length : Int)) = false := by simp; omega
      have e2' : decide (20 < bh.length) = false := by simpa using h2
      have HX := hid fun (V : World) (hb : Below W.heap.size W V) => rangeL_any l x p q c c' V (hp.below (HB.out.trans (hb.mono HB.out.size))) (hq.below (HB.out.trans (hb.mono HB.out.size))) (by omega)
      have HY := hid fun (V : World) (hb : Below W.heap.size W V) => refRangeL_any l x p q c c' V (hp.below (HB.out.trans (hb.mono HB.out.size))) (hq.below (HB.out.trans (hb.mono HB.out.size))) (by omega)
      have HL := hid (rn_len bl bh l x)
      generalize rnL bl bh l x = L at HX HY HL
      generalize err (rnB bl bh l x) = E1 at HX HY
      unfold AnyList at HX HY
      clear hp hq h1 h2
      by_cases h3 : 6 < l
      · have e3 : decide (6 < l) = true := by simpa using h3
        by_cases h4 : l ≤ 10
        · have e4 : decide (l ≤ 10) = true := by simpa using h4
          clear h3 h4
          go_enter Try.func4, Try.ntmps4
          go_wp2_with fail
          refine (Ln.live_any _).mono ?_
          rintro e w4 ⟨rfl, hb⟩
          have H4 := hid (HB.out.trans (hb.mono HB.out.size)); clear hb
          go_wp2_with fail
          go_ret
          exact ⟨rfl, H4.out⟩
        · have e4 : decide (l ≤ 10) = false := by simpa using h4
          clear h3 h4
          go_enter Try.func4, Try.ntmps4
          go_wp2_with fail
          refine (HX.out _ (Below.refl _ _)).mono ?_
          rintro e w1 ⟨p1, c1, rfl, g1, hb⟩
          have H1 := hid hb
          have G1 := hid g1
          have z2 := two_cells ((hb.block _ (lt_of HG.out)).trans HG.out)
          clear g1 hb z hW
          go_wp2_with fail
          refine (HY.out _ H1.out).mono ?_
          rintro e w2 ⟨p2, c2, rfl, g2, hb⟩
          have H2 := hid (H1.out.trans (hb.mono H1.out.size))
          have G2 := hid g2
          have G3 := hid (G1.out.below hb)
          clear g2 hb z2 G1
          go_wp2_with fail
          refine (ints_same L p1 p2 c1 c2 _ G3.out G2.out HL.out).mono ?_
          rintro e w3 ⟨rfl, m, hw⟩
          have H3 := hid (show Below w.heap.size w w3 by rw [hw]; exact HB.out.trans ((below_drewN H2.out m).mono HB.out.size))
          clear hw
          go_wp2_with fail
          refine (Ln.live_any _).mono ?_
          rintro e w4 ⟨rfl, hb⟩
          have H4 := hid (H3.out.trans (hb.mono H3.out.size)); clear hb
          go_wp2_with fail
          go_ret
          exact ⟨rfl, H4.out⟩
      · have e3 : decide (6 < l) = false := by simpa using h3
        clear h3
        go_enter Try.func4, Try.ntmps4
        go_wp2_with fail
        refine (HX.out _ (Below.refl _ _)).mono ?_
        rintro e w1 ⟨p1, c1, rfl, g1, hb⟩
        have H1 := hid hb
        have G1 := hid g1
        have z2 := two_cells ((hb.block _ (lt_of HG.out)).trans HG.out)
        clear g1 hb z hW
        go_wp2_with fail
        refine (HY.out _ H1.out).mono ?_
        rintro e w2 ⟨p2, c2, rfl, g2, hb⟩
        have H2 := hid (H1.out.trans (hb.mono H1.out.size))
        have G2 := hid g2
        have G3 := hid (G1.out.below hb)
        clear g2 hb z2 G1
        go_wp2_with fail
        refine (ints_same L p1 p2 c1 c2 _ G3.out G2.out HL.out).mono ?_
        rintro e w3 ⟨rfl, m, hw⟩
        have H3 := hid (show Below w.heap.size w w3 by rw [hw]; exact HB.out.trans ((below_drewN H2.out m).mono HB.out.size))
        clear hw
        go_wp2_with fail
        refine (Ln.live_any _).mono ?_
        rintro e w4 ⟨rfl, hb⟩
        have H4 := hid (H3.out.trans (hb.mono H3.out.size)); clear hb
        go_wp2_with fail
        go_ret
        exact ⟨rfl, H4.out⟩
end Go.Proofs.Ytalohakibpjmmaa
