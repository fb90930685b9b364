/- PartHalves walked: any box halved, and where it is to be halved, as the reference says. -/
import Derived.Test.YtkjcbfdplhcjpaaPtRChoose
import Derived.Test.YtkjcbfdplhcjpaaPtAllW
namespace Go.Proofs.Ytkjcbfdplhcjpaa.Pt
theorem xhi_len (lo hi : List Nat) (a : Int) : (xhi lo hi a).length ≤ hi.length := by unfold xhi; split <;> simp
theorem yhi_len (lo hi : List Nat) (a : Int) : (yhi lo hi a).length ≤ hi.length := by unfold yhi; split <;> simp
end Go.Proofs.Ytkjcbfdplhcjpaa.Pt
namespace Go.Proofs.Ytkjcbfdplhcjpaa
open Go.RowKit
open Go.Lib (hid)
open Go.ChangeShapes Go.WideShapes Go.Joins
open Go.Proofs.Ytkjcbfdplhcjpaa.Ky
open Go.Proofs.Ytkjcbfdplhcjpaa.Bk
open Go.Proofs.Ytkjcbfdplhcjpaa.Pt
set_option maxRecDepth 100000 in
theorem PartHalves_open0 {H : Type} {enc : TypeId × Value → H} {W : World} {base : Nat} {v : Value} {d : DataW H} {p : List MemPlace} (hv : Value.okWide Try.prog W .any base 35 v) (h : DataW.Trod enc Try.prog W 0 (fun _ => true) true 35 v d p) : BoxV W v := open_boxv hv h
set_option maxRecDepth 100000 in
theorem PartHalves_open2 {H : Type} {enc : TypeId × Value → H} {W : World} {base : Nat} {v : Value} {d : DataW H} {p : List MemPlace} (hv : Value.okWide Try.prog W .any base 40 v) (h : DataW.Trod enc Try.prog W 0 (fun _ => true) true 40 v d p) : RecsV W v := open_recs hv h
set_option maxRecDepth 100000 in
set_option maxHeartbeats 2000000 in
theorem hlv_no (lo hi : List Nat) (L : List Rec) (p q s : Option Addr) (c c' c'' : Nat) (a : Int) (w : World) (hs : Rs (fun _ => False) w s L) (hl : L.length ≤ 9223372036854775807) (h : ¬ (lo.length ≤ 20 ∧ hi.length ≤ 20 ∧ fewB L = true)) :
    Calls Try.prog 9 #[.agg #[.slice p lo.length c, .slice q hi.length c'], .int .i64 a, .slice s L.length c''] w fun e w' => e = .returned (.bool true) ∧ Below w.heap.size w w' := by
  have HB := hid (below_alloc w (.cells #[.slice p lo.length c, .slice q hi.length c'] 35))
  have HL := hid fun (V : World) => Pt.live_any V
  by_cases h1 : 20 < lo.length
  · have e1 : decide ((20 : Int) < (lo.length : Int)) = true := by simp; omega
    clear hs hl h h1
    go_enter Try.func9, Try.ntmps9
    go_wp2_with fail
    refine (HL.out _).mono ?_
    rintro e w2 ⟨rfl, hb⟩
    have HB2 := hid (HB.out.trans (hb.mono HB.out.size)); clear hb
    go_wp2_with fail
    go_ret
    exact ⟨rfl, HB2.out⟩
  · have e1 : decide ((20 : Int) < (lo.length : Int)) = false := by simp; omega
    by_cases h2 : 20 < hi.length
    · have e2 : decide ((20 : Int) < (hi.length : Int)) = true := by simp; omega
      clear hs hl h h1 h2
      go_enter Try.func9, Try.ntmps9
      go_wp2_with fail
      refine (HL.out _).mono ?_
      rintro e w2 ⟨rfl, hb⟩
      have HB2 := hid (HB.out.trans (hb.mono HB.out.size)); clear hb
      go_wp2_with fail
      go_ret
      exact ⟨rfl, HB2.out⟩
    · have e2 : decide ((20 : Int) < (hi.length : Int)) = false := by simp; omega
      have hf : fewB L = false := by
        cases e : fewB L with
        | false => rfl
        | true => exact absurd ⟨by omega, by omega, e⟩ h
      have HF := hid (few_ok L s c'' _ (hs.below HB.out) hl)
      rw [hf] at HF
      clear hs hl h h1 h2 hf
      go_enter Try.func9, Try.ntmps9
      go_wp2_with fail
      refine HF.out.mono ?_
      rintro e w1 ⟨rfl, rfl⟩
      go_wp2_with fail
      refine (HL.out _).mono ?_
      rintro e w2 ⟨rfl, hb⟩
      have HB2 := hid (HB.out.trans (hb.mono HB.out.size)); clear hb
      go_wp2_with fail
      go_ret
      exact ⟨rfl, HB2.out⟩
set_option maxRecDepth 100000 in
set_option maxHeartbeats 4000000 in
theorem hlv_go (lo hi : List Nat) (L : List Rec) (p q s : Option Addr) (c c' c'' : Nat) (a : Int) (w : World) (hp : Pt w p lo) (hq : Pt w q hi) (hs : Rs (fun _ => False) w s L) (h1 : lo.length ≤ 20) (h2 : hi.length ≤ 20) (hf : fewB L = true) :
    Calls Try.prog 9 #[.agg #[.slice p lo.length c, .slice q hi.length c'], .int .i64 a, .slice s L.length c''] w fun e w' => e = .returned (.bool true) ∧ Below w.heap.size w w' := by
  have H0 := hid (((((Cp.start w).more hp).more hq).list hs).box (.slice p lo.length c) (.slice q hi.length c'))
  have hfew := (fewB_iff.1 hf).1
  have hbig := fewR_big (fewB_iff.1 hf)
  have HF := hid (few_ok L s c'' _ (hs.below (below_alloc w (.cells #[.slice p lo.length c, .slice q hi.length c'] 35))) (by omega))
  rw [hf] at HF
  have HL := hid fun (V : World) => Pt.live_any V
  have HH := hid fun (V : World) (g : Pt V p lo) (g' : Pt V q hi) => halves_ok lo hi p q c c' a V g g' (by omega)
  have HRH := hid fun (V : World) (g : Pt V p lo) (g' : Pt V q hi) => refHalves_ok lo hi p q c c' a V g g' (by omega)
  have HC := hid fun (V : World) (g : Pt V p lo) (g' : Pt V q hi) (g2 : Rs (fun _ => False) V s L) => choose_ok lo hi L p q s c c' c'' a V g g' g2 (by omega) hbig
  have HRC := hid fun (V : World) (g : Pt V p lo) (g' : Pt V q hi) (g2 : Rs (fun _ => False) V s L) => refChoose_ok lo hi L p q s c c' c'' a V g g' g2 (by omega) hbig
  have hx1 := Nat.le_trans (xlo_len lo hi a) h1
  have hx2 := Nat.le_trans (xhi_len lo hi a) h2
  have hy1 := Nat.le_trans (ylo_len lo hi a) h1
  have hy2 := Nat.le_trans (yhi_len lo hi a) h2
  have e1 : decide ((20 : Int) < (lo.length : Int)) = false := by simp; omega
  have e2 : decide ((20 : Int) < (hi.length : Int)) = false := by simp; omega
  unfold HalfPost at HH HRH
  unfold ChoPost at HC HRC
  clear hp hq hs h1 h2 hf hfew hbig
  generalize xlo lo hi a = XL at *
  generalize xhi lo hi a = XH at *
  generalize ylo lo hi a = YL at *
  generalize yhi lo hi a = YH at *
  generalize halfB lo hi a = bb at *
  generalize chooseR lo hi L a = r at *
  obtain ⟨r1, r2⟩ := r
  have HX := hid (And.intro hx1 hx2); have HY := hid (And.intro hy1 hy2)
  clear hx1 hx2 hy1 hy2
  have f1 : (bb == bb) = true := by simp
  have f2 : ((r1 : Int) == (r1 : Int)) = true := by simp
  have f3 : (r2 == r2) = true := by simp
  go_enter Try.func9, Try.ntmps9
  go_wp2_with fail
  refine HF.out.mono ?_
  rintro e w1 ⟨rfl, rfl⟩
  have x := H0.out.cells (g := w.heap.size) (a := .slice p lo.length c) (b := .slice q hi.length c') (by simp)
  go_wp2_with fail
  refine (HH.out _ (H0.out.pt (p := p) (by simp)) (H0.out.pt (p := q) (by simp))).mono ?_
  rintro e w2 ⟨p1, c1, p2, c2, p3, c3, p4, c4, rfl, g1, g2, g3, g4, hb⟩
  have H1 := hid (((((((H0.out.step hb).more g1).more g2).more g3).more g4).box (.slice p1 XL.length c1) (.slice p2 XH.length c2)).box (.slice p3 YL.length c3) (.slice p4 YH.length c4)); clear hb H0 g1 g2 g3 g4 x
  simp only [World.size_alloc] at H1
  have x := H1.out.cells (g := w.heap.size) (a := .slice p lo.length c) (b := .slice q hi.length c') (by simp)
  go_wp2_with fail
  refine (HRH.out _ (H1.out.pt (p := p) (l := lo) (by simp)) (H1.out.pt (p := q) (l := hi) (by simp))).mono ?_
  rintro e w3 ⟨q1, d1, q2, d2, q3, d3, q4, d4, rfl, g1, g2, g3, g4, hb⟩
  have H2 := hid (((((((H1.out.step hb).more g1).more g2).more g3).more g4).box (.slice q1 XL.length d1) (.slice q2 XH.length d2)).box (.slice q3 YL.length d3) (.slice q4 YH.length d4)); clear hb H1 g1 g2 g3 g4 x
  simp only [World.size_alloc] at H2
  have x := H2.out.cells (g := w.heap.size) (a := .slice p lo.length c) (b := .slice q hi.length c') (by simp)
  go_wp2_with fail
  refine (HC.out _ (H2.out.pt (p := p) (l := lo) (by simp)) (H2.out.pt (p := q) (l := hi) (by simp)) (H2.out.rs (p := s) (L := L) (by simp))).mono ?_
  rintro e w4 ⟨rfl, hb⟩
  have H3 := hid (H2.out.step hb); clear hb H2 x
  have x := H3.out.cells (g := w.heap.size) (a := .slice p lo.length c) (b := .slice q hi.length c') (by simp)
  dsimp only
  go_wp2_with fail
  refine (HRC.out _ (H3.out.pt (p := p) (l := lo) (by simp)) (H3.out.pt (p := q) (l := hi) (by simp)) (H3.out.rs (p := s) (L := L) (by simp))).mono ?_
  rintro e w5 ⟨rfl, hb⟩
  have H4 := hid (H3.out.step hb); clear hb H3 x
  have x := H4.out.cells (g := w2.heap.size) (a := .slice p1 XL.length c1) (b := .slice p2 XH.length c2) (by simp)
  have y := H4.out.cells (g := w3.heap.size) (a := .slice q1 XL.length d1) (b := .slice q2 XH.length d2) (by simp)
  dsimp only
  go_wp2_with fail
  refine (v7 XL XH rfl rfl (H4.out.pt (p := p1) (l := XL) (by simp)) (H4.out.pt (p := p2) (l := XH) (by simp)) (H4.out.pt (p := q1) (l := XL) (by simp)) (H4.out.pt (p := q2) (l := XH) (by simp)) (by have := HX.out.1; omega) (by have := HX.out.2; omega)).mono ?_
  rintro e w6 ⟨rfl, hb⟩
  have H5 := hid (H4.out.step hb); clear hb H4 x y
  have x := H5.out.cells (g := w2.heap.size + 1) (a := .slice p3 YL.length c3) (b := .slice p4 YH.length c4) (by simp)
  have y := H5.out.cells (g := w3.heap.size + 1) (a := .slice q3 YL.length d3) (b := .slice q4 YH.length d4) (by simp)
  go_wp2_with fail
  refine (v7 YL YH rfl rfl (H5.out.pt (p := p3) (l := YL) (by simp)) (H5.out.pt (p := p4) (l := YH) (by simp)) (H5.out.pt (p := q3) (l := YL) (by simp)) (H5.out.pt (p := q4) (l := YH) (by simp)) (by have := HY.out.1; omega) (by have := HY.out.2; omega)).mono ?_
  rintro e w7 ⟨rfl, hb⟩
  have H6 := hid (H5.out.step hb); clear hb H5 x y
  go_wp2_with fail
  refine (HL.out _).mono ?_
  rintro e w8 ⟨rfl, hb⟩
  have H7 := hid (H6.out.step hb); clear hb
  go_wp2_with fail
  go_ret
  exact ⟨rfl, H7.out.below⟩
theorem PartHalves_walk (v : Value) (a : Int) (u : Value) (w : World) (h : BoxV w v) (_ : (Lit.int .i64 a).wf = true) (hu : RecsV w u) :
    Calls Try.prog 9 #[v, .int .i64 a, u] w fun e w' => e = .returned (.bool true) ∧ Below w.heap.size w w' := by
  obtain ⟨_, _, rfl, ⟨p, lo, c, rfl, hp, _⟩, ⟨q, hi, c', rfl, hq, _⟩⟩ := h
  obtain ⟨s, L, c'', rfl, hs, hc, hc2⟩ := hu
  by_cases h : lo.length ≤ 20 ∧ hi.length ≤ 20 ∧ fewB L = true
  · exact hlv_go lo hi L p q s c c' c'' a w hp hq hs h.1 h.2.1 h.2.2
  · exact hlv_no lo hi L p q s c c' c'' a w hs (by omega) h
end Go.Proofs.Ytkjcbfdplhcjpaa
