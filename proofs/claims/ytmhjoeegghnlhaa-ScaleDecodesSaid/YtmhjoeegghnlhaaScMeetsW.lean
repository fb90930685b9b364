/- ScaleMeets walked. -/
import Derived.Test.YtmhjoeegghnlhaaScGro
import Derived.Test.YtmhjoeegghnlhaaScPl2
import Derived.Test.YtmhjoeegghnlhaaKyRMeet
namespace Go.Proofs.Ytmhjoeegghnlhaa
open Go.RowKit
open Go.Lib (hid)
open Go.ChangeShapes Go.WideShapes Go.Joins
open Go.Proofs.Ytmhjoeegghnlhaa.Ky Go.Proofs.Ytmhjoeegghnlhaa.Bk Go.Proofs.Ytmhjoeegghnlhaa.Sc

set_option maxRecDepth 100000 in
theorem ScaleMeets_open1 {H : Type} {enc : TypeId × Value → H} {W : World} {base : Nat} {v : Value} {d : DataW H} {p : List MemPlace} (hv : Value.okWide Try.prog W .any base 22 v) (h : DataW.Trod enc Try.prog W 0 (fun _ => true) true 22 v d p) : ∃ a len cap, v = .slice a len cap ∧ IsOps W a len := open_Ops hv h
set_option maxRecDepth 100000 in
theorem ScaleMeets_open2 {H : Type} {enc : TypeId × Value → H} {W : World} {base : Nat} {v : Value} {d : DataW H} {p : List MemPlace} (hv : Value.okWide Try.prog W .any base 34 v) (h : DataW.Trod enc Try.prog W 0 (fun _ => true) true 34 v d p) : BoxV W v := open_boxv hv h
/-- a box in memory, its points too -/
structure BoxAt (V : World) (g : Nat) (p : Option Addr) (lo : List Nat) (c : Nat) (q : Option Addr) (hi : List Nat) (c' : Nat) : Prop where
  row : V.heap[g]? = some (.cells #[.slice p lo.length c, .slice q hi.length c'] 34 (0, 0))
  lo : Pt V p lo
  hi : Pt V q hi
theorem BoxAt.next {V V' : World} {g : Nat} {p q : Option Addr} {lo hi : List Nat} {c c' : Nat} (h : BoxAt V g p lo c q hi c') (hb : Below V.heap.size V V') : BoxAt V' g p lo c q hi c' :=
  ⟨(hb.block _ (lt_of h.row)).trans h.row, h.lo.below hb, h.hi.below hb⟩
theorem BoxAt.c0 {V : World} {g : Nat} {p q : Option Addr} {lo hi : List Nat} {c c' : Nat} (h : BoxAt V g p lo c q hi c') : V.cell? ⟨g, 0, none⟩ = some (.slice p lo.length c) := by rw [cell_of_row _ _ _ _ _ _ h.row]; rfl
theorem BoxAt.c1 {V : World} {g : Nat} {p q : Option Addr} {lo hi : List Nat} {c c' : Nat} (h : BoxAt V g p lo c q hi c') : V.cell? ⟨g, 1, none⟩ = some (.slice q hi.length c') := by rw [cell_of_row _ _ _ _ _ _ h.row]; rfl
theorem boxAt_new {V : World} {p q : Option Addr} {lo hi : List Nat} (c c' : Nat) (h1 : Pt V p lo) (h2 : Pt V q hi) : BoxAt (V.alloc (.cells #[.slice p lo.length c, .slice q hi.length c'] 34)) V.heap.size p lo c q hi c' :=
  ⟨heap_alloc_new _ _, h1.below (below_alloc _ _), h2.below (below_alloc _ _)⟩
set_option maxRecDepth 100000 in
set_option maxHeartbeats 8000000 in
theorem ScaleMeets_walk (d : Int) (v1 v2 : Value) (w : World) (_ : (Lit.int .i64 d).wf = true) (h1 : ∃ a len cap, v1 = .slice a len cap ∧ IsOps w a len) (h2 : BoxV w v2) :
    Calls Try.prog 8 #[.int .i64 d, v1, v2] w fun e w' => e = .returned (.bool true) ∧ Below w.heap.size w w' := by
  obtain ⟨a, n, cap, rfl, hs⟩ := h1
  obtain ⟨x1, y1, rfl, ⟨p, lo, c, rfl, hp, hll⟩, q, hi, c', rfl, hq, hhl⟩ := h2
  obtain ⟨V, hV⟩ : ∃ V, w.alloc (.cells #[Value.slice p lo.length c, .slice q hi.length c'] 34) = V := ⟨_, rfl⟩
  have HB := hid (show Below w.heap.size w V by rw [← hV]; exact below_alloc _ _)
  have HX := hid (show BoxAt V w.heap.size p lo c q hi c' by rw [← hV]; exact boxAt_new c c' hp hq)
  have HS := hid (hs.below HB.out)
  have HCB := hid (refCheckBox_ok lo hi p q c c' d V HX.out.lo HX.out.hi hll)
  clear hs hp hq
  have y0 := HX.out.c0
  have y1 := HX.out.c1
  cases hb : boxB lo hi d with
  | false =>
    rw [hb, err_false false rfl] at HCB
    clear hb
    go_enter Try.func8, Try.ntmps8
    go_wp2_with fail
    refine HCB.out.mono ?_
    rintro e w1 ⟨rfl, hb⟩
    have H1 := hid (HB.out.trans (hb.mono HB.out.size)); clear hb
    go_wp2_with fail
    refine (live_any _).mono ?_
    rintro e w2 ⟨rfl, hb⟩
    have H2 := hid (H1.out.trans (hb.mono H1.out.size)); clear hb
    go_wp2_with fail
    go_ret
    exact ⟨rfl, H2.out⟩
  | true =>
    rw [hb, err_true true rfl] at HCB
    have hbb := hb
    unfold boxB checkB mayB at hbb
    simp only [Bool.and_eq_true, decide_eq_true_eq] at hbb
    obtain ⟨⟨hd1, hd2⟩, hle⟩ := hbb
    obtain ⟨D, rfl⟩ : ∃ D : Nat, d = (D : Int) := ⟨d.toNat, by omega⟩
    have hD : lo.length = D := by omega
    have hD' : hi.length = D := by rw [← leAll_len hle]; exact hD
    have HLE := hid hle
    have HLO := hid (pt_mem HX.out.lo)
    have HHI := hid (pt_mem HX.out.hi)
    have HDD := hid (show 1 ≤ D ∧ D ≤ 6 by omega)
    have HLL := hid (And.intro hD hD')
    have HBB := hid hb
    clear hb hd1 hd2 hle hll hhl hD hD'
    go_enter Try.func8, Try.ntmps8
    go_wp2_with fail
    refine HCB.out.mono ?_
    rintro e w1 ⟨rfl, hb⟩
    have H1 := hid (HB.out.trans (hb.mono HB.out.size))
    have HX1 := hid (HX.out.next hb)
    have HS1 := hid (HS.out.below hb)
    clear hb hV HB HX HS HCB y0 y1
    go_wp2_with fail
    refine (grown_yes D a n cap w1 HDD.out HS1.out).mono ?_
    rintro e w2 ⟨rfl, vs, bs, hsc, hu, hl, hb⟩
    subst hl
    have HSC := hid hsc
    have HU := hid hu
    have HX2 := hid (HX1.out.next hb)
    have H2 := hid (H1.out.trans (hb.mono H1.out.size))
    clear hsc hu hb HS1 H1 HX1
    generalize w1.heap.size + 1 = b at *
    generalize w1.heap.size = R at *
    have y0 := HX2.out.c0
    have y1 := HX2.out.c1
    go_wp2_with fail
    refine (meet_yes _ b R vs bs lo hi p q c c' w2 HSC.out HU.out HX2.out.lo HX2.out.hi HBB.out).mono ?_
    rintro e w3 ⟨g1, g2, rfl, hg1, hg2, hb⟩
    have HI1 := hid (is_ci hg1 (cellL_le HU.out HLL.out.1))
    have HI2 := hid (is_ci hg2 (cellL_le HU.out HLL.out.2))
    have HSC3 := hid (HSC.out.next hb)
    have HX3 := hid (HX2.out.next hb)
    have H3 := hid (H2.out.trans (hb.mono H2.out.size))
    have hc1 := cellL_len HLL.out.1
    have hc2 := cellL_len HLL.out.2
    rw [hc1, hc2]
    clear hg1 hg2 hb HSC HX2 H2 y0 y1
    have HZ1 := hid (show (zs (cellL bs lo)).length = bs.length by rw [zs_len, hc1])
    have HZ2 := hid (show (zs (cellL bs hi)).length = bs.length by rw [zs_len, hc2])
    clear hc1 hc2
    have HR := hid (And.intro (rise_of HU.out HLL.out.1 HLL.out.2 HLE.out) (And.intro (rise_of HU.out HLL.out.1 HLL.out.1 (leAll_refl _)) (rise_of HU.out HLL.out.2 HLL.out.2 (leAll_refl _))))
    have HMT := hid (meet_of HDD.out HLL.out.1 HLE.out (low_of HU.out HLL.out.1) (high_of HU.out HLL.out.2 HHI.out))
    have HIN := hid (And.intro (in_of HU.out HLL.out.1 HLO.out) (in_of HU.out HLL.out.2 HHI.out))
    have HLN := hid fun (x : List Int) => And.intro (lowL_len bs x) (highL_len bs x)
    generalize zs (cellL bs lo) = C1 at *
    generalize zs (cellL bs hi) = C2 at *
    go_wp2_with fail
    refine (box_yes _ b R vs bs C1 C2 _ _ bs.length bs.length bs.length w3 HSC3.out HU.out HI1.out HI2.out HZ1.out HZ2.out rfl HR.out.1).mono ?_
    intro e w4 hh
    obtain ⟨A, cA, A', cA', rfl, hp, hq, hb⟩ := hh.box
    have HSC4 := hid (HSC3.out.next hb)
    have HX4 := hid (HX3.out.next hb)
    have HI3 := hid (And.intro (HI1.out.below hb) (HI2.out.below hb))
    have H4 := hid (H3.out.trans (hb.mono H3.out.size))
    clear hh hb HSC3 HX3 HI1 HI2 H3
    obtain ⟨V4, hV4⟩ : ∃ V4, w4.alloc (.cells #[.slice A (lowL bs C1).length cA, .slice A' (highL bs C2).length cA'] 34) = V4 := ⟨_, rfl⟩
    have HN4 := hid (show Below w4.heap.size w4 V4 by rw [← hV4]; exact below_alloc _ _)
    have HY4 := hid (show BoxAt V4 w4.heap.size A (lowL bs C1) cA A' (highL bs C2) cA' by rw [← hV4]; exact boxAt_new cA cA' hp hq)
    have HSC5 := hid (HSC4.out.next HN4.out)
    have HX5 := hid (HX4.out.next HN4.out)
    have HI5 := hid (And.intro (HI3.out.1.below HN4.out) (HI3.out.2.below HN4.out))
    have H5 := hid (H4.out.trans (HN4.out.mono H4.out.size))
    clear hp hq HN4 HSC4 HX4 HI3 H4
    have y0 := HX5.out.c0
    have y1 := HX5.out.c1
    have x0 := HY4.out.c0
    have x1 := HY4.out.c1
    go_wp2_with fail
    clear hV4
    have HM := hid (refMeet_ok (lowL bs C1) (highL bs C2) lo hi A A' p q cA cA' c c' V4 HY4.out.lo HY4.out.hi HX5.out.lo HX5.out.hi (by rw [(HLN.out C1).1]; have := HDD.out; omega))
    rw [HMT.out.1, HMT.out.2.1, HMT.out.2.2] at HM
    refine HM.out.mono ?_
    rintro e w6 ⟨P, cP, P', cP', rfl, hp, hq, hb⟩
    obtain ⟨V6, hV6⟩ : ∃ V6, w6.alloc (.cells #[.slice P lo.length cP, .slice P' hi.length cP'] 34) = V6 := ⟨_, rfl⟩
    have HN6 := hid (hb.trans (show Below V4.heap.size w6 V6 by rw [← hV6]; exact (below_alloc _ _).mono hb.size))
    have HY6 := hid (show BoxAt V6 w6.heap.size P lo cP P' hi cP' by rw [← hV6]; exact boxAt_new cP cP' hp hq)
    have HSC6 := hid (HSC5.out.next HN6.out)
    have HX6 := hid (HX5.out.next HN6.out)
    have HI6 := hid (And.intro (HI5.out.1.below HN6.out) (HI5.out.2.below HN6.out))
    have H6 := hid (H5.out.trans (HN6.out.mono H5.out.size))
    clear hp hq hb HN6 HSC5 HX5 HI5 H5 HM HY4 x0 x1 y0 y1
    go_wp2_with fail
    clear hV6
    refine (box_yes _ b R vs bs C1 C1 _ _ bs.length bs.length bs.length V6 HSC6.out HU.out HI6.out.1 HI6.out.1 HZ1.out HZ1.out rfl HR.out.2.1).mono ?_
    intro e w7 hh
    obtain ⟨B, cB, B', cB', rfl, hp, hq, hb⟩ := hh.box
    obtain ⟨V7, hV7⟩ : ∃ V7, w7.alloc (.cells #[.slice B (lowL bs C1).length cB, .slice B' (highL bs C1).length cB'] 34) = V7 := ⟨_, rfl⟩
    have HN7 := hid (hb.trans (show Below V6.heap.size w7 V7 by rw [← hV7]; exact (below_alloc _ _).mono hb.size))
    have HY7 := hid (show BoxAt V7 w7.heap.size B (lowL bs C1) cB B' (highL bs C1) cB' by rw [← hV7]; exact boxAt_new cB cB' hp hq)
    have HSC7 := hid (HSC6.out.next HN7.out)
    have HX7 := hid (HX6.out.next HN7.out)
    have HM7 := hid (HY6.out.next HN7.out)
    have HI7 := hid (HI6.out.2.below HN7.out)
    have H7 := hid (H6.out.trans (HN7.out.mono H6.out.size))
    clear hh hp hq hb HN7 HSC6 HX6 HI6 H6 HY6
    go_wp2_with fail
    clear hV7
    refine (box_yes _ b R vs bs C2 C2 _ _ bs.length bs.length bs.length V7 HSC7.out HU.out HI7.out HI7.out HZ2.out HZ2.out rfl HR.out.2.2).mono ?_
    intro e w8 hh
    obtain ⟨E, cE, E', cE', rfl, hp, hq, hb⟩ := hh.box
    obtain ⟨V8, hV8⟩ : ∃ V8, w8.alloc (.cells #[.slice E (lowL bs C2).length cE, .slice E' (highL bs C2).length cE'] 34) = V8 := ⟨_, rfl⟩
    have HN8 := hid (hb.trans (show Below V7.heap.size w8 V8 by rw [← hV8]; exact (below_alloc _ _).mono hb.size))
    have HE8 := hid (show BoxAt V8 w8.heap.size E (lowL bs C2) cE E' (highL bs C2) cE' by rw [← hV8]; exact boxAt_new cE cE' hp hq)
    have HX8 := hid (HX7.out.next HN8.out)
    have HM8 := hid (HM7.out.next HN8.out)
    have HY8 := hid (HY7.out.next HN8.out)
    have H8 := hid (H7.out.trans (HN8.out.mono H7.out.size))
    clear hh hp hq hb HN8 HSC7 HX7 HI7 H7 HM7 HY7
    have y0 := HX8.out.c0
    have y1 := HX8.out.c1
    have m0 := HM8.out.c0
    have m1 := HM8.out.c1
    go_wp2_with fail
    clear hV8
    have HSB := hid (sameBox_ok lo hi lo hi P P' p q cP cP' c c' V8 HM8.out.lo HM8.out.hi HX8.out.lo HX8.out.hi (by rw [HLL.out.1]; have := HDD.out; omega) (by rw [HLL.out.2]; have := HDD.out; omega))
    rw [show sameBoxB lo hi lo hi = true by simp [sameBoxB, sameB]] at HSB
    refine HSB.out.mono ?_
    rintro e w9 ⟨rfl, hb⟩
    have HX9 := hid (HX8.out.next hb)
    have HY9 := hid (HY8.out.next hb)
    have HE9 := hid (HE8.out.next hb)
    have H9 := hid (H8.out.trans (hb.mono H8.out.size))
    clear hb HSB HX8 HY8 HE8 H8 HM8 y0 y1 m0 m1
    have y0 := HX9.out.c0
    have y1 := HX9.out.c1
    have z0 := HY9.out.c0
    have z1 := HY9.out.c1
    go_wp2_with fail
    have HN1 := hid (refIn_ok lo (lowL bs C1) (highL bs C1) p B B' c cB cB' w9 HX9.out.lo HY9.out.lo HY9.out.hi (by rw [HLL.out.1]; have := HDD.out; omega))
    rw [HIN.out.1] at HN1
    refine HN1.out.mono ?_
    rintro e w10 ⟨rfl, hb⟩
    have HX10 := hid (HX9.out.next hb)
    have HE10 := hid (HE9.out.next hb)
    have H10 := hid (H9.out.trans (hb.mono H9.out.size))
    clear hb HN1 HX9 HY9 HE9 H9 y0 y1 z0 z1
    have y0 := HX10.out.c0
    have y1 := HX10.out.c1
    have z0 := HE10.out.c0
    have z1 := HE10.out.c1
    go_wp2_with fail
    have HN2 := hid (refIn_ok hi (lowL bs C2) (highL bs C2) q E E' c' cE cE' w10 HX10.out.hi HE10.out.lo HE10.out.hi (by rw [HLL.out.2]; have := HDD.out; omega))
    rw [HIN.out.2] at HN2
    refine HN2.out.mono ?_
    rintro e w11 ⟨rfl, hb⟩
    have H11 := hid (H10.out.trans (hb.mono H10.out.size))
    clear hb HN2 HX10 HE10 H10 y0 y1 z0 z1
    go_wp2_with fail
    refine (live_any _).mono ?_
    rintro e w12 ⟨rfl, hb⟩
    have H12 := hid (H11.out.trans (hb.mono H11.out.size)); clear hb
    go_wp2_with fail
    go_ret
    exact ⟨rfl, H12.out⟩
end Go.Proofs.Ytmhjoeegghnlhaa
