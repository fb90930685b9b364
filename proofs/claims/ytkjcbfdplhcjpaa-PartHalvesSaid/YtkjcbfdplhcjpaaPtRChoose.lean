/- Choose of the reference. -/
import Derived.Test.YtkjcbfdplhcjpaaPtHalf4
import Derived.Test.YtkjcbfdplhcjpaaPtChoose2
import Derived.Test.YtkjcbfdplhcjpaaKyMeet
namespace Go.Proofs.Ytkjcbfdplhcjpaa.Pt
open Go.RowKit
open Go.Lib (hid)
open Go.Proofs.Ytkjcbfdplhcjpaa.Ky
open Go.Proofs.Ytkjcbfdplhcjpaa.Bk

set_option maxRecDepth 100000 in
set_option maxHeartbeats 2000000 in
theorem refAny_ok {D : Nat → Prop} (L : List Rec) (lo hi : List Nat) (s p r : Option Addr) (c c' c'' : Nat) (w : World) (hs : Rs D w s L) (hp : Pt w p lo) (hr : Pt w r hi) (hl : bigR L) :
    Calls Try.prog 88 #[.slice s L.length c, .agg #[.slice p lo.length c', .slice r hi.length c'']] w fun e w' => e = .returned (.bool (anyIn L lo hi)) ∧ Below w.heap.size w w' := by
  obtain ⟨V, hV⟩ : ∃ V, w.alloc (.cells #[Value.slice p lo.length c', .slice r hi.length c''] 35) = V := ⟨_, rfl⟩
  have hb : Below w.heap.size w V := by rw [← hV]; exact below_alloc _ _
  have hv := two_cells (show V.heap[w.heap.size]? = some (.cells #[Value.slice p lo.length c', .slice r hi.length c''] 35) by rw [← hV]; exact heap_alloc_new _ _)
  have hvs : w.heap.size < V.heap.size := by rw [← hV]; simp
  have HB0 := hid hb; have HS := hid (hs.below hb); have HP := hid (hp.below hb); have HR := hid (hr.below hb); have HL := hid hl; have hlen := hl.1
  have HX := hid fun (U : World) (hu : Below V.heap.size V U) => (show U.cell? ⟨w.heap.size, 0, none⟩ = some (.slice p lo.length c') ∧ U.cell? ⟨w.heap.size, 1, none⟩ = some (.slice r hi.length c'') from ⟨(hu.cell (p := ⟨_, 0, none⟩) hvs).trans hv.1, (hu.cell (p := ⟨_, 1, none⟩) hvs).trans hv.2.1⟩)
  clear hs hp hr hl hb hv hvs
  go_enter Try.func88, Try.ntmps88
  go_wp2_with fail
  clear hV
  go_loopw [5] (fun i wr => ∃ k : Nat, k ≤ L.length ∧ i = .int .i64 k ∧ anyIn (L.take k) lo hi = false ∧ Below V.heap.size V wr) (fun i _ => L.length - (intOf i).toNat)
  case atStart => exact ⟨0, by omega, rfl, rfl, Below.refl _ _⟩
  case round =>
    obtain ⟨k, hk, rfl, ha, hb⟩ := hrel
    have HA := hid ha; have HB := hid hb; clear ha hb
    by_cases hlt : k < L.length
    · obtain ⟨b, off, q, c1, rfl, hbl, d1, d2, hq⟩ := (HS.out.below HB.out).at k hlt
      have hbg := HL.out.2 _ (List.getElem_mem hlt)
      have HC := hid fun (U : World) (hu : Below wr.heap.size wr U) => refIn_ok L[k].1 lo hi q p r c1 c' c'' U (hq.pt.below hu) (HP.out.below (HB.out.trans (hu.mono HB.out.size))) (HR.out.below (HB.out.trans (hu.mono HB.out.size))) (by omega)
      have HN := hid (any_snoc L lo hi k hlt)
      have HD := hid fun (U : World) (hu : Below wr.heap.size wr U) => (show U.cell? ⟨b, off + k * 2, none⟩ = some (.slice q L[k].1.length c1) ∧ (U.cell? ⟨w.heap.size, 0, none⟩ = some (.slice p lo.length c') ∧ U.cell? ⟨w.heap.size, 1, none⟩ = some (.slice r hi.length c'')) from ⟨(hu.cell (p := ⟨b, _, none⟩) hbl).trans d1, HX.out _ (HB.out.trans (hu.mono HB.out.size))⟩)
      have H0 := hid (Below.refl wr.heap.size wr).drew
      have y0 := HD.out _ H0.out
      cases hin : inB L[k].1 lo hi with
      | true =>
        have HR2 : Hid (anyIn L lo hi = true) := hid (by unfold anyIn; exact List.any_eq_true.2 ⟨_, List.getElem_mem hlt, hin⟩)
        rw [hin] at HC
        clear hin HN hbg hq d1 d2
        generalize L[k].1.length = x at HC HD y0
        go_wp2_with fail
        go_region_held3 (fun w' => w'.cell? ⟨b, off + k * 2, none⟩ = some (.slice q x c1) ∧ (w'.cell? ⟨w.heap.size, 0, none⟩ = some (.slice p lo.length c') ∧ w'.cell? ⟨w.heap.size, 1, none⟩ = some (.slice r hi.length c''))) (first | exact y0 | exact y1 | go_keep)
          (first
            | (go_at_call 37; (with_reducible refine (HC.out _ H0.out).mono ?_); rintro e w2 ⟨rfl, hb⟩; have H1 := hid (H0.out.trans (hb.mono H0.out.size)); have y1 := HD.out _ H1.out; clear hb)
            | fail)
        have HB2 := hid (HB0.out.trans ((HB.out.trans (H1.out.mono HB.out.size)).mono HB0.out.size))
        clear y0 y1
        go_wp2_with fail
        go_ret
        rw [HR2.out]
        exact ⟨rfl, HB2.out⟩
      | false =>
        have HN2 : Hid (anyIn (L.take (k + 1)) lo hi = false) := hid (by rw [HN.out, HA.out, hin]; rfl)
        rw [hin] at HC
        clear hin HN hbg hq d1 d2
        generalize L[k].1.length = x at HC HD y0
        go_wp2_with fail
        go_region_held3 (fun w' => w'.cell? ⟨b, off + k * 2, none⟩ = some (.slice q x c1) ∧ (w'.cell? ⟨w.heap.size, 0, none⟩ = some (.slice p lo.length c') ∧ w'.cell? ⟨w.heap.size, 1, none⟩ = some (.slice r hi.length c''))) (first | exact y0 | exact y1 | go_keep)
          (first
            | (go_at_call 37; (with_reducible refine (HC.out _ H0.out).mono ?_); rintro e w2 ⟨rfl, hb⟩; have H1 := hid (H0.out.trans (hb.mono H0.out.size)); have y1 := HD.out _ H1.out; clear hb)
            | fail)
        have HB2 := hid (HB.out.trans (H1.out.mono HB.out.size))
        clear y0 y1
        go_wp2_with fail
        go_roundw
        case rel => exact ⟨k + 1, by omega, by go_num, HN2.out, HB2.out⟩
        case measure => simp [intOf]; omega
    · obtain rfl : k = L.length := by omega
      have HR2 : Hid (anyIn L lo hi = false) := hid (by have := HA.out; rw [List.take_length] at this; exact this)
      have HB2 := hid (HB0.out.trans (HB.out.mono HB0.out.size))
      go_wp2_with fail
      go_ret
      rw [HR2.out]
      exact ⟨rfl, HB2.out⟩
theorem bf {f : Bool} (h : f = true → False) : f = false := by
  cases f with
  | false => rfl
  | true => exact (h rfl).elim
/-- how far one halving's boxes are -/
structure LL (W : World) (XL XH YL YH : List Nat) (bb : Bool) (f6 f7 f8 f9 f10 f11 f12 f13 f14 f15 : Bool) (u45 u38 u46 u47 u48 u10 u11 u12 : Value) (p1 : Option Addr) (c1 : Nat) (p2 : Option Addr) (c2 : Nat) (p3 : Option Addr) (c3 : Nat) (p4 : Option Addr) (c4 : Nat) (g10 g11 : Nat) (v : World) : Prop where
  below : Below W.heap.size W v
  k6 : f6 = true → u45 = .tuple #[.agg #[.slice p1 XL.length c1, .slice p2 XH.length c2], .agg #[.slice p3 YL.length c3, .slice p4 YH.length c4], .bool bb] ∧ Pt v p1 XL ∧ Pt v p2 XH ∧ Pt v p3 YL ∧ Pt v p4 YH
  k7 : f7 = true → f6 = true ∧ u38 = .tuple #[.agg #[.slice p1 XL.length c1, .slice p2 XH.length c2], .agg #[.slice p3 YL.length c3, .slice p4 YH.length c4], .bool bb]
  k8 : f8 = true → f7 = true ∧ u46 = .agg #[.slice p1 XL.length c1, .slice p2 XH.length c2]
  k9 : f9 = true → f7 = true ∧ u47 = .agg #[.slice p3 YL.length c3, .slice p4 YH.length c4]
  k10 : f10 = true → f7 = true ∧ u48 = .bool bb
  k11 : f11 = true → u10 = .pointer (some ⟨g10, 0, none⟩) ∧ v.heap[g10]? = some (.cells (if f13 then #[.slice p1 XL.length c1, .slice p2 XH.length c2] else #[Value.slice none 0 0, .slice none 0 0]) 35)
  k12 : f12 = true → u11 = .pointer (some ⟨g11, 0, none⟩) ∧ v.heap[g11]? = some (.cells (if f14 then #[.slice p3 YL.length c3, .slice p4 YH.length c4] else #[Value.slice none 0 0, .slice none 0 0]) 35)
  kne : f11 = true → f12 = true → g10 ≠ g11
  kge : (f11 = true → W.heap.size ≤ g10) ∧ (f12 = true → W.heap.size ≤ g11)
  k13 : f13 = true → f6 = true ∧ f8 = true ∧ f11 = true ∧ f12 = true
  k14 : f14 = true → f13 = true ∧ f9 = true
  k15 : f15 = true → u12 = .bool bb
/-- both boxes are there -/
def TwoP (W : World) (XL XH YL YH : List Nat) (bb : Bool) (s10 s11 s12 : Value) (V : World) : Prop :=
  ∃ g10 g11 p1 c1 p2 c2 p3 c3 p4 c4, s10 = .pointer (some ⟨g10, 0, none⟩) ∧ s11 = .pointer (some ⟨g11, 0, none⟩) ∧ s12 = .bool bb ∧ V.heap[g10]? = some (.cells #[.slice p1 XL.length c1, .slice p2 XH.length c2] 35) ∧ V.heap[g11]? = some (.cells #[.slice p3 YL.length c3, .slice p4 YH.length c4] 35) ∧ (Pt V p1 XL ∧ Pt V p2 XH ∧ Pt V p3 YL ∧ Pt V p4 YH) ∧ Below W.heap.size W V
section
variable {W : World} {XL XH YL YH : List Nat} {bb f6 f7 f8 f9 f10 f11 f12 f13 f14 f15 : Bool} {u45 u38 u46 u47 u48 u10 u11 u12 : Value} {p1 p2 p3 p4 : Option Addr} {c1 c2 c3 c4 g10 g11 : Nat} {v w' : World}
theorem LL.off (h : LL W XL XH YL YH bb f6 f7 f8 f9 f10 f11 f12 f13 f14 f15 u45 u38 u46 u47 u48 u10 u11 u12 p1 c1 p2 c2 p3 c3 p4 c4 g10 g11 v) : (f6 = false → f7 = false ∧ f13 = false ∧ f14 = false) ∧ (f7 = false → f8 = false ∧ f9 = false ∧ f10 = false) ∧ (f8 = false → f13 = false ∧ f14 = false) ∧ (f11 = false → f13 = false ∧ f14 = false) ∧ (f12 = false → f13 = false ∧ f14 = false) ∧ (f13 = false → f14 = false) := by
  refine ⟨fun e6 => ⟨bf fun e => ?_, bf fun e => ?_, bf fun e => ?_⟩, fun e7 => ⟨bf fun e => ?_, bf fun e => ?_, bf fun e => ?_⟩, fun e8 => ⟨bf fun e => ?_, bf fun e => ?_⟩, fun e11 => ⟨bf fun e => ?_, bf fun e => ?_⟩, fun e12 => ⟨bf fun e => ?_, bf fun e => ?_⟩, fun e13 => bf fun e => ?_⟩
  · have := (h.k7 e).1; rw [e6] at this; cases this
  · have := (h.k13 e).1; rw [e6] at this; cases this
  · have := (h.k13 (h.k14 e).1).1; rw [e6] at this; cases this
  · have := (h.k8 e).1; rw [e7] at this; cases this
  · have := (h.k9 e).1; rw [e7] at this; cases this
  · have := (h.k10 e).1; rw [e7] at this; cases this
  · have := (h.k13 e).2.1; rw [e8] at this; cases this
  · have := (h.k13 (h.k14 e).1).2.1; rw [e8] at this; cases this
  · have := (h.k13 e).2.2.1; rw [e11] at this; cases this
  · have := (h.k13 (h.k14 e).1).2.2.1; rw [e11] at this; cases this
  · have := (h.k13 e).2.2.2; rw [e12] at this; cases this
  · have := (h.k13 (h.k14 e).1).2.2.2; rw [e12] at this; cases this
  · have := (h.k14 e).1; rw [e13] at this; cases this
theorem LL.call (h : LL W XL XH YL YH bb false f7 f8 f9 f10 f11 f12 f13 f14 f15 u45 u38 u46 u47 u48 u10 u11 u12 p1 c1 p2 c2 p3 c3 p4 c4 g10 g11 v) {q1 q2 q3 q4 : Option Addr} {d1 d2 d3 d4 : Nat} (h1 : Pt w' q1 XL) (h2 : Pt w' q2 XH) (h3 : Pt w' q3 YL) (h4 : Pt w' q4 YH) (hb : Below v.heap.size v w') :
    LL W XL XH YL YH bb true f7 f8 f9 f10 f11 f12 f13 f14 f15 (.tuple #[.agg #[.slice q1 XL.length d1, .slice q2 XH.length d2], .agg #[.slice q3 YL.length d3, .slice q4 YH.length d4], .bool bb]) u38 u46 u47 u48 u10 u11 u12 q1 d1 q2 d2 q3 d3 q4 d4 g10 g11 w' := by
  obtain ⟨o6, o7, _⟩ := h.off
  obtain ⟨rfl, rfl, rfl⟩ := o6 rfl
  obtain ⟨rfl, rfl, rfl⟩ := o7 rfl
  refine ⟨h.below.trans (hb.mono h.below.size), fun _ => ⟨rfl, h1, h2, h3, h4⟩, nofun, nofun, nofun, nofun, fun e => ?_, fun e => ?_, h.kne, h.kge, nofun, nofun, h.k15⟩
  · obtain ⟨x1, x2⟩ := h.k11 e
    exact ⟨x1, (hb.block _ (heap_lt x2)).trans x2⟩
  · obtain ⟨x1, x2⟩ := h.k12 e
    exact ⟨x1, (hb.block _ (heap_lt x2)).trans x2⟩
theorem LL.mv (h : LL W XL XH YL YH bb true false f8 f9 f10 f11 f12 f13 f14 f15 u45 u38 u46 u47 u48 u10 u11 u12 p1 c1 p2 c2 p3 c3 p4 c4 g10 g11 v) : LL W XL XH YL YH bb true true f8 f9 f10 f11 f12 f13 f14 f15 u45 u45 u46 u47 u48 u10 u11 u12 p1 c1 p2 c2 p3 c3 p4 c4 g10 g11 v := by
  obtain ⟨_, o7, _⟩ := h.off
  obtain ⟨rfl, rfl, rfl⟩ := o7 rfl
  exact ⟨h.below, h.k6, fun _ => ⟨rfl, (h.k6 rfl).1⟩, nofun, nofun, nofun, h.k11, h.k12, h.kne, h.kge, fun e => absurd (h.k13 e).2.1 (by simp), h.k14, h.k15⟩
theorem LL.ex8 (h : LL W XL XH YL YH bb f6 true false f9 f10 f11 f12 f13 f14 f15 u45 u38 u46 u47 u48 u10 u11 u12 p1 c1 p2 c2 p3 c3 p4 c4 g10 g11 v) : LL W XL XH YL YH bb f6 true true f9 f10 f11 f12 f13 f14 f15 u45 u38 (.agg #[.slice p1 XL.length c1, .slice p2 XH.length c2]) u47 u48 u10 u11 u12 p1 c1 p2 c2 p3 c3 p4 c4 g10 g11 v :=
  ⟨h.below, h.k6, h.k7, fun _ => ⟨rfl, rfl⟩, h.k9, h.k10, h.k11, h.k12, h.kne, h.kge, fun e => absurd (h.k13 e).2.1 (by simp), h.k14, h.k15⟩
theorem LL.ex9 (h : LL W XL XH YL YH bb f6 true f8 false f10 f11 f12 f13 f14 f15 u45 u38 u46 u47 u48 u10 u11 u12 p1 c1 p2 c2 p3 c3 p4 c4 g10 g11 v) : LL W XL XH YL YH bb f6 true f8 true f10 f11 f12 f13 f14 f15 u45 u38 u46 (.agg #[.slice p3 YL.length c3, .slice p4 YH.length c4]) u48 u10 u11 u12 p1 c1 p2 c2 p3 c3 p4 c4 g10 g11 v :=
  ⟨h.below, h.k6, h.k7, h.k8, fun _ => ⟨rfl, rfl⟩, h.k10, h.k11, h.k12, h.kne, h.kge, h.k13, fun e => ⟨(h.k14 e).1, rfl⟩, h.k15⟩
theorem LL.ex10 (h : LL W XL XH YL YH bb f6 true f8 f9 false f11 f12 f13 f14 f15 u45 u38 u46 u47 u48 u10 u11 u12 p1 c1 p2 c2 p3 c3 p4 c4 g10 g11 v) : LL W XL XH YL YH bb f6 true f8 f9 true f11 f12 f13 f14 f15 u45 u38 u46 u47 (.bool bb) u10 u11 u12 p1 c1 p2 c2 p3 c3 p4 c4 g10 g11 v :=
  ⟨h.below, h.k6, h.k7, h.k8, h.k9, fun _ => ⟨rfl, rfl⟩, h.k11, h.k12, h.kne, h.kge, h.k13, h.k14, h.k15⟩
theorem LL.as15 (h : LL W XL XH YL YH bb f6 f7 f8 f9 true f11 f12 f13 f14 false u45 u38 u46 u47 u48 u10 u11 u12 p1 c1 p2 c2 p3 c3 p4 c4 g10 g11 v) : LL W XL XH YL YH bb f6 f7 f8 f9 true f11 f12 f13 f14 true u45 u38 u46 u47 u48 u10 u11 u48 p1 c1 p2 c2 p3 c3 p4 c4 g10 g11 v :=
  ⟨h.below, h.k6, h.k7, h.k8, h.k9, h.k10, h.k11, h.k12, h.kne, h.kge, h.k13, h.k14, fun _ => (h.k10 rfl).2⟩
theorem LL.al11 (h : LL W XL XH YL YH bb f6 f7 f8 f9 f10 false f12 f13 f14 f15 u45 u38 u46 u47 u48 u10 u11 u12 p1 c1 p2 c2 p3 c3 p4 c4 g10 g11 v) : LL W XL XH YL YH bb f6 f7 f8 f9 f10 true f12 f13 f14 f15 u45 u38 u46 u47 u48 (.pointer (some ⟨v.heap.size, 0, none⟩)) u11 u12 p1 c1 p2 c2 p3 c3 p4 c4 v.heap.size g11 (v.alloc (.cells #[Value.slice none 0 0, .slice none 0 0] 35)) := by
  obtain ⟨_, _, _, o11, _⟩ := h.off
  obtain ⟨rfl, rfl⟩ := o11 rfl
  have hb := below_alloc v (.cells #[Value.slice none 0 0, .slice none 0 0] 35)
  refine ⟨h.below.trans (hb.mono h.below.size), fun e => ?_, h.k7, h.k8, h.k9, h.k10, fun _ => ⟨rfl, heap_alloc_new _ _⟩, fun e => ?_, fun _ e => ?_, ⟨fun _ => h.below.size, h.kge.2⟩, nofun, nofun, h.k15⟩
  · obtain ⟨x0, x1, x2, x3, x4⟩ := h.k6 e
    exact ⟨x0, x1.below hb, x2.below hb, x3.below hb, x4.below hb⟩
  · obtain ⟨x1, x2⟩ := h.k12 e
    exact ⟨x1, (hb.block _ (heap_lt x2)).trans x2⟩
  · have := heap_lt (h.k12 e).2; omega
theorem LL.al12 (h : LL W XL XH YL YH bb f6 f7 f8 f9 f10 f11 false f13 f14 f15 u45 u38 u46 u47 u48 u10 u11 u12 p1 c1 p2 c2 p3 c3 p4 c4 g10 g11 v) : LL W XL XH YL YH bb f6 f7 f8 f9 f10 f11 true f13 f14 f15 u45 u38 u46 u47 u48 u10 (.pointer (some ⟨v.heap.size, 0, none⟩)) u12 p1 c1 p2 c2 p3 c3 p4 c4 g10 v.heap.size (v.alloc (.cells #[Value.slice none 0 0, .slice none 0 0] 35)) := by
  obtain ⟨_, _, _, _, o12, _⟩ := h.off
  obtain ⟨rfl, rfl⟩ := o12 rfl
  have hb := below_alloc v (.cells #[Value.slice none 0 0, .slice none 0 0] 35)
  refine ⟨h.below.trans (hb.mono h.below.size), fun e => ?_, h.k7, h.k8, h.k9, h.k10, fun e => ?_, fun _ => ⟨rfl, heap_alloc_new _ _⟩, fun e _ => ?_, ⟨h.kge.1, fun _ => h.below.size⟩, nofun, nofun, h.k15⟩
  · obtain ⟨x0, x1, x2, x3, x4⟩ := h.k6 e
    exact ⟨x0, x1.below hb, x2.below hb, x3.below hb, x4.below hb⟩
  · obtain ⟨x1, x2⟩ := h.k11 e
    exact ⟨x1, (hb.block _ (heap_lt x2)).trans x2⟩
  · have := heap_lt (h.k11 e).2; omega
theorem pt_zero {A : Option Addr} {l : List Nat} (h : Pt v A l) {g : Nat} (hg : v.heap[g]? = some (.cells #[Value.slice none 0 0, .slice none 0 0] 35)) (a : Option Addr) (n c : Nat) (x : Value) : Pt ((v.setCell ⟨g, 0, none⟩ (.slice a n c)).setCell ⟨g, 1, none⟩ x) A l := by
  have b1 : (v.setCell ⟨g, 0, none⟩ (.slice a n c)).heap[g]? = some (.cells #[.slice a n c, .slice none 0 0] 35 (0, 0)) := by simp [World.setCell, Array.getElem?_modify, hg]
  exact (h.off hg (by simp) (by simp)).off b1 (by simp) (by simp)
theorem LL.st13 (h : LL W XL XH YL YH bb true f7 true f9 f10 true true false f14 f15 u45 u38 u46 u47 u48 u10 u11 u12 p1 c1 p2 c2 p3 c3 p4 c4 g10 g11 v) : LL W XL XH YL YH bb true f7 true f9 f10 true true true f14 f15 u45 u38 u46 u47 u48 u10 u11 u12 p1 c1 p2 c2 p3 c3 p4 c4 g10 g11 ((v.setCell ⟨g10, 0, none⟩ (.slice p1 XL.length c1)).setCell ⟨g10, 1, none⟩ (.slice p2 XH.length c2)) := by
  obtain ⟨_, _, _, _, _, o13⟩ := h.off
  obtain rfl := o13 rfl
  obtain ⟨x1, x2⟩ := h.k11 rfl
  obtain ⟨y1, y2⟩ := h.k12 rfl
  obtain ⟨z0, z1, z2, z3, z4⟩ := h.k6 rfl
  have x2' : v.heap[g10]? = some (.cells #[Value.slice none 0 0, .slice none 0 0] 35) := x2
  have hg := h.kge.1 rfl
  have hne := h.kne rfl rfl
  refine ⟨(h.below.setCell (p := ⟨g10, 0, none⟩) hg _).setCell (p := ⟨g10, 1, none⟩) hg _, fun _ => ⟨z0, pt_zero z1 x2' _ _ _ _, pt_zero z2 x2' _ _ _ _, pt_zero z3 x2' _ _ _ _, pt_zero z4 x2' _ _ _ _⟩, h.k7, h.k8, h.k9, h.k10, fun _ => ⟨x1, two_set x2' _ _⟩, fun _ => ⟨y1, ?_⟩, h.kne, h.kge, fun _ => ⟨rfl, rfl, rfl, rfl⟩, nofun, h.k15⟩
  rw [Below.heap_setCell _ ⟨g10, 1, none⟩ _ _ (fun e => hne e.symm), Below.heap_setCell _ ⟨g10, 0, none⟩ _ _ (fun e => hne e.symm)]; exact y2
theorem LL.st14 (h : LL W XL XH YL YH bb true f7 f8 true f10 f11 true true false f15 u45 u38 u46 u47 u48 u10 u11 u12 p1 c1 p2 c2 p3 c3 p4 c4 g10 g11 v) : LL W XL XH YL YH bb true f7 f8 true f10 f11 true true true f15 u45 u38 u46 u47 u48 u10 u11 u12 p1 c1 p2 c2 p3 c3 p4 c4 g10 g11 ((v.setCell ⟨g11, 0, none⟩ (.slice p3 YL.length c3)).setCell ⟨g11, 1, none⟩ (.slice p4 YH.length c4)) := by
  obtain ⟨_, h8, h11, _⟩ := h.k13 rfl
  subst h8
  subst h11
  obtain ⟨x1, x2⟩ := h.k12 rfl
  obtain ⟨y1, y2⟩ := h.k11 rfl
  obtain ⟨z0, z1, z2, z3, z4⟩ := h.k6 rfl
  have x2' : v.heap[g11]? = some (.cells #[Value.slice none 0 0, .slice none 0 0] 35) := x2
  have hg := h.kge.2 rfl
  have hne := h.kne rfl rfl
  refine ⟨(h.below.setCell (p := ⟨g11, 0, none⟩) hg _).setCell (p := ⟨g11, 1, none⟩) hg _, fun _ => ⟨z0, pt_zero z1 x2' _ _ _ _, pt_zero z2 x2' _ _ _ _, pt_zero z3 x2' _ _ _ _, pt_zero z4 x2' _ _ _ _⟩, h.k7, h.k8, h.k9, h.k10, fun _ => ⟨y1, ?_⟩, fun _ => ⟨x1, two_set x2' _ _⟩, h.kne, h.kge, h.k13, fun _ => ⟨rfl, rfl⟩, h.k15⟩
  rw [Below.heap_setCell _ ⟨g11, 1, none⟩ _ _ hne, Below.heap_setCell _ ⟨g11, 0, none⟩ _ _ hne]; exact y2
theorem LL.zero13 (h : LL W XL XH YL YH bb f6 f7 f8 f9 f10 true f12 false f14 f15 u45 u38 u46 u47 u48 u10 u11 u12 p1 c1 p2 c2 p3 c3 p4 c4 g10 g11 v) : v.cell? ⟨g10, 0, none⟩ = some (.slice none 0 0) ∧ v.cell? ⟨g10, 1, none⟩ = some (.slice none 0 0) ∧ v.frozen? ⟨g10, 0, none⟩ = false ∧ v.frozen? ⟨g10, 1, none⟩ = false :=
  two_cells (show v.heap[g10]? = some (.cells #[Value.slice none 0 0, .slice none 0 0] 35) from (h.k11 rfl).2)
theorem LL.zero14 (h : LL W XL XH YL YH bb f6 f7 f8 f9 f10 f11 true f13 false f15 u45 u38 u46 u47 u48 u10 u11 u12 p1 c1 p2 c2 p3 c3 p4 c4 g10 g11 v) : v.cell? ⟨g11, 0, none⟩ = some (.slice none 0 0) ∧ v.cell? ⟨g11, 1, none⟩ = some (.slice none 0 0) ∧ v.frozen? ⟨g11, 0, none⟩ = false ∧ v.frozen? ⟨g11, 1, none⟩ = false :=
  two_cells (show v.heap[g11]? = some (.cells #[Value.slice none 0 0, .slice none 0 0] 35) from (h.k12 rfl).2)
theorem LL.fin (h : LL W XL XH YL YH bb true true true true true true true true true true u45 u38 u46 u47 u48 u10 u11 u12 p1 c1 p2 c2 p3 c3 p4 c4 g10 g11 v) : TwoP W XL XH YL YH bb u10 u11 u12 v := by
  obtain ⟨x1, x2⟩ := h.k11 rfl
  obtain ⟨y1, y2⟩ := h.k12 rfl
  exact ⟨g10, g11, p1, c1, p2, c2, p3, c3, p4, c4, x1, y1, h.k15 rfl, x2, y2, (h.k6 rfl).2, h.below⟩
end
def opsC7 : Array Oper := #[{ dst := some 39, op := Go.Op.load 35 (Go.Operand.tmp 3), type := 35, pos := "ref.go:73", after := #[], guard := none }, { dst := some 40, op := Go.Op.move (Go.Operand.tmp 2), type := 3, pos := "ref.go:73", after := #[], guard := none }, { dst := some 41, op := Go.Op.move (Go.Operand.tmp 9), type := 3, pos := "ref.go:73", after := #[], guard := none }, { dst := some 42, op := Go.Op.binOp Go.BinOp.add 3 (Go.Operand.tmp 40) (Go.Operand.tmp 41) 3, type := 3, pos := "ref.go:73", after := #[{ on := 1, ground := Go.Ground.data }, { on := 2, ground := Go.Ground.data }], guard := none }, { dst := some 43, op := Go.Op.move (Go.Operand.tmp 8), type := 3, pos := "ref.go:73", after := #[], guard := none }, { dst := some 44, op := Go.Op.binOp Go.BinOp.rem 3 (Go.Operand.tmp 42) (Go.Operand.tmp 43) 3, type := 3, pos := "ref.go:73", after := #[{ on := 3, ground := Go.Ground.data }, { on := 4, ground := Go.Ground.data }], guard := none }, { dst := some 45, op := Go.Op.call { callee := Go.Callee.value (Go.Operand.func 46), args := #[Go.Operand.tmp 39, Go.Operand.tmp 44], argTypes := #[35, 3] }, type := 73, pos := "ref.go:73", after := #[{ on := 0, ground := Go.Ground.data }, { on := 5, ground := Go.Ground.data }], guard := none }, { dst := some 38, op := Go.Op.move (Go.Operand.tmp 45), type := 73, pos := "ref.go:73", after := #[{ on := 6, ground := Go.Ground.data }], guard := none }, { dst := some 46, op := Go.Op.extract (Go.Operand.tmp 38) 0, type := 35, pos := "ref.go:73", after := #[{ on := 7, ground := Go.Ground.data }], guard := none }, { dst := some 47, op := Go.Op.extract (Go.Operand.tmp 38) 1, type := 35, pos := "ref.go:73", after := #[{ on := 7, ground := Go.Ground.data }, { on := 13, ground := Go.Ground.gcOnly Go.Departure.lateStores }], guard := none }, { dst := some 48, op := Go.Op.extract (Go.Operand.tmp 38) 2, type := 4, pos := "ref.go:73", after := #[{ on := 7, ground := Go.Ground.data }, { on := 14, ground := Go.Ground.gcOnly Go.Departure.lateStores }], guard := none }, { dst := some 10, op := Go.Op.alloc 35, type := 0, pos := "ref.go:73", after := #[], guard := none }, { dst := some 11, op := Go.Op.alloc 35, type := 0, pos := "ref.go:73", after := #[], guard := none }, { dst := none, op := Go.Op.store 35 (Go.Operand.tmp 10) (Go.Operand.tmp 46), type := 0, pos := "ref.go:73", after := #[{ on := 11, ground := Go.Ground.data }, { on := 8, ground := Go.Ground.data }, { on := 6, ground := Go.Ground.chain }, { on := 0, ground := Go.Ground.phase }, { on := 1, ground := Go.Ground.phase }, { on := 2, ground := Go.Ground.phase }, { on := 3, ground := Go.Ground.phase }, { on := 4, ground := Go.Ground.phase }, { on := 5, ground := Go.Ground.phase }, { on := 6, ground := Go.Ground.phase }, { on := 7, ground := Go.Ground.phase }, { on := 8, ground := Go.Ground.phase }, { on := 9, ground := Go.Ground.textOnly Go.Departure.lateStores }, { on := 10, ground := Go.Ground.textOnly Go.Departure.lateStores }, { on := 11, ground := Go.Ground.phase }, { on := 12, ground := Go.Ground.phase }], guard := none }, { dst := none, op := Go.Op.store 35 (Go.Operand.tmp 11) (Go.Operand.tmp 47), type := 0, pos := "ref.go:73", after := #[{ on := 12, ground := Go.Ground.data }, { on := 9, ground := Go.Ground.data }, { on := 13, ground := Go.Ground.chain }, { on := 0, ground := Go.Ground.phase }, { on := 1, ground := Go.Ground.phase }, { on := 2, ground := Go.Ground.phase }, { on := 3, ground := Go.Ground.phase }, { on := 4, ground := Go.Ground.phase }, { on := 5, ground := Go.Ground.phase }, { on := 6, ground := Go.Ground.phase }, { on := 7, ground := Go.Ground.phase }, { on := 8, ground := Go.Ground.phase }, { on := 9, ground := Go.Ground.phase }, { on := 10, ground := Go.Ground.textOnly Go.Departure.lateStores }, { on := 11, ground := Go.Ground.phase }, { on := 12, ground := Go.Ground.phase }, { on := 13, ground := Go.Ground.phase }], guard := none }, { dst := some 12, op := Go.Op.assign (Go.Operand.tmp 48), type := 4, pos := "ref.go:73", after := #[{ on := 10, ground := Go.Ground.data }, { on := 14, ground := Go.Ground.chain }, { on := 0, ground := Go.Ground.phase }, { on := 1, ground := Go.Ground.phase }, { on := 2, ground := Go.Ground.phase }, { on := 3, ground := Go.Ground.phase }, { on := 4, ground := Go.Ground.phase }, { on := 5, ground := Go.Ground.phase }, { on := 6, ground := Go.Ground.phase }, { on := 7, ground := Go.Ground.phase }, { on := 8, ground := Go.Ground.phase }, { on := 9, ground := Go.Ground.phase }, { on := 10, ground := Go.Ground.phase }, { on := 11, ground := Go.Ground.phase }, { on := 12, ground := Go.Ground.phase }, { on := 13, ground := Go.Ground.phase }, { on := 14, ground := Go.Ground.phase }], guard := none }]
theorem readyC7b : ∀ f6 f7 f8 f9 f10 f11 f12 f13 f14 f15 : Bool, ((Region.ready .any opsC7 #[true, true, true, true, true, true, f6, f7, f8, f9, f10, f11, f12, f13, f14, f15]).all fun i => (decide (i = 6) && (!f6)) || (decide (i = 7) && (!f7 && f6)) || (decide (i = 8) && (!f8 && f7)) || (decide (i = 9) && (!f9 && f7)) || (decide (i = 10) && (!f10 && f7)) || (decide (i = 11) && (!f11)) || (decide (i = 12) && (!f12)) || (decide (i = 13) && (!f13 && f6 && f8 && f11 && f12)) || (decide (i = 14) && (!f14 && f6 && f9 && f12 && f13)) || (decide (i = 15) && (!f15 && f10))) = true := by decide +kernel
theorem readyC7 (f6 f7 f8 f9 f10 f11 f12 f13 f14 f15 : Bool) (i : Nat) (h : i ∈ Region.ready .any opsC7 #[true, true, true, true, true, true, f6, f7, f8, f9, f10, f11, f12, f13, f14, f15]) : (i = 6 ∧ f6 = false) ∨ (i = 7 ∧ f7 = false ∧ f6 = true) ∨ (i = 8 ∧ f8 = false ∧ f7 = true) ∨ (i = 9 ∧ f9 = false ∧ f7 = true) ∨ (i = 10 ∧ f10 = false ∧ f7 = true) ∨ (i = 11 ∧ f11 = false) ∨ (i = 12 ∧ f12 = false) ∨ (i = 13 ∧ f13 = false ∧ f6 = true ∧ f8 = true ∧ f11 = true ∧ f12 = true) ∨ (i = 14 ∧ f14 = false ∧ f6 = true ∧ f9 = true ∧ f12 = true ∧ f13 = true) ∨ (i = 15 ∧ f15 = false ∧ f10 = true) := by
  have := List.all_eq_true.1 (readyC7b f6 f7 f8 f9 f10 f11 f12 f13 f14 f15) i h
  simpa only [Bool.or_eq_true, Bool.and_eq_true, decide_eq_true_eq, Bool.not_eq_true', or_assoc, and_assoc] using this
theorem doneC7b : ∀ f6 f7 f8 f9 f10 f11 f12 f13 f14 f15 : Bool, (!(Region.ready .any opsC7 #[true, true, true, true, true, true, f6, f7, f8, f9, f10, f11, f12, f13, f14, f15]).isEmpty || (f6 && f7 && f8 && f9 && f10 && f11 && f12 && f13 && f14 && f15)) = true := by decide +kernel
theorem doneC7 (f6 f7 f8 f9 f10 f11 f12 f13 f14 f15 : Bool) (h : Region.ready .any opsC7 #[true, true, true, true, true, true, f6, f7, f8, f9, f10, f11, f12, f13, f14, f15] = []) : f6 = true ∧ f7 = true ∧ f8 = true ∧ f9 = true ∧ f10 = true ∧ f11 = true ∧ f12 = true ∧ f13 = true ∧ f14 = true ∧ f15 = true := by
  have := doneC7b f6 f7 f8 f9 f10 f11 f12 f13 f14 f15
  rw [h] at this
  simpa only [List.isEmpty_nil, Bool.not_true, Bool.false_or, Bool.and_eq_true, and_assoc] using this
def opsC13 : Array Oper := #[{ dst := some 71, op := Go.Op.load 35 (Go.Operand.tmp 3), type := 35, pos := "ref.go:79", after := #[], guard := none }, { dst := some 72, op := Go.Op.move (Go.Operand.tmp 2), type := 3, pos := "ref.go:79", after := #[], guard := none }, { dst := some 73, op := Go.Op.move (Go.Operand.tmp 13), type := 3, pos := "ref.go:79", after := #[], guard := none }, { dst := some 74, op := Go.Op.binOp Go.BinOp.add 3 (Go.Operand.tmp 72) (Go.Operand.tmp 73) 3, type := 3, pos := "ref.go:79", after := #[{ on := 1, ground := Go.Ground.data }, { on := 2, ground := Go.Ground.data }], guard := none }, { dst := some 75, op := Go.Op.move (Go.Operand.tmp 8), type := 3, pos := "ref.go:79", after := #[], guard := none }, { dst := some 76, op := Go.Op.binOp Go.BinOp.rem 3 (Go.Operand.tmp 74) (Go.Operand.tmp 75) 3, type := 3, pos := "ref.go:79", after := #[{ on := 3, ground := Go.Ground.data }, { on := 4, ground := Go.Ground.data }], guard := none }, { dst := some 77, op := Go.Op.call { callee := Go.Callee.value (Go.Operand.func 46), args := #[Go.Operand.tmp 71, Go.Operand.tmp 76], argTypes := #[35, 3] }, type := 73, pos := "ref.go:79", after := #[{ on := 0, ground := Go.Ground.data }, { on := 5, ground := Go.Ground.data }], guard := none }, { dst := some 70, op := Go.Op.move (Go.Operand.tmp 77), type := 73, pos := "ref.go:79", after := #[{ on := 6, ground := Go.Ground.data }], guard := none }, { dst := some 78, op := Go.Op.extract (Go.Operand.tmp 70) 0, type := 35, pos := "ref.go:79", after := #[{ on := 7, ground := Go.Ground.data }], guard := none }, { dst := some 79, op := Go.Op.extract (Go.Operand.tmp 70) 1, type := 35, pos := "ref.go:79", after := #[{ on := 7, ground := Go.Ground.data }, { on := 13, ground := Go.Ground.gcOnly Go.Departure.lateStores }], guard := none }, { dst := some 80, op := Go.Op.extract (Go.Operand.tmp 70) 2, type := 4, pos := "ref.go:79", after := #[{ on := 7, ground := Go.Ground.data }, { on := 14, ground := Go.Ground.gcOnly Go.Departure.lateStores }], guard := none }, { dst := some 14, op := Go.Op.alloc 35, type := 0, pos := "ref.go:79", after := #[], guard := none }, { dst := some 15, op := Go.Op.alloc 35, type := 0, pos := "ref.go:79", after := #[], guard := none }, { dst := none, op := Go.Op.store 35 (Go.Operand.tmp 14) (Go.Operand.tmp 78), type := 0, pos := "ref.go:79", after := #[{ on := 11, ground := Go.Ground.data }, { on := 8, ground := Go.Ground.data }, { on := 6, ground := Go.Ground.chain }, { on := 0, ground := Go.Ground.phase }, { on := 1, ground := Go.Ground.phase }, { on := 2, ground := Go.Ground.phase }, { on := 3, ground := Go.Ground.phase }, { on := 4, ground := Go.Ground.phase }, { on := 5, ground := Go.Ground.phase }, { on := 6, ground := Go.Ground.phase }, { on := 7, ground := Go.Ground.phase }, { on := 8, ground := Go.Ground.phase }, { on := 9, ground := Go.Ground.textOnly Go.Departure.lateStores }, { on := 10, ground := Go.Ground.textOnly Go.Departure.lateStores }, { on := 11, ground := Go.Ground.phase }, { on := 12, ground := Go.Ground.phase }], guard := none }, { dst := none, op := Go.Op.store 35 (Go.Operand.tmp 15) (Go.Operand.tmp 79), type := 0, pos := "ref.go:79", after := #[{ on := 12, ground := Go.Ground.data }, { on := 9, ground := Go.Ground.data }, { on := 13, ground := Go.Ground.chain }, { on := 0, ground := Go.Ground.phase }, { on := 1, ground := Go.Ground.phase }, { on := 2, ground := Go.Ground.phase }, { on := 3, ground := Go.Ground.phase }, { on := 4, ground := Go.Ground.phase }, { on := 5, ground := Go.Ground.phase }, { on := 6, ground := Go.Ground.phase }, { on := 7, ground := Go.Ground.phase }, { on := 8, ground := Go.Ground.phase }, { on := 9, ground := Go.Ground.phase }, { on := 10, ground := Go.Ground.textOnly Go.Departure.lateStores }, { on := 11, ground := Go.Ground.phase }, { on := 12, ground := Go.Ground.phase }, { on := 13, ground := Go.Ground.phase }], guard := none }, { dst := some 16, op := Go.Op.assign (Go.Operand.tmp 80), type := 4, pos := "ref.go:79", after := #[{ on := 10, ground := Go.Ground.data }, { on := 14, ground := Go.Ground.chain }, { on := 0, ground := Go.Ground.phase }, { on := 1, ground := Go.Ground.phase }, { on := 2, ground := Go.Ground.phase }, { on := 3, ground := Go.Ground.phase }, { on := 4, ground := Go.Ground.phase }, { on := 5, ground := Go.Ground.phase }, { on := 6, ground := Go.Ground.phase }, { on := 7, ground := Go.Ground.phase }, { on := 8, ground := Go.Ground.phase }, { on := 9, ground := Go.Ground.phase }, { on := 10, ground := Go.Ground.phase }, { on := 11, ground := Go.Ground.phase }, { on := 12, ground := Go.Ground.phase }, { on := 13, ground := Go.Ground.phase }, { on := 14, ground := Go.Ground.phase }], guard := none }]
theorem readyC13b : ∀ f6 f7 f8 f9 f10 f11 f12 f13 f14 f15 : Bool, ((Region.ready .any opsC13 #[true, true, true, true, true, true, f6, f7, f8, f9, f10, f11, f12, f13, f14, f15]).all fun i => (decide (i = 6) && (!f6)) || (decide (i = 7) && (!f7 && f6)) || (decide (i = 8) && (!f8 && f7)) || (decide (i = 9) && (!f9 && f7)) || (decide (i = 10) && (!f10 && f7)) || (decide (i = 11) && (!f11)) || (decide (i = 12) && (!f12)) || (decide (i = 13) && (!f13 && f6 && f8 && f11 && f12)) || (decide (i = 14) && (!f14 && f6 && f9 && f12 && f13)) || (decide (i = 15) && (!f15 && f10))) = true := by decide +kernel
theorem readyC13 (f6 f7 f8 f9 f10 f11 f12 f13 f14 f15 : Bool) (i : Nat) (h : i ∈ Region.ready .any opsC13 #[true, true, true, true, true, true, f6, f7, f8, f9, f10, f11, f12, f13, f14, f15]) : (i = 6 ∧ f6 = false) ∨ (i = 7 ∧ f7 = false ∧ f6 = true) ∨ (i = 8 ∧ f8 = false ∧ f7 = true) ∨ (i = 9 ∧ f9 = false ∧ f7 = true) ∨ (i = 10 ∧ f10 = false ∧ f7 = true) ∨ (i = 11 ∧ f11 = false) ∨ (i = 12 ∧ f12 = false) ∨ (i = 13 ∧ f13 = false ∧ f6 = true ∧ f8 = true ∧ f11 = true ∧ f12 = true) ∨ (i = 14 ∧ f14 = false ∧ f6 = true ∧ f9 = true ∧ f12 = true ∧ f13 = true) ∨ (i = 15 ∧ f15 = false ∧ f10 = true) := by
  have := List.all_eq_true.1 (readyC13b f6 f7 f8 f9 f10 f11 f12 f13 f14 f15) i h
  simpa only [Bool.or_eq_true, Bool.and_eq_true, decide_eq_true_eq, Bool.not_eq_true', or_assoc, and_assoc] using this
theorem doneC13b : ∀ f6 f7 f8 f9 f10 f11 f12 f13 f14 f15 : Bool, (!(Region.ready .any opsC13 #[true, true, true, true, true, true, f6, f7, f8, f9, f10, f11, f12, f13, f14, f15]).isEmpty || (f6 && f7 && f8 && f9 && f10 && f11 && f12 && f13 && f14 && f15)) = true := by decide +kernel
theorem doneC13 (f6 f7 f8 f9 f10 f11 f12 f13 f14 f15 : Bool) (h : Region.ready .any opsC13 #[true, true, true, true, true, true, f6, f7, f8, f9, f10, f11, f12, f13, f14, f15] = []) : f6 = true ∧ f7 = true ∧ f8 = true ∧ f9 = true ∧ f10 = true ∧ f11 = true ∧ f12 = true ∧ f13 = true ∧ f14 = true ∧ f15 = true := by
  have := doneC13b f6 f7 f8 f9 f10 f11 f12 f13 f14 f15
  rw [h] at this
  simpa only [List.isEmpty_nil, Bool.not_true, Bool.false_or, Bool.and_eq_true, and_assoc] using this
def putsC7 (a : Act) (u45 u38 u46 u47 u48 u10 u11 u12 : Value) : Act := ((((((((a.put (some 45) u45).put (some 38) u38).put (some 46) u46).put (some 47) u47).put (some 48) u48).put (some 10) u10).put (some 11) u11).put (some 12) u12)
def putsC13 (a : Act) (u45 u38 u46 u47 u48 u10 u11 u12 : Value) : Act := ((((((((a.put (some 77) u45).put (some 70) u38).put (some 78) u46).put (some 79) u47).put (some 80) u48).put (some 14) u10).put (some 15) u11).put (some 16) u12)
set_option maxRecDepth 100000 in
set_option maxHeartbeats 8000000 in
theorem refChoose_go {D : Nat → Prop} (lo hi : List Nat) (L : List Rec) (p q s : Option Addr) (c c' c'' f : Nat) (w : World) (hp : Pt w p lo) (hq : Pt w q hi) (hs : Rs D w s L) (hl : lo.length ≤ 1000000) (hL : bigR L) (hf : f < lo.length) (hbx : boxB lo hi (lo.length : Int) = true) :
    Calls Try.prog 48 #[.agg #[.slice p lo.length c, .slice q hi.length c'], .slice s L.length c'', .int .i64 (f : Int)] w (ChoPost w (chooseN lo hi L f)) := by
  obtain ⟨V, hV⟩ : ∃ V, w.alloc (.cells #[Value.slice p lo.length c, .slice q hi.length c'] 35) = V := ⟨_, rfl⟩
  have hb0 : Below w.heap.size w V := by rw [← hV]; exact below_alloc _ _
  have hvv := two_cells (show V.heap[w.heap.size]? = some (.cells #[Value.slice p lo.length c, .slice q hi.length c'] 35) by rw [← hV]; exact heap_alloc_new _ _)
  have hvs : w.heap.size < V.heap.size := by rw [← hV]; simp
  have HCK := hid (refCheckBox_ok lo hi p q c c' (lo.length : Int) V (hp.below hb0) (hq.below hb0) (by omega))
  rw [hbx, err_true true rfl] at HCK
  have HRES : Hid (chooseN lo hi L f = match cho (fun a => pick1 lo hi L (a : Int)) lo.length f with | some a => (a, true) | none => match cho (fun a => halfB lo hi (a : Int)) lo.length f with | some a => (a, true) | none => (0, false)) := hid rfl
  have HBV0 := hid fun (U : World) (hu : Below V.heap.size V U) => (show (U.cell? ⟨w.heap.size, 0, none⟩ = some (.slice p lo.length c) ∧ U.cell? ⟨w.heap.size, 1, none⟩ = some (.slice q hi.length c')) ∧ (Pt U p lo ∧ Pt U q hi) ∧ Below w.heap.size w U from
    ⟨⟨(hu.cell (p := ⟨_, 0, none⟩) hvs).trans hvv.1, (hu.cell (p := ⟨_, 1, none⟩) hvs).trans hvv.2.1⟩, ⟨(hp.below hb0).below hu, (hq.below hb0).below hu⟩, hb0.trans (hu.mono hb0.size)⟩)
  have HHAL := hid fun (U : World) (hu : Below V.heap.size V U) (a : Int) => refHalves_ok lo hi p q c c' a U ((hp.below hb0).below hu) ((hq.below hb0).below hu) hl
  have HS := hid hs; have HBL := hid hL
  have x0 := hvv.1; have x1 := hvv.2.1
  have e0 : decide ((f : Int) < 0) = false := by simp
  have e0' : decide ((lo.length : Int) ≤ (f : Int)) = false := by simp; omega
  have e0'' : decide (lo.length ≤ f) = false := by simp; omega
  obtain ⟨n, hn⟩ : ∃ n, lo.length = n := ⟨_, rfl⟩
  rw [hn] at hf hl HCK HRES HBV0 HHAL x0 e0' e0'' hV ⊢
  clear hp hq hs hL hbx hn hvv hvs
  have HB00 := hid hb0
  clear hb0
  go_enter Try.func48, Try.ntmps48
  go_wp2_with fail
  refine HCK.out.mono ?_
  rintro e W ⟨rfl, hbw⟩
  have HB0 := hid (HB00.out.trans (hbw.mono HB00.out.size))
  have HBX := hid fun (U : World) (hu : Below W.heap.size W U) => (HBV0.out U (hbw.trans (hu.mono hbw.size))).1
  have HHA := hid fun (U : World) (hu : Below W.heap.size W U) (a : Int) => HHAL.out U (hbw.trans (hu.mono hbw.size)) a
  clear hbw x0 x1 hV HBV0 HHAL HCK
  go_wp2_with fail
  clear e0 e0' e0''
  go_loopw [9] (fun i wr => CI W (fun a => pick1 lo hi L (a : Int)) n f i wr) (fun i _ => n - (intOf i).toNat)
  case atStart => exact ⟨0, by omega, rfl, fun j hj => absurd hj (by omega), Below.refl _ _⟩
  case round =>
    rename World => wi
    obtain ⟨k, hk, rfl, hq, hb⟩ := hrel
    have HQ := hid hq; have HB := hid hb; clear hq hb
    by_cases hlt : k < n
    · obtain ⟨a, ha⟩ : ∃ a, (f + k) % n = a := ⟨_, rfl⟩
      have han : a < n := by rw [← ha]; exact Nat.mod_lt _ (by omega)
      have HA := hid ha
      have e1 : ((f : Int) + (k : Int)) % (n : Int) = (a : Int) := by rw [← ha]; simp
      have e2 : ((f : Int) + (k : Int)).tmod (n : Int) = (a : Int) := by rw [Int.tmod_eq_emod_of_nonneg (by omega)]; exact e1
      have e3 : IntKind.i64.wrap ((f : Int) + (k : Int)) = (f : Int) + (k : Int) := Go.IntWalk.i64_in _ (by omega)
      have e4 : IntKind.i64.wrap (a : Int) = (a : Int) := Go.IntWalk.i64_in _ (by omega)
      have e5 : ((n : Int) == 0) = false := by simp; omega
      have e6 : ¬ n = 0 := by omega
      have HTRUE := hid fun (hp : pick1 lo hi L (a : Int) = true) => (show chooseN lo hi L f = (a, true) from by rw [HRES.out, cho_some (q := fun a => pick1 lo hi L (a : Int)) hlt HQ.out (by show pick1 lo hi L (((f + k) % n : Nat) : Int) = true; rw [HA.out]; exact hp), HA.out])
      have HNEXT := hid fun (hp : pick1 lo hi L (a : Int) = false) => (show ∀ j, j < k + 1 → pick1 lo hi L (((f + j) % n : Nat) : Int) = false from fun j hj => by
        by_cases e : j = k
        · subst e; rw [HA.out]; exact hp
        · exact HQ.out j (by omega))
      have HH := hid fun (V : World) (hb : Below W.heap.size W V) => HHA.out V hb (a : Int)
      unfold HalfPost at HH
      have HPK : Hid (pick1 lo hi L (a : Int) = (halfB lo hi (a : Int) && (anyIn L (xlo lo hi (a : Int)) (xhi lo hi (a : Int)) && anyIn L (ylo lo hi (a : Int)) (yhi lo hi (a : Int))))) := hid rfl
      generalize xlo lo hi (a : Int) = XL at *
      generalize xhi lo hi (a : Int) = XH at *
      generalize ylo lo hi (a : Int) = YL at *
      generalize yhi lo hi (a : Int) = YH at *
      generalize halfB lo hi (a : Int) = bb at *
      clear ha
      have zb := HBX.out _ HB.out
      go_upto_region 7 with (fail)
      go_cut [10, 11, 12] (fun s10 s11 s12 wx => TwoP wi XL XH YL YH bb s10 s11 s12 wx)
      case first =>
        refine wp_region_held_drew (S := fun w' => w'.cell? ⟨w.heap.size, 0, none⟩ = some (.slice p n c) ∧ w'.cell? ⟨w.heap.size, 1, none⟩ = some (.slice q hi.length c')) (by kernel_rfl) (by exact (HBX.out _ HB.out.drew)) (fun hHeld => ?_)
        refine wpAnyH_take (i := 0) (oi := { dst := some 39, op := Go.Op.load 35 (Go.Operand.tmp 3), type := 35, pos := "ref.go:73", after := #[], guard := none }) (v := ?va0) rfl (by kernel_rfl) (by kernel_rfl) (by kernel_rfl) (fun _ _ _ h => h) (Or.inl ⟨by rfl, ?hya0⟩) (by assumption) ?resta0
        case hya0 => (intro w hSw; (try dsimp only at hSw); go_simp; (try with_reducible rfl))
        simp only [Act.put, List.setIfInBounds_toArray, List.set_cons_zero, List.set_cons_succ]
        refine wpAnyH_take (i := 1) (oi := { dst := some 40, op := Go.Op.move (Go.Operand.tmp 2), type := 3, pos := "ref.go:73", after := #[], guard := none }) (v := ?va1) rfl (by kernel_rfl) (by kernel_rfl) (by kernel_rfl) (fun _ _ _ h => h) (Or.inl ⟨by rfl, ?hya1⟩) (by assumption) ?resta1
        case hya1 => (intro w hSw; (try dsimp only at hSw); go_simp; (try with_reducible rfl))
        simp only [Act.put, List.setIfInBounds_toArray, List.set_cons_zero, List.set_cons_succ]
        refine wpAnyH_take (i := 2) (oi := { dst := some 41, op := Go.Op.move (Go.Operand.tmp 9), type := 3, pos := "ref.go:73", after := #[], guard := none }) (v := ?va2) rfl (by kernel_rfl) (by kernel_rfl) (by kernel_rfl) (fun _ _ _ h => h) (Or.inl ⟨by rfl, ?hya2⟩) (by assumption) ?resta2
        case hya2 => (intro w hSw; (try dsimp only at hSw); go_simp; (try with_reducible rfl))
        simp only [Act.put, List.setIfInBounds_toArray, List.set_cons_zero, List.set_cons_succ]
        refine wpAnyH_take (i := 3) (oi := { dst := some 42, op := Go.Op.binOp Go.BinOp.add 3 (Go.Operand.tmp 40) (Go.Operand.tmp 41) 3, type := 3, pos := "ref.go:73", after := #[{ on := 1, ground := Go.Ground.data }, { on := 2, ground := Go.Ground.data }], guard := none }) (v := ?va3) rfl (by kernel_rfl) (by kernel_rfl) (by kernel_rfl) (fun _ _ _ h => h) (Or.inl ⟨by rfl, ?hya3⟩) (by assumption) ?resta3
        case hya3 => (intro w hSw; (try dsimp only at hSw); go_simp; (try with_reducible rfl))
        simp only [Act.put, List.setIfInBounds_toArray, List.set_cons_zero, List.set_cons_succ]
        refine wpAnyH_take (i := 4) (oi := { dst := some 43, op := Go.Op.move (Go.Operand.tmp 8), type := 3, pos := "ref.go:73", after := #[], guard := none }) (v := ?va4) rfl (by kernel_rfl) (by kernel_rfl) (by kernel_rfl) (fun _ _ _ h => h) (Or.inl ⟨by rfl, ?hya4⟩) (by assumption) ?resta4
        case hya4 => (intro w hSw; (try dsimp only at hSw); go_simp; (try with_reducible rfl))
        simp only [Act.put, List.setIfInBounds_toArray, List.set_cons_zero, List.set_cons_succ]
        refine wpAnyH_take (i := 5) (oi := { dst := some 44, op := Go.Op.binOp Go.BinOp.rem 3 (Go.Operand.tmp 42) (Go.Operand.tmp 43) 3, type := 3, pos := "ref.go:73", after := #[{ on := 3, ground := Go.Ground.data }, { on := 4, ground := Go.Ground.data }], guard := none }) (v := ?va5) rfl (by kernel_rfl) (by kernel_rfl) (by kernel_rfl) (fun _ _ _ h => h) (Or.inl ⟨by rfl, ?hya5⟩) (by assumption) ?resta5
        case hya5 => (intro w hSw; (try dsimp only at hSw); go_simp; (try with_reducible rfl))
        simp only [Act.put, List.setIfInBounds_toArray, List.set_cons_zero, List.set_cons_succ]
        refine inv_start fun A0 hA0 => ?_
        refine wpAnyH_inv (fun l a v => ∃ f6 f7 f8 f9 f10 f11 f12 f13 f14 f15 u45 u38 u46 u47 u48 u10 u11 u12 p1 c1 p2 c2 p3 c3 p4 c4 g10 g11, l = #[true, true, true, true, true, true, f6, f7, f8, f9, f10, f11, f12, f13, f14, f15] ∧ a = putsC7 A0 u45 u38 u46 u47 u48 u10 u11 u12 ∧ LL wi XL XH YL YH bb f6 f7 f8 f9 f10 f11 f12 f13 f14 f15 u45 u38 u46 u47 u48 u10 u11 u12 p1 c1 p2 c2 p3 c3 p4 c4 g10 g11 v) ?hS ?hst ?hen _ _ _ _ ?hI ?hl
        case hS =>
          rintro l a v ⟨_, _, _, _, _, _, _, _, _, _, _, _, _, _, _, _, _, _, _, _, _, _, _, _, _, _, _, _, _, _, hj⟩
          exact HBX.out _ (HB.out.trans (hj.below.mono HB.out.size))
        case hI =>
          exact ⟨false, false, false, false, false, false, false, false, false, false, u45, u38, u46, u47, u48, u10, u11, u12, none, 0, none, 0, none, 0, none, 0, 0, 0, rfl, by rw [hA0]; simp only [putsC7, Act.put, List.setIfInBounds_toArray, List.set_cons_zero, List.set_cons_succ], ⟨(Below.refl _ _).drew, nofun, nofun, nofun, nofun, nofun, nofun, nofun, nofun, ⟨nofun, nofun⟩, nofun, nofun, nofun⟩⟩
        case hl => decide
        case hen =>
          rintro l a v ⟨f6, f7, f8, f9, f10, f11, f12, f13, f14, f15, u45, u38, u46, u47, u48, u10, u11, u12, p1, c1, p2, c2, p3, c3, p4, c4, g10, g11, rfl, rfl, hj⟩ hr
          obtain ⟨rfl, rfl, rfl, rfl, rfl, rfl, rfl, rfl, rfl, rfl⟩ := doneC7 _ _ _ _ _ _ _ _ _ _ hr
          have HJ := hid hj.fin
          clear hj hr
          subst hA0
          simp only [putsC7, Act.put, List.setIfInBounds_toArray, List.set_cons_zero, List.set_cons_succ]
          go_wp2_with fail
          go_meet
          exact HJ.out
        case hst =>
          rintro l a v i ⟨f6, f7, f8, f9, f10, f11, f12, f13, f14, f15, u45, u38, u46, u47, u48, u10, u11, u12, p1, c1, p2, c2, p3, c3, p4, c4, g10, g11, rfl, rfl, hj⟩ hi
          have HJ := hid hj
          have HBv := hid (HB.out.trans (hj.below.mono HB.out.size))
          clear hj
          rcases readyC7 _ _ _ _ _ _ _ _ _ _ _ hi with ⟨rfl, rfl⟩ | ⟨rfl, rfl, rfl⟩ | ⟨rfl, rfl, rfl⟩ | ⟨rfl, rfl, rfl⟩ | ⟨rfl, rfl, rfl⟩ | ⟨rfl, rfl⟩ | ⟨rfl, rfl⟩ | ⟨rfl, rfl, rfl, rfl, rfl, rfl⟩ | ⟨rfl, rfl, rfl, rfl, rfl, rfl⟩ | ⟨rfl, rfl, rfl⟩
          all_goals clear hi
          · refine op_step (i := 6) (o := { dst := some 45, op := Go.Op.call { callee := Go.Callee.value (Go.Operand.func 46), args := #[Go.Operand.tmp 39, Go.Operand.tmp 44], argTypes := #[35, 3] }, type := 73, pos := "ref.go:73", after := #[{ on := 0, ground := Go.Ground.data }, { on := 5, ground := Go.Ground.data }], guard := none }) rfl (fun K hK => ?_)
            subst hA0
            simp only [putsC7, Act.put, List.setIfInBounds_toArray, List.set_cons_zero, List.set_cons_succ]
            go_simp
            go_at_call 46
            refine (HH.out _ HBv.out).mono ?_
            rintro e w4 ⟨q1, d1, q2, d2, q3, d3, q4, d4, rfl, h1, h2, h3, h4, hb⟩
            refine hK.out _ _ ?_
            refine ⟨true, f7, f8, f9, f10, f11, f12, f13, f14, f15, _, _, _, _, _, _, _, _, _, d1, _, d2, _, d3, _, d4, _, _, rfl, ?_, HJ.out.call h1 h2 h3 h4 hb⟩
            simp only [putsC7, Act.put, List.setIfInBounds_toArray, List.set_cons_zero, List.set_cons_succ]
          · refine op_step (i := 7) (o := { dst := some 38, op := Go.Op.move (Go.Operand.tmp 45), type := 73, pos := "ref.go:73", after := #[{ on := 6, ground := Go.Ground.data }], guard := none }) rfl (fun K hK => ?_)
            subst hA0
            simp only [putsC7, Act.put, List.setIfInBounds_toArray, List.set_cons_zero, List.set_cons_succ]
            go_simp
            refine hK.out _ _ ?_
            refine ⟨true, true, f8, f9, f10, f11, f12, f13, f14, f15, _, _, _, _, _, _, _, _, _, _, _, _, _, _, _, _, _, _, rfl, ?_, HJ.out.mv⟩
            simp only [putsC7, Act.put, List.setIfInBounds_toArray, List.set_cons_zero, List.set_cons_succ]
          · refine op_step (i := 8) (o := { dst := some 46, op := Go.Op.extract (Go.Operand.tmp 38) 0, type := 35, pos := "ref.go:73", after := #[{ on := 7, ground := Go.Ground.data }], guard := none }) rfl (fun K hK => ?_)
            subst hA0
            have ek7 := (HJ.out.k7 rfl).2
            simp only [putsC7, Act.put, List.setIfInBounds_toArray, List.set_cons_zero, List.set_cons_succ]
            rw [ek7]
            go_simp
            refine hK.out _ _ ?_
            refine ⟨f6, true, true, f9, f10, f11, f12, f13, f14, f15, _, _, _, _, _, _, _, _, _, _, _, _, _, _, _, _, _, _, rfl, ?_, HJ.out.ex8⟩
            simp only [ek7, putsC7, Act.put, List.setIfInBounds_toArray, List.set_cons_zero, List.set_cons_succ]
          · refine op_step (i := 9) (o := { dst := some 47, op := Go.Op.extract (Go.Operand.tmp 38) 1, type := 35, pos := "ref.go:73", after := #[{ on := 7, ground := Go.Ground.data }, { on := 13, ground := Go.Ground.gcOnly Go.Departure.lateStores }], guard := none }) rfl (fun K hK => ?_)
            subst hA0
            have ek7 := (HJ.out.k7 rfl).2
            simp only [putsC7, Act.put, List.setIfInBounds_toArray, List.set_cons_zero, List.set_cons_succ]
            rw [ek7]
            go_simp
            refine hK.out _ _ ?_
            refine ⟨f6, true, f8, true, f10, f11, f12, f13, f14, f15, _, _, _, _, _, _, _, _, _, _, _, _, _, _, _, _, _, _, rfl, ?_, HJ.out.ex9⟩
            simp only [ek7, putsC7, Act.put, List.setIfInBounds_toArray, List.set_cons_zero, List.set_cons_succ]
          · refine op_step (i := 10) (o := { dst := some 48, op := Go.Op.extract (Go.Operand.tmp 38) 2, type := 4, pos := "ref.go:73", after := #[{ on := 7, ground := Go.Ground.data }, { on := 14, ground := Go.Ground.gcOnly Go.Departure.lateStores }], guard := none }) rfl (fun K hK => ?_)
            subst hA0
            have ek7 := (HJ.out.k7 rfl).2
            simp only [putsC7, Act.put, List.setIfInBounds_toArray, List.set_cons_zero, List.set_cons_succ]
            rw [ek7]
            go_simp
            refine hK.out _ _ ?_
            refine ⟨f6, true, f8, f9, true, f11, f12, f13, f14, f15, _, _, _, _, _, _, _, _, _, _, _, _, _, _, _, _, _, _, rfl, ?_, HJ.out.ex10⟩
            simp only [ek7, putsC7, Act.put, List.setIfInBounds_toArray, List.set_cons_zero, List.set_cons_succ]
          · refine op_step (i := 11) (o := { dst := some 10, op := Go.Op.alloc 35, type := 0, pos := "ref.go:73", after := #[], guard := none }) rfl (fun K hK => ?_)
            subst hA0
            simp only [putsC7, Act.put, List.setIfInBounds_toArray, List.set_cons_zero, List.set_cons_succ]
            go_simp
            refine hK.out _ _ ?_
            refine ⟨f6, f7, f8, f9, f10, true, f12, f13, f14, f15, _, _, _, _, _, _, _, _, _, _, _, _, _, _, _, _, _, _, rfl, ?_, HJ.out.al11⟩
            simp only [putsC7, Act.put, List.setIfInBounds_toArray, List.set_cons_zero, List.set_cons_succ]
          · refine op_step (i := 12) (o := { dst := some 11, op := Go.Op.alloc 35, type := 0, pos := "ref.go:73", after := #[], guard := none }) rfl (fun K hK => ?_)
            subst hA0
            simp only [putsC7, Act.put, List.setIfInBounds_toArray, List.set_cons_zero, List.set_cons_succ]
            go_simp
            refine hK.out _ _ ?_
            refine ⟨f6, f7, f8, f9, f10, f11, true, f13, f14, f15, _, _, _, _, _, _, _, _, _, _, _, _, _, _, _, _, _, _, rfl, ?_, HJ.out.al12⟩
            simp only [putsC7, Act.put, List.setIfInBounds_toArray, List.set_cons_zero, List.set_cons_succ]
          · refine op_step (i := 13) (o := { dst := none, op := Go.Op.store 35 (Go.Operand.tmp 10) (Go.Operand.tmp 46), type := 0, pos := "ref.go:73", after := #[{ on := 11, ground := Go.Ground.data }, { on := 8, ground := Go.Ground.data }, { on := 6, ground := Go.Ground.chain }, { on := 0, ground := Go.Ground.phase }, { on := 1, ground := Go.Ground.phase }, { on := 2, ground := Go.Ground.phase }, { on := 3, ground := Go.Ground.phase }, { on := 4, ground := Go.Ground.phase }, { on := 5, ground := Go.Ground.phase }, { on := 6, ground := Go.Ground.phase }, { on := 7, ground := Go.Ground.phase }, { on := 8, ground := Go.Ground.phase }, { on := 9, ground := Go.Ground.textOnly Go.Departure.lateStores }, { on := 10, ground := Go.Ground.textOnly Go.Departure.lateStores }, { on := 11, ground := Go.Ground.phase }, { on := 12, ground := Go.Ground.phase }], guard := none }) rfl (fun K hK => ?_)
            subst hA0
            have ek11 := (HJ.out.k11 rfl).1
            have ek8 := (HJ.out.k8 rfl).2
            have zz := HJ.out.zero13
            simp only [putsC7, Act.put, List.setIfInBounds_toArray, List.set_cons_zero, List.set_cons_succ]
            rw [ek11, ek8]
            go_simp
            refine hK.out _ _ ?_
            refine ⟨true, f7, true, f9, f10, true, true, true, f14, f15, _, _, _, _, _, _, _, _, _, _, _, _, _, _, _, _, _, _, rfl, ?_, HJ.out.st13⟩
            simp only [ek11, ek8, putsC7, Act.put, List.setIfInBounds_toArray, List.set_cons_zero, List.set_cons_succ]
          · refine op_step (i := 14) (o := { dst := none, op := Go.Op.store 35 (Go.Operand.tmp 11) (Go.Operand.tmp 47), type := 0, pos := "ref.go:73", after := #[{ on := 12, ground := Go.Ground.data }, { on := 9, ground := Go.Ground.data }, { on := 13, ground := Go.Ground.chain }, { on := 0, ground := Go.Ground.phase }, { on := 1, ground := Go.Ground.phase }, { on := 2, ground := Go.Ground.phase }, { on := 3, ground := Go.Ground.phase }, { on := 4, ground := Go.Ground.phase }, { on := 5, ground := Go.Ground.phase }, { on := 6, ground := Go.Ground.phase }, { on := 7, ground := Go.Ground.phase }, { on := 8, ground := Go.Ground.phase }, { on := 9, ground := Go.Ground.phase }, { on := 10, ground := Go.Ground.textOnly Go.Departure.lateStores }, { on := 11, ground := Go.Ground.phase }, { on := 12, ground := Go.Ground.phase }, { on := 13, ground := Go.Ground.phase }], guard := none }) rfl (fun K hK => ?_)
            subst hA0
            have ek12 := (HJ.out.k12 rfl).1
            have ek9 := (HJ.out.k9 rfl).2
            have zz := HJ.out.zero14
            simp only [putsC7, Act.put, List.setIfInBounds_toArray, List.set_cons_zero, List.set_cons_succ]
            rw [ek12, ek9]
            go_simp
            refine hK.out _ _ ?_
            refine ⟨true, f7, f8, true, f10, f11, true, true, true, f15, _, _, _, _, _, _, _, _, _, _, _, _, _, _, _, _, _, _, rfl, ?_, HJ.out.st14⟩
            simp only [ek12, ek9, putsC7, Act.put, List.setIfInBounds_toArray, List.set_cons_zero, List.set_cons_succ]
          · refine op_step (i := 15) (o := { dst := some 12, op := Go.Op.assign (Go.Operand.tmp 48), type := 4, pos := "ref.go:73", after := #[{ on := 10, ground := Go.Ground.data }, { on := 14, ground := Go.Ground.chain }, { on := 0, ground := Go.Ground.phase }, { on := 1, ground := Go.Ground.phase }, { on := 2, ground := Go.Ground.phase }, { on := 3, ground := Go.Ground.phase }, { on := 4, ground := Go.Ground.phase }, { on := 5, ground := Go.Ground.phase }, { on := 6, ground := Go.Ground.phase }, { on := 7, ground := Go.Ground.phase }, { on := 8, ground := Go.Ground.phase }, { on := 9, ground := Go.Ground.phase }, { on := 10, ground := Go.Ground.phase }, { on := 11, ground := Go.Ground.phase }, { on := 12, ground := Go.Ground.phase }, { on := 13, ground := Go.Ground.phase }, { on := 14, ground := Go.Ground.phase }], guard := none }) rfl (fun K hK => ?_)
            subst hA0
            simp only [putsC7, Act.put, List.setIfInBounds_toArray, List.set_cons_zero, List.set_cons_succ]
            go_simp
            refine hK.out _ _ ?_
            refine ⟨f6, f7, f8, f9, true, f11, f12, f13, f14, true, _, _, _, _, _, _, _, _, _, _, _, _, _, _, _, _, _, _, rfl, ?_, HJ.out.as15⟩
            simp only [putsC7, Act.put, List.setIfInBounds_toArray, List.set_cons_zero, List.set_cons_succ]
      case rest =>
        clear zb
        rename World => V
        obtain ⟨g10, g11, p1, c1, p2, c2, p3, c3, p4, c4, rfl, rfl, rfl, v1, v2, ⟨v3, v4, v5, v6⟩, v7⟩ := hcut
        have HBV := hid (HB.out.trans (v7.mono HB.out.size))
        cases bb with
        | false =>
          have HNX := hid (HNEXT.out (by rw [HPK.out]; rfl))
          clear v1 v2 v3 v4 v5 v6 v7
          go_wp2_with fail
          go_roundw
          case rel =>
            first
              | exact ⟨k + 1, by omega, by go_num, HNX.out, HBV.out⟩
              | ((repeat apply Exists.intro); refine ⟨?_, rfl⟩; exact ⟨k + 1, by omega, by go_num, HNX.out, HBV.out⟩)
          case measure => simp [intOf]; omega
        | true =>
          have z1 := two_cells v1
          have HX1 := hid (refAny_ok L XL XH s p1 p2 c'' c1 c2 V (HS.out.below (HB0.out.trans (HBV.out.mono HB0.out.size))) v3 v4 HBL.out)
          have HX2 := hid fun (U : World) (hu : Below V.heap.size V U) => (show (U.heap[g11]? = some (.cells #[.slice p3 YL.length c3, .slice p4 YH.length c4] 35)) ∧ Calls Try.prog 88 #[.slice s L.length c'', .agg #[.slice p3 YL.length c3, .slice p4 YH.length c4]] U fun e w' => e = .returned (.bool (anyIn L YL YH)) ∧ Below U.heap.size U w' from
            ⟨(hu.block _ (heap_lt v2)).trans v2, refAny_ok L YL YH s p3 p4 c'' c3 c4 U (HS.out.below (HB0.out.trans ((HBV.out.trans (hu.mono HBV.out.size)).mono HB0.out.size))) (v5.below hu) (v6.below hu) HBL.out⟩)
          cases y1 : anyIn L XL XH with
          | false =>
            have HNX := hid (HNEXT.out (by rw [HPK.out, y1]; rfl))
            rw [y1] at HX1
            clear v1 v2 v3 v4 v5 v6 v7 y1
            go_wp2_with fail
            refine HX1.out.mono ?_
            rintro e w5 ⟨rfl, hb⟩
            have HB5 := hid (HBV.out.trans (hb.mono HBV.out.size)); clear hb
            go_wp2_with fail
            go_roundw
            case rel =>
              first
                | exact ⟨k + 1, by omega, by go_num, HNX.out, HB5.out⟩
                | ((repeat apply Exists.intro); refine ⟨?_, rfl⟩; exact ⟨k + 1, by omega, by go_num, HNX.out, HB5.out⟩)
            case measure => simp [intOf]; omega
          | true =>
            rw [y1] at HX1
            cases y2 : anyIn L YL YH with
            | false =>
              have HNX := hid (HNEXT.out (by rw [HPK.out, y1, y2]; rfl))
              rw [y2] at HX2
              clear v1 v2 v3 v4 v5 v6 v7 y1 y2
              go_wp2_with fail
              refine HX1.out.mono ?_
              rintro e w5 ⟨rfl, hb⟩
              have HB5 := hid (HBV.out.trans (hb.mono HBV.out.size))
              obtain ⟨z5, z6⟩ := HX2.out _ hb
              have z7 := two_cells z5
              have HX3 := hid z6
              clear hb z5 z6
              go_wp2_with fail
              refine HX3.out.mono ?_
              rintro e w6 ⟨rfl, hb⟩
              have HB6 := hid (HB5.out.trans (hb.mono HB5.out.size)); clear hb
              go_wp2_with fail
              go_roundw
              case rel =>
                first
                  | exact ⟨k + 1, by omega, by go_num, HNX.out, HB6.out⟩
                  | ((repeat apply Exists.intro); refine ⟨?_, rfl⟩; exact ⟨k + 1, by omega, by go_num, HNX.out, HB6.out⟩)
              case measure => simp [intOf]; omega
            | true =>
              have HNX := hid (HTRUE.out (by rw [HPK.out, y1, y2]; rfl))
              rw [y2] at HX2
              clear v1 v2 v3 v4 v5 v6 v7 y1 y2
              go_wp2_with fail
              refine HX1.out.mono ?_
              rintro e w5 ⟨rfl, hb⟩
              have HB5 := hid (HBV.out.trans (hb.mono HBV.out.size))
              obtain ⟨z5, z6⟩ := HX2.out _ hb
              have z7 := two_cells z5
              have HX3 := hid z6
              clear hb z5 z6
              go_wp2_with fail
              refine HX3.out.mono ?_
              rintro e w6 ⟨rfl, hb⟩
              have HB6 := hid (HB0.out.trans ((HB5.out.trans (hb.mono HB5.out.size)).mono HB0.out.size)); clear hb
              go_wp2_with fail
              go_ret2
              rw [HNX.out]
              exact ⟨rfl, HB6.out⟩
    · obtain rfl : n = k := by omega
      have HNONE := hid (cho_none (q := fun a => pick1 lo hi L (a : Int)) HQ.out)
      have HBQ := hid HB.out
      clear HQ HB
      go_wp2_with fail
      go_loopw [13] (fun i wr => CI W (fun a => halfB lo hi (a : Int)) n f i wr) (fun i _ => n - (intOf i).toNat)
      case atStart => exact ⟨0, by omega, rfl, fun j hj => absurd hj (by omega), HBQ.out⟩
      case round =>
        rename World => wi
        obtain ⟨k, hk, rfl, hq, hb⟩ := hrel
        have HQ := hid hq; have HB := hid hb; clear hq hb
        by_cases hlt : k < n
        · obtain ⟨a, ha⟩ : ∃ a, (f + k) % n = a := ⟨_, rfl⟩
          have han : a < n := by rw [← ha]; exact Nat.mod_lt _ (by omega)
          have HA := hid ha
          have e1 : ((f : Int) + (k : Int)) % (n : Int) = (a : Int) := by rw [← ha]; simp
          have e2 : ((f : Int) + (k : Int)).tmod (n : Int) = (a : Int) := by rw [Int.tmod_eq_emod_of_nonneg (by omega)]; exact e1
          have e3 : IntKind.i64.wrap ((f : Int) + (k : Int)) = (f : Int) + (k : Int) := Go.IntWalk.i64_in _ (by omega)
          have e4 : IntKind.i64.wrap (a : Int) = (a : Int) := Go.IntWalk.i64_in _ (by omega)
          have e5 : ((n : Int) == 0) = false := by simp; omega
          have e6 : ¬ n = 0 := by omega
          have HTRUE := hid fun (hp : halfB lo hi (a : Int) = true) => (show chooseN lo hi L f = (a, true) from by rw [HRES.out, HNONE.out, cho_some (q := fun a => halfB lo hi (a : Int)) hlt HQ.out (by show halfB lo hi (((f + k) % n : Nat) : Int) = true; rw [HA.out]; exact hp), HA.out])
          have HNEXT := hid fun (hp : halfB lo hi (a : Int) = false) => (show ∀ j, j < k + 1 → halfB lo hi (((f + j) % n : Nat) : Int) = false from fun j hj => by
            by_cases e : j = k
            · subst e; rw [HA.out]; exact hp
            · exact HQ.out j (by omega))
          have HH := hid fun (V : World) (hb : Below W.heap.size W V) => HHA.out V hb (a : Int)
          unfold HalfPost at HH
          generalize xlo lo hi (a : Int) = XL at *
          generalize xhi lo hi (a : Int) = XH at *
          generalize ylo lo hi (a : Int) = YL at *
          generalize yhi lo hi (a : Int) = YH at *
          generalize halfB lo hi (a : Int) = bb at *
          clear ha
          have zb := HBX.out _ HB.out
          go_upto_region 13 with (fail)
          go_cut [14, 15, 16] (fun s10 s11 s12 wx => TwoP wi XL XH YL YH bb s10 s11 s12 wx)
          case first =>
            refine wp_region_held_drew (S := fun w' => w'.cell? ⟨w.heap.size, 0, none⟩ = some (.slice p n c) ∧ w'.cell? ⟨w.heap.size, 1, none⟩ = some (.slice q hi.length c')) (by kernel_rfl) (by exact (HBX.out _ HB.out.drew)) (fun hHeld => ?_)
            refine wpAnyH_take (i := 0) (oi := { dst := some 71, op := Go.Op.load 35 (Go.Operand.tmp 3), type := 35, pos := "ref.go:79", after := #[], guard := none }) (v := ?vb0) rfl (by kernel_rfl) (by kernel_rfl) (by kernel_rfl) (fun _ _ _ h => h) (Or.inl ⟨by rfl, ?hyb0⟩) (by assumption) ?restb0
            case hyb0 => (intro w hSw; (try dsimp only at hSw); go_simp; (try with_reducible rfl))
            simp only [Act.put, List.setIfInBounds_toArray, List.set_cons_zero, List.set_cons_succ]
            refine wpAnyH_take (i := 1) (oi := { dst := some 72, op := Go.Op.move (Go.Operand.tmp 2), type := 3, pos := "ref.go:79", after := #[], guard := none }) (v := ?vb1) rfl (by kernel_rfl) (by kernel_rfl) (by kernel_rfl) (fun _ _ _ h => h) (Or.inl ⟨by rfl, ?hyb1⟩) (by assumption) ?restb1
            case hyb1 => (intro w hSw; (try dsimp only at hSw); go_simp; (try with_reducible rfl))
            simp only [Act.put, List.setIfInBounds_toArray, List.set_cons_zero, List.set_cons_succ]
            refine wpAnyH_take (i := 2) (oi := { dst := some 73, op := Go.Op.move (Go.Operand.tmp 13), type := 3, pos := "ref.go:79", after := #[], guard := none }) (v := ?vb2) rfl (by kernel_rfl) (by kernel_rfl) (by kernel_rfl) (fun _ _ _ h => h) (Or.inl ⟨by rfl, ?hyb2⟩) (by assumption) ?restb2
            case hyb2 => (intro w hSw; (try dsimp only at hSw); go_simp; (try with_reducible rfl))
            simp only [Act.put, List.setIfInBounds_toArray, List.set_cons_zero, List.set_cons_succ]
            refine wpAnyH_take (i := 3) (oi := { dst := some 74, op := Go.Op.binOp Go.BinOp.add 3 (Go.Operand.tmp 72) (Go.Operand.tmp 73) 3, type := 3, pos := "ref.go:79", after := #[{ on := 1, ground := Go.Ground.data }, { on := 2, ground := Go.Ground.data }], guard := none }) (v := ?vb3) rfl (by kernel_rfl) (by kernel_rfl) (by kernel_rfl) (fun _ _ _ h => h) (Or.inl ⟨by rfl, ?hyb3⟩) (by assumption) ?restb3
            case hyb3 => (intro w hSw; (try dsimp only at hSw); go_simp; (try with_reducible rfl))
            simp only [Act.put, List.setIfInBounds_toArray, List.set_cons_zero, List.set_cons_succ]
            refine wpAnyH_take (i := 4) (oi := { dst := some 75, op := Go.Op.move (Go.Operand.tmp 8), type := 3, pos := "ref.go:79", after := #[], guard := none }) (v := ?vb4) rfl (by kernel_rfl) (by kernel_rfl) (by kernel_rfl) (fun _ _ _ h => h) (Or.inl ⟨by rfl, ?hyb4⟩) (by assumption) ?restb4
            case hyb4 => (intro w hSw; (try dsimp only at hSw); go_simp; (try with_reducible rfl))
            simp only [Act.put, List.setIfInBounds_toArray, List.set_cons_zero, List.set_cons_succ]
            refine wpAnyH_take (i := 5) (oi := { dst := some 76, op := Go.Op.binOp Go.BinOp.rem 3 (Go.Operand.tmp 74) (Go.Operand.tmp 75) 3, type := 3, pos := "ref.go:79", after := #[{ on := 3, ground := Go.Ground.data }, { on := 4, ground := Go.Ground.data }], guard := none }) (v := ?vb5) rfl (by kernel_rfl) (by kernel_rfl) (by kernel_rfl) (fun _ _ _ h => h) (Or.inl ⟨by rfl, ?hyb5⟩) (by assumption) ?restb5
            case hyb5 => (intro w hSw; (try dsimp only at hSw); go_simp; (try with_reducible rfl))
            simp only [Act.put, List.setIfInBounds_toArray, List.set_cons_zero, List.set_cons_succ]
            refine inv_start fun A0 hA0 => ?_
            refine wpAnyH_inv (fun l a v => ∃ f6 f7 f8 f9 f10 f11 f12 f13 f14 f15 u45 u38 u46 u47 u48 u10 u11 u12 p1 c1 p2 c2 p3 c3 p4 c4 g10 g11, l = #[true, true, true, true, true, true, f6, f7, f8, f9, f10, f11, f12, f13, f14, f15] ∧ a = putsC13 A0 u45 u38 u46 u47 u48 u10 u11 u12 ∧ LL wi XL XH YL YH bb f6 f7 f8 f9 f10 f11 f12 f13 f14 f15 u45 u38 u46 u47 u48 u10 u11 u12 p1 c1 p2 c2 p3 c3 p4 c4 g10 g11 v) ?hS ?hst ?hen _ _ _ _ ?hI ?hl
            case hS =>
              rintro l a v ⟨_, _, _, _, _, _, _, _, _, _, _, _, _, _, _, _, _, _, _, _, _, _, _, _, _, _, _, _, _, _, hj⟩
              exact HBX.out _ (HB.out.trans (hj.below.mono HB.out.size))
            case hI =>
              exact ⟨false, false, false, false, false, false, false, false, false, false, u77, u70, u78, u79, u80, u14, u15, u16, none, 0, none, 0, none, 0, none, 0, 0, 0, rfl, by rw [hA0]; simp only [putsC13, Act.put, List.setIfInBounds_toArray, List.set_cons_zero, List.set_cons_succ], ⟨(Below.refl _ _).drew, nofun, nofun, nofun, nofun, nofun, nofun, nofun, nofun, ⟨nofun, nofun⟩, nofun, nofun, nofun⟩⟩
            case hl => decide
            case hen =>
              rintro l a v ⟨f6, f7, f8, f9, f10, f11, f12, f13, f14, f15, u45, u38, u46, u47, u48, u10, u11, u12, p1, c1, p2, c2, p3, c3, p4, c4, g10, g11, rfl, rfl, hj⟩ hr
              obtain ⟨rfl, rfl, rfl, rfl, rfl, rfl, rfl, rfl, rfl, rfl⟩ := doneC13 _ _ _ _ _ _ _ _ _ _ hr
              have HJ := hid hj.fin
              clear hj hr
              subst hA0
              simp only [putsC13, Act.put, List.setIfInBounds_toArray, List.set_cons_zero, List.set_cons_succ]
              go_wp2_with fail
              go_meet
              exact HJ.out
            case hst =>
              rintro l a v i ⟨f6, f7, f8, f9, f10, f11, f12, f13, f14, f15, u45, u38, u46, u47, u48, u10, u11, u12, p1, c1, p2, c2, p3, c3, p4, c4, g10, g11, rfl, rfl, hj⟩ hi
              have HJ := hid hj
              have HBv := hid (HB.out.trans (hj.below.mono HB.out.size))
              clear hj
              rcases readyC13 _ _ _ _ _ _ _ _ _ _ _ hi with ⟨rfl, rfl⟩ | ⟨rfl, rfl, rfl⟩ | ⟨rfl, rfl, rfl⟩ | ⟨rfl, rfl, rfl⟩ | ⟨rfl, rfl, rfl⟩ | ⟨rfl, rfl⟩ | ⟨rfl, rfl⟩ | ⟨rfl, rfl, rfl, rfl, rfl, rfl⟩ | ⟨rfl, rfl, rfl, rfl, rfl, rfl⟩ | ⟨rfl, rfl, rfl⟩
              all_goals clear hi
              · refine op_step (i := 6) (o := { dst := some 77, op := Go.Op.call { callee := Go.Callee.value (Go.Operand.func 46), args := #[Go.Operand.tmp 71, Go.Operand.tmp 76], argTypes := #[35, 3] }, type := 73, pos := "ref.go:79", after := #[{ on := 0, ground := Go.Ground.data }, { on := 5, ground := Go.Ground.data }], guard := none }) rfl (fun K hK => ?_)
                subst hA0
                simp only [putsC13, Act.put, List.setIfInBounds_toArray, List.set_cons_zero, List.set_cons_succ]
                go_simp
                go_at_call 46
                refine (HH.out _ HBv.out).mono ?_
                rintro e w4 ⟨q1, d1, q2, d2, q3, d3, q4, d4, rfl, h1, h2, h3, h4, hb⟩
                refine hK.out _ _ ?_
                refine ⟨true, f7, f8, f9, f10, f11, f12, f13, f14, f15, _, _, _, _, _, _, _, _, _, d1, _, d2, _, d3, _, d4, _, _, rfl, ?_, HJ.out.call h1 h2 h3 h4 hb⟩
                simp only [putsC13, Act.put, List.setIfInBounds_toArray, List.set_cons_zero, List.set_cons_succ]
              · refine op_step (i := 7) (o := { dst := some 70, op := Go.Op.move (Go.Operand.tmp 77), type := 73, pos := "ref.go:79", after := #[{ on := 6, ground := Go.Ground.data }], guard := none }) rfl (fun K hK => ?_)
                subst hA0
                simp only [putsC13, Act.put, List.setIfInBounds_toArray, List.set_cons_zero, List.set_cons_succ]
                go_simp
                refine hK.out _ _ ?_
                refine ⟨true, true, f8, f9, f10, f11, f12, f13, f14, f15, _, _, _, _, _, _, _, _, _, _, _, _, _, _, _, _, _, _, rfl, ?_, HJ.out.mv⟩
                simp only [putsC13, Act.put, List.setIfInBounds_toArray, List.set_cons_zero, List.set_cons_succ]
              · refine op_step (i := 8) (o := { dst := some 78, op := Go.Op.extract (Go.Operand.tmp 70) 0, type := 35, pos := "ref.go:79", after := #[{ on := 7, ground := Go.Ground.data }], guard := none }) rfl (fun K hK => ?_)
                subst hA0
                have ek7 := (HJ.out.k7 rfl).2
                simp only [putsC13, Act.put, List.setIfInBounds_toArray, List.set_cons_zero, List.set_cons_succ]
                rw [ek7]
                go_simp
                refine hK.out _ _ ?_
                refine ⟨f6, true, true, f9, f10, f11, f12, f13, f14, f15, _, _, _, _, _, _, _, _, _, _, _, _, _, _, _, _, _, _, rfl, ?_, HJ.out.ex8⟩
                simp only [ek7, putsC13, Act.put, List.setIfInBounds_toArray, List.set_cons_zero, List.set_cons_succ]
              · refine op_step (i := 9) (o := { dst := some 79, op := Go.Op.extract (Go.Operand.tmp 70) 1, type := 35, pos := "ref.go:79", after := #[{ on := 7, ground := Go.Ground.data }, { on := 13, ground := Go.Ground.gcOnly Go.Departure.lateStores }], guard := none }) rfl (fun K hK => ?_)
                subst hA0
                have ek7 := (HJ.out.k7 rfl).2
                simp only [putsC13, Act.put, List.setIfInBounds_toArray, List.set_cons_zero, List.set_cons_succ]
                rw [ek7]
                go_simp
                refine hK.out _ _ ?_
                refine ⟨f6, true, f8, true, f10, f11, f12, f13, f14, f15, _, _, _, _, _, _, _, _, _, _, _, _, _, _, _, _, _, _, rfl, ?_, HJ.out.ex9⟩
                simp only [ek7, putsC13, Act.put, List.setIfInBounds_toArray, List.set_cons_zero, List.set_cons_succ]
              · refine op_step (i := 10) (o := { dst := some 80, op := Go.Op.extract (Go.Operand.tmp 70) 2, type := 4, pos := "ref.go:79", after := #[{ on := 7, ground := Go.Ground.data }, { on := 14, ground := Go.Ground.gcOnly Go.Departure.lateStores }], guard := none }) rfl (fun K hK => ?_)
                subst hA0
                have ek7 := (HJ.out.k7 rfl).2
                simp only [putsC13, Act.put, List.setIfInBounds_toArray, List.set_cons_zero, List.set_cons_succ]
                rw [ek7]
                go_simp
                refine hK.out _ _ ?_
                refine ⟨f6, true, f8, f9, true, f11, f12, f13, f14, f15, _, _, _, _, _, _, _, _, _, _, _, _, _, _, _, _, _, _, rfl, ?_, HJ.out.ex10⟩
                simp only [ek7, putsC13, Act.put, List.setIfInBounds_toArray, List.set_cons_zero, List.set_cons_succ]
              · refine op_step (i := 11) (o := { dst := some 14, op := Go.Op.alloc 35, type := 0, pos := "ref.go:79", after := #[], guard := none }) rfl (fun K hK => ?_)
                subst hA0
                simp only [putsC13, Act.put, List.setIfInBounds_toArray, List.set_cons_zero, List.set_cons_succ]
                go_simp
                refine hK.out _ _ ?_
                refine ⟨f6, f7, f8, f9, f10, true, f12, f13, f14, f15, _, _, _, _, _, _, _, _, _, _, _, _, _, _, _, _, _, _, rfl, ?_, HJ.out.al11⟩
                simp only [putsC13, Act.put, List.setIfInBounds_toArray, List.set_cons_zero, List.set_cons_succ]
              · refine op_step (i := 12) (o := { dst := some 15, op := Go.Op.alloc 35, type := 0, pos := "ref.go:79", after := #[], guard := none }) rfl (fun K hK => ?_)
                subst hA0
                simp only [putsC13, Act.put, List.setIfInBounds_toArray, List.set_cons_zero, List.set_cons_succ]
                go_simp
                refine hK.out _ _ ?_
                refine ⟨f6, f7, f8, f9, f10, f11, true, f13, f14, f15, _, _, _, _, _, _, _, _, _, _, _, _, _, _, _, _, _, _, rfl, ?_, HJ.out.al12⟩
                simp only [putsC13, Act.put, List.setIfInBounds_toArray, List.set_cons_zero, List.set_cons_succ]
              · refine op_step (i := 13) (o := { dst := none, op := Go.Op.store 35 (Go.Operand.tmp 14) (Go.Operand.tmp 78), type := 0, pos := "ref.go:79", after := #[{ on := 11, ground := Go.Ground.data }, { on := 8, ground := Go.Ground.data }, { on := 6, ground := Go.Ground.chain }, { on := 0, ground := Go.Ground.phase }, { on := 1, ground := Go.Ground.phase }, { on := 2, ground := Go.Ground.phase }, { on := 3, ground := Go.Ground.phase }, { on := 4, ground := Go.Ground.phase }, { on := 5, ground := Go.Ground.phase }, { on := 6, ground := Go.Ground.phase }, { on := 7, ground := Go.Ground.phase }, { on := 8, ground := Go.Ground.phase }, { on := 9, ground := Go.Ground.textOnly Go.Departure.lateStores }, { on := 10, ground := Go.Ground.textOnly Go.Departure.lateStores }, { on := 11, ground := Go.Ground.phase }, { on := 12, ground := Go.Ground.phase }], guard := none }) rfl (fun K hK => ?_)
                subst hA0
                have ek11 := (HJ.out.k11 rfl).1
                have ek8 := (HJ.out.k8 rfl).2
                have zz := HJ.out.zero13
                simp only [putsC13, Act.put, List.setIfInBounds_toArray, List.set_cons_zero, List.set_cons_succ]
                rw [ek11, ek8]
                go_simp
                refine hK.out _ _ ?_
                refine ⟨true, f7, true, f9, f10, true, true, true, f14, f15, _, _, _, _, _, _, _, _, _, _, _, _, _, _, _, _, _, _, rfl, ?_, HJ.out.st13⟩
                simp only [ek11, ek8, putsC13, Act.put, List.setIfInBounds_toArray, List.set_cons_zero, List.set_cons_succ]
              · refine op_step (i := 14) (o := { dst := none, op := Go.Op.store 35 (Go.Operand.tmp 15) (Go.Operand.tmp 79), type := 0, pos := "ref.go:79", after := #[{ on := 12, ground := Go.Ground.data }, { on := 9, ground := Go.Ground.data }, { on := 13, ground := Go.Ground.chain }, { on := 0, ground := Go.Ground.phase }, { on := 1, ground := Go.Ground.phase }, { on := 2, ground := Go.Ground.phase }, { on := 3, ground := Go.Ground.phase }, { on := 4, ground := Go.Ground.phase }, { on := 5, ground := Go.Ground.phase }, { on := 6, ground := Go.Ground.phase }, { on := 7, ground := Go.Ground.phase }, { on := 8, ground := Go.Ground.phase }, { on := 9, ground := Go.Ground.phase }, { on := 10, ground := Go.Ground.textOnly Go.Departure.lateStores }, { on := 11, ground := Go.Ground.phase }, { on := 12, ground := Go.Ground.phase }, { on := 13, ground := Go.Ground.phase }], guard := none }) rfl (fun K hK => ?_)
                subst hA0
                have ek12 := (HJ.out.k12 rfl).1
                have ek9 := (HJ.out.k9 rfl).2
                have zz := HJ.out.zero14
                simp only [putsC13, Act.put, List.setIfInBounds_toArray, List.set_cons_zero, List.set_cons_succ]
                rw [ek12, ek9]
                go_simp
                refine hK.out _ _ ?_
                refine ⟨true, f7, f8, true, f10, f11, true, true, true, f15, _, _, _, _, _, _, _, _, _, _, _, _, _, _, _, _, _, _, rfl, ?_, HJ.out.st14⟩
                simp only [ek12, ek9, putsC13, Act.put, List.setIfInBounds_toArray, List.set_cons_zero, List.set_cons_succ]
              · refine op_step (i := 15) (o := { dst := some 16, op := Go.Op.assign (Go.Operand.tmp 80), type := 4, pos := "ref.go:79", after := #[{ on := 10, ground := Go.Ground.data }, { on := 14, ground := Go.Ground.chain }, { on := 0, ground := Go.Ground.phase }, { on := 1, ground := Go.Ground.phase }, { on := 2, ground := Go.Ground.phase }, { on := 3, ground := Go.Ground.phase }, { on := 4, ground := Go.Ground.phase }, { on := 5, ground := Go.Ground.phase }, { on := 6, ground := Go.Ground.phase }, { on := 7, ground := Go.Ground.phase }, { on := 8, ground := Go.Ground.phase }, { on := 9, ground := Go.Ground.phase }, { on := 10, ground := Go.Ground.phase }, { on := 11, ground := Go.Ground.phase }, { on := 12, ground := Go.Ground.phase }, { on := 13, ground := Go.Ground.phase }, { on := 14, ground := Go.Ground.phase }], guard := none }) rfl (fun K hK => ?_)
                subst hA0
                simp only [putsC13, Act.put, List.setIfInBounds_toArray, List.set_cons_zero, List.set_cons_succ]
                go_simp
                refine hK.out _ _ ?_
                refine ⟨f6, f7, f8, f9, true, f11, f12, f13, f14, true, _, _, _, _, _, _, _, _, _, _, _, _, _, _, _, _, _, _, rfl, ?_, HJ.out.as15⟩
                simp only [putsC13, Act.put, List.setIfInBounds_toArray, List.set_cons_zero, List.set_cons_succ]
          case rest =>
            clear zb
            rename World => V
            obtain ⟨g10, g11, p1, c1, p2, c2, p3, c3, p4, c4, rfl, rfl, rfl, v1, v2, ⟨v3, v4, v5, v6⟩, v7⟩ := hcut
            have HBV := hid (HB.out.trans (v7.mono HB.out.size))
            clear v1 v2 v3 v4 v5 v6 v7
            cases bb with
            | false =>
              have HNX := hid (HNEXT.out rfl)
              go_wp2_with fail
              go_roundw
              case rel =>
                first
                  | exact ⟨k + 1, by omega, by go_num, HNX.out, HBV.out⟩
                  | ((repeat apply Exists.intro); refine ⟨?_, rfl⟩; exact ⟨k + 1, by omega, by go_num, HNX.out, HBV.out⟩)
              case measure => simp [intOf]; omega
            | true =>
              have HNX := hid (HTRUE.out rfl)
              have HB6 := hid (HB0.out.trans (HBV.out.mono HB0.out.size))
              go_wp2_with fail
              go_ret2
              rw [HNX.out]
              exact ⟨rfl, HB6.out⟩
        · obtain rfl : n = k := by omega
          have HNONE2 := hid (cho_none (q := fun a => halfB lo hi (a : Int)) HQ.out)
          have HX : Hid (chooseN lo hi L f = (0, false)) := hid (by rw [HRES.out, HNONE.out, HNONE2.out])
          have HB6 := hid (HB0.out.trans (HB.out.mono HB0.out.size))
          go_wp2_with fail
          go_ret2
          rw [HX.out]
          exact ⟨rfl, HB6.out⟩
theorem no_choose {lo hi : List Nat} {L : List Rec} {a : Int} (h : boxB lo hi (lo.length : Int) = false) : chooseR lo hi L a = (0, false) := by
  have h1 : ∀ x : Int, halfB lo hi x = false := fun x => by unfold halfB; rw [h, Bool.false_and]
  have h2 : ∀ x : Int, pick1 lo hi L x = false := fun x => by unfold pick1; rw [h1, Bool.false_and]
  unfold chooseR
  split
  · unfold chooseN
    rw [cho_none (fun i _ => h2 _), cho_none (fun i _ => h1 _)]
  · rfl
set_option maxRecDepth 100000 in
set_option maxHeartbeats 2000000 in
theorem refChoose_no (lo hi : List Nat) (L : List Rec) (p q s : Option Addr) (c c' c'' : Nat) (a : Int) (w : World) (hp : Pt w p lo) (hq : Pt w q hi) (hl : lo.length ≤ 1000000) (h : ¬ (boxB lo hi (lo.length : Int) = true ∧ 0 ≤ a ∧ a < (lo.length : Int))) :
    Calls Try.prog 48 #[.agg #[.slice p lo.length c, .slice q hi.length c'], .slice s L.length c'', .int .i64 a] w (ChoPost w (chooseR lo hi L a)) := by
  obtain ⟨V, hV⟩ : ∃ V, w.alloc (.cells #[Value.slice p lo.length c, .slice q hi.length c'] 35) = V := ⟨_, rfl⟩
  have hb0 : Below w.heap.size w V := by rw [← hV]; exact below_alloc _ _
  have hvv := two_cells (show V.heap[w.heap.size]? = some (.cells #[Value.slice p lo.length c, .slice q hi.length c'] 35) by rw [← hV]; exact heap_alloc_new _ _)
  have HCK := hid (refCheckBox_ok lo hi p q c c' (lo.length : Int) V (hp.below hb0) (hq.below hb0) (by omega))
  have HB0 := hid hb0
  have x0 := hvv.1; have x1 := hvv.2.1
  cases hbx : boxB lo hi (lo.length : Int) with
  | false =>
    have HR := hid (no_choose (L := L) (a := a) hbx)
    rw [hbx, err_false false rfl] at HCK
    clear hp hq hl h hb0 hvv hbx
    go_enter Try.func48, Try.ntmps48
    go_wp2_with fail
    refine HCK.out.mono ?_
    rintro e W ⟨rfl, hbw⟩
    have HB1 := hid (HB0.out.trans (hbw.mono HB0.out.size)); clear hbw
    go_wp2_with fail
    go_ret2
    rw [HR.out]
    exact ⟨rfl, HB1.out⟩
  | true =>
    have HR : Hid (chooseR lo hi L a = (0, false)) := hid (by unfold chooseR; rw [if_neg (fun h1 => h ⟨hbx, h1⟩)])
    rw [hbx, err_true true rfl] at HCK
    by_cases ha : a < 0
    · have e1 : decide (a < 0) = true := by simpa using ha
      clear hp hq hl h hb0 hvv hbx ha
      go_enter Try.func48, Try.ntmps48
      go_wp2_with fail
      refine HCK.out.mono ?_
      rintro e W ⟨rfl, hbw⟩
      have HB1 := hid (HB0.out.trans (hbw.mono HB0.out.size)); clear hbw
      go_wp2_with fail
      go_ret2
      rw [HR.out]
      exact ⟨rfl, HB1.out⟩
    · have e1 : decide (a < 0) = false := by simpa using ha
      have e2 : decide ((lo.length : Int) ≤ a) = true := by
        have : ¬ a < (lo.length : Int) := fun h1 => h ⟨hbx, by omega, h1⟩
        simp; omega
      clear hp hq hl h hb0 hvv hbx ha
      go_enter Try.func48, Try.ntmps48
      go_wp2_with fail
      refine HCK.out.mono ?_
      rintro e W ⟨rfl, hbw⟩
      have HB1 := hid (HB0.out.trans (hbw.mono HB0.out.size)); clear hbw
      go_wp2_with fail
      go_ret2
      rw [HR.out]
      exact ⟨rfl, HB1.out⟩
theorem refChoose_ok {D : Nat → Prop} (lo hi : List Nat) (L : List Rec) (p q s : Option Addr) (c c' c'' : Nat) (a : Int) (w : World) (hp : Pt w p lo) (hq : Pt w q hi) (hs : Rs D w s L) (hl : lo.length ≤ 1000000) (hL : bigR L) :
    Calls Try.prog 48 #[.agg #[.slice p lo.length c, .slice q hi.length c'], .slice s L.length c'', .int .i64 a] w (ChoPost w (chooseR lo hi L a)) := by
  by_cases h : boxB lo hi (lo.length : Int) = true ∧ 0 ≤ a ∧ a < (lo.length : Int)
  · obtain ⟨h1, h2, h3⟩ := h
    obtain ⟨f, rfl⟩ : ∃ f : Nat, a = (f : Int) := ⟨a.toNat, by omega⟩
    rw [show chooseR lo hi L (f : Int) = chooseN lo hi L f by unfold chooseR; rw [if_pos ⟨h2, h3⟩]; rfl]
    exact refChoose_go lo hi L p q s c c' c'' f w hp hq hs hl hL (by omega) h1
  · exact refChoose_no lo hi L p q s c c' c'' a w hp hq hl h
end Go.Proofs.Ytkjcbfdplhcjpaa.Pt

