/- The laws on requests, walked. -/
import Derived.Test.YtolnbamdddiifaaRqLive
import Derived.Test.YtolnbamdddiifaaRqOpn
namespace Go.Proofs.Ytolnbamdddiifaa.Rq
open Go.RowKit
open Go.Lib (hid)
open Go.Proofs.Ytolnbamdddiifaa.Ky
open Go.Proofs.Ytolnbamdddiifaa.Bk
def QD.rq (d : QD) : Rq := ⟨d.a0, d.p1, d.l1, d.c1, d.t2, d.p3, d.l3, d.c3, d.q3, d.h3, d.e3, d.p4, d.l4, d.c4, d.a5, d.p6, d.l6, d.c6⟩
theorem QD.eq (d : QD) : d.cells.toArray = d.rq.cells := rfl
theorem QD.raw {d : QD} {w : World} (h : d.Ok w) : d.rq.Raw w := ⟨h.f1.1, h.f3.1, h.f3.2.1, h.f4.1, h.f6.1, h.f6.2⟩
/-- a record of a request's eight cells stands there -/
structure Rc8 (w : World) (g : Nat) (r : Rq) : Prop where
  row : w.heap[g]? = some (.cells r.cells 29 (0, 0))
theorem Rc8.below {w w' : World} {g : Nat} {r : Rq} (h : Rc8 w g r) (hb : Below w.heap.size w w') : Rc8 w' g r := ⟨(hb.block _ (Array.getElem?_eq_some_iff.1 h.row).1).trans h.row⟩
theorem Rc8.cells {w : World} {g : Nat} {what : Int} {kp : Option Addr} {kl : List Nat} {kc : Nat} {data : ByteArray} {lp : Option Addr} {lo : List Nat} {lc : Nat} {hp : Option Addr} {hi : List Nat} {hc : Nat} {ap : Option Addr} {at_ : List Int} {ac : Nat} {most : Int} {rp : Option Addr} {rs : List Rec} {rc : Nat} (h : Rc8 w g ⟨what, kp, kl, kc, data, lp, lo, lc, hp, hi, hc, ap, at_, ac, most, rp, rs, rc⟩) : w.cell? ⟨g, 0, none⟩ = some (.int .i64 what) ∧ w.cell? ⟨g, 1, none⟩ = some (.slice kp kl.length kc) ∧ w.cell? ⟨g, 2, none⟩ = some (.string data) ∧ w.cell? ⟨g, 3, none⟩ = some (.slice lp lo.length lc) ∧ w.cell? ⟨g, 4, none⟩ = some (.slice hp hi.length hc) ∧ w.cell? ⟨g, 5, none⟩ = some (.slice ap at_.length ac) ∧ w.cell? ⟨g, 6, none⟩ = some (.int .i64 most) ∧ w.cell? ⟨g, 7, none⟩ = some (.slice rp rs.length rc) := by
  have hx := h.row
  exact ⟨by rw [cell_of_row _ _ _ _ _ _ hx]; rfl, by rw [cell_of_row _ _ _ _ _ _ hx]; rfl, by rw [cell_of_row _ _ _ _ _ _ hx]; rfl, by rw [cell_of_row _ _ _ _ _ _ hx]; rfl, by rw [cell_of_row _ _ _ _ _ _ hx]; rfl, by rw [cell_of_row _ _ _ _ _ _ hx]; rfl, by rw [cell_of_row _ _ _ _ _ _ hx]; rfl, by rw [cell_of_row _ _ _ _ _ _ hx]; rfl⟩
theorem Rc8.what {w : World} {g : Nat} {r : Rq} (h : Rc8 w g r) : w.cell? ⟨g, 0, none⟩ = some (.int .i64 r.what) := by
  rw [cell_of_row _ _ _ _ _ _ h.row]; rfl
set_option maxRecDepth 100000 in
set_option maxHeartbeats 8000000 in
theorem closed_big (r : Rq) (d : Int) (inside : Bool) (w : World) (h : r.Raw w) (hs : r.small = false) : Calls Try.prog 4 #[.agg r.cells, .int .i64 d, .bool inside] w fun e w' => e = .returned (.bool true) ∧ Below w.heap.size w w' := by
  have HSM := hid fun (V : World) (hV : Below w.heap.size w V) => small_ok r V (h.below hV)
  have HR := hid fun (V : World) (hV : Below w.heap.size w V) => h.below hV
  obtain ⟨V0, hV0⟩ : ∃ V0, w.alloc (.cells r.cells 29) = V0 := ⟨_, rfl⟩
  have HB0 := hid (show Below w.heap.size w V0 by rw [← hV0]; exact below_alloc _ _)
  have HX0 := hid (show Rc8 V0 w.heap.size r from ⟨by rw [← hV0]; exact heap_alloc_new _ _⟩)
  clear h
  obtain ⟨what, kp, kl, kc, data, lp, lo, lc, hp, hi, hc, ap, at_, ac, most, rp, rs, rc⟩ := r
  dsimp only [Rq.cells] at *
  go_enter Try.func4, Try.ntmps4
  have hxx := HX0.out
  obtain ⟨y0, y1, y2, y3, y4, y5, y6, y7⟩ := hxx.cells
  clear hxx
  rw [hs] at HSM
  clear hs
  go_wp2_with fail
  clear hV0
  refine (HSM.out _ HB0.out).mono ?_
  rintro e w1 ⟨rfl, hb⟩
  have HB1 := hid (HB0.out.trans (hb.mono HB0.out.size))
  have HX1 := hid (HX0.out.below hb)
  clear hb y0 y1 y2 y3 y4 y5 y6 y7
  obtain ⟨y0, y1, y2, y3, y4, y5, y6, y7⟩ := HX1.out.cells
  go_wp2_with fail
  refine (live_any _).mono ?_
  rintro e w99 ⟨rfl, hb⟩
  have HB99 := hid (HB1.out.trans (hb.mono HB1.out.size))
  clear hb
  go_wp2_with fail
  go_ret
  exact ⟨rfl, HB99.out⟩
set_option maxRecDepth 100000 in
set_option maxHeartbeats 8000000 in
theorem closed_9 (r : Rq) (d : Int) (inside : Bool) (w : World) (h : r.Raw w) (hs : r.small = true) (hw : r.what = 9) : Calls Try.prog 4 #[.agg r.cells, .int .i64 d, .bool inside] w fun e w' => e = .returned (.bool true) ∧ Below w.heap.size w w' := by
  have hat := h.at hs
  have HCT := hid fun (V : World) (hV : Below w.heap.size w V) => check_any r d true true V (hat.below hV)
  have HCF := hid fun (V : World) (hV : Below w.heap.size w V) => check_any r d true false V (hat.below hV)
  have HCN := hid fun (V : World) (hV : Below w.heap.size w V) => check_any r d false inside V (hat.below hV)
  have HOW := hid fun (V : World) => own_ok r V
  have e1 : r.may d true true = (mayB d && false) := by simp [Rq.may, Rq.must, hw]
  have e2 : r.may d true false = (mayB d && true) := by simp [Rq.may, Rq.must, hw]
  have e3 : r.may d false inside = false := rfl
  rw [e1] at HCT
  rw [e2] at HCF
  rw [e3, err_false false rfl] at HCN
  clear e1 e2 e3
  have HSM := hid fun (V : World) (hV : Below w.heap.size w V) => small_ok r V (h.below hV)
  obtain ⟨V0, hV0⟩ : ∃ V0, w.alloc (.cells r.cells 29) = V0 := ⟨_, rfl⟩
  have HB0 := hid (show Below w.heap.size w V0 by rw [← hV0]; exact below_alloc _ _)
  have HX0 := hid (show Rc8 V0 w.heap.size r from ⟨by rw [← hV0]; exact heap_alloc_new _ _⟩)
  clear h
  obtain ⟨what, kp, kl, kc, data, lp, lo, lc, hp, hi, hc, ap, at_, ac, most, rp, rs, rc⟩ := r
  dsimp only at hw
  subst hw
  dsimp only [Rq.cells] at *
  by_cases c1 : 1 ≤ d
  case neg =>
    have g1 : decide (1 ≤ d) = false := decide_eq_false c1
    have gm : mayB d = false := by simp [mayB]; omega
    rw [gm] at HCT HCF
    clear c1 gm
    go_enter Try.func4, Try.ntmps4
    have hxx := HX0.out
    obtain ⟨y0, y1, y2, y3, y4, y5, y6, y7⟩ := hxx.cells
    clear hxx
    rw [hs] at HSM
    clear hs hat
    go_wp2_with fail
    clear hV0
    refine (HSM.out _ HB0.out).mono ?_
    rintro e w1 ⟨rfl, hb⟩
    have HB1 := hid (HB0.out.trans (hb.mono HB0.out.size))
    have HX1 := hid (HX0.out.below hb)
    clear hb y0 y1 y2 y3 y4 y5 y6 y7
    obtain ⟨y0, y1, y2, y3, y4, y5, y6, y7⟩ := HX1.out.cells
    go_wp2_with fail
    refine (HOW.out _).mono ?_
    rintro e w2 ⟨rfl, hb⟩
    have HB2 := hid (HB1.out.trans (hb.mono HB1.out.size))
    have HX2 := hid (HX1.out.below hb)
    clear hb y0 y1 y2 y3 y4 y5 y6 y7
    obtain ⟨y0, y1, y2, y3, y4, y5, y6, y7⟩ := HX2.out.cells
    go_wp2_with fail
    refine (HCT.out _ HB2.out).mono ?_
    rintro e w3 ⟨rfl, hb⟩
    have HB3 := hid (HB2.out.trans (hb.mono HB2.out.size))
    have HX3 := hid (HX2.out.below hb)
    clear hb y0 y1 y2 y3 y4 y5 y6 y7
    obtain ⟨y0, y1, y2, y3, y4, y5, y6, y7⟩ := HX3.out.cells
    go_wp2_with fail
    refine (HOW.out _).mono ?_
    rintro e w4 ⟨rfl, hb⟩
    have HB4 := hid (HB3.out.trans (hb.mono HB3.out.size))
    have HX4 := hid (HX3.out.below hb)
    clear hb y0 y1 y2 y3 y4 y5 y6 y7
    obtain ⟨y0, y1, y2, y3, y4, y5, y6, y7⟩ := HX4.out.cells
    go_wp2_with fail
    refine (HCF.out _ HB4.out).mono ?_
    rintro e w5 ⟨rfl, hb⟩
    have HB5 := hid (HB4.out.trans (hb.mono HB4.out.size))
    have HX5 := hid (HX4.out.below hb)
    clear hb y0 y1 y2 y3 y4 y5 y6 y7
    obtain ⟨y0, y1, y2, y3, y4, y5, y6, y7⟩ := HX5.out.cells
    go_wp2_with fail
    refine (HOW.out _).mono ?_
    rintro e w6 ⟨rfl, hb⟩
    have HB6 := hid (HB5.out.trans (hb.mono HB5.out.size))
    have HX6 := hid (HX5.out.below hb)
    clear hb y0 y1 y2 y3 y4 y5 y6 y7
    obtain ⟨y0, y1, y2, y3, y4, y5, y6, y7⟩ := HX6.out.cells
    go_wp2_with fail
    refine (HCN.out _ HB6.out).mono ?_
    rintro e w7 ⟨rfl, hb⟩
    have HB7 := hid (HB6.out.trans (hb.mono HB6.out.size))
    have HX7 := hid (HX6.out.below hb)
    clear hb y0 y1 y2 y3 y4 y5 y6 y7
    obtain ⟨y0, y1, y2, y3, y4, y5, y6, y7⟩ := HX7.out.cells
    go_wp2_with fail
    refine (live_any _).mono ?_
    rintro e w99 ⟨rfl, hb⟩
    have HB99 := hid (HB7.out.trans (hb.mono HB7.out.size))
    clear hb
    go_wp2_with fail
    go_ret
    exact ⟨rfl, HB99.out⟩
  by_cases c2 : d ≤ 6
  case neg =>
    have g1 : decide (1 ≤ d) = true := decide_eq_true c1
    have g2 : decide (d ≤ 6) = false := decide_eq_false c2
    have gm : mayB d = false := by simp [mayB]; omega
    rw [gm] at HCT HCF
    clear c1 c2 gm
    go_enter Try.func4, Try.ntmps4
    have hxx := HX0.out
    obtain ⟨y0, y1, y2, y3, y4, y5, y6, y7⟩ := hxx.cells
    clear hxx
    rw [hs] at HSM
    clear hs hat
    go_wp2_with fail
    clear hV0
    refine (HSM.out _ HB0.out).mono ?_
    rintro e w1 ⟨rfl, hb⟩
    have HB1 := hid (HB0.out.trans (hb.mono HB0.out.size))
    have HX1 := hid (HX0.out.below hb)
    clear hb y0 y1 y2 y3 y4 y5 y6 y7
    obtain ⟨y0, y1, y2, y3, y4, y5, y6, y7⟩ := HX1.out.cells
    go_wp2_with fail
    refine (HOW.out _).mono ?_
    rintro e w2 ⟨rfl, hb⟩
    have HB2 := hid (HB1.out.trans (hb.mono HB1.out.size))
    have HX2 := hid (HX1.out.below hb)
    clear hb y0 y1 y2 y3 y4 y5 y6 y7
    obtain ⟨y0, y1, y2, y3, y4, y5, y6, y7⟩ := HX2.out.cells
    go_wp2_with fail
    refine (HCT.out _ HB2.out).mono ?_
    rintro e w3 ⟨rfl, hb⟩
    have HB3 := hid (HB2.out.trans (hb.mono HB2.out.size))
    have HX3 := hid (HX2.out.below hb)
    clear hb y0 y1 y2 y3 y4 y5 y6 y7
    obtain ⟨y0, y1, y2, y3, y4, y5, y6, y7⟩ := HX3.out.cells
    go_wp2_with fail
    refine (HOW.out _).mono ?_
    rintro e w4 ⟨rfl, hb⟩
    have HB4 := hid (HB3.out.trans (hb.mono HB3.out.size))
    have HX4 := hid (HX3.out.below hb)
    clear hb y0 y1 y2 y3 y4 y5 y6 y7
    obtain ⟨y0, y1, y2, y3, y4, y5, y6, y7⟩ := HX4.out.cells
    go_wp2_with fail
    refine (HCF.out _ HB4.out).mono ?_
    rintro e w5 ⟨rfl, hb⟩
    have HB5 := hid (HB4.out.trans (hb.mono HB4.out.size))
    have HX5 := hid (HX4.out.below hb)
    clear hb y0 y1 y2 y3 y4 y5 y6 y7
    obtain ⟨y0, y1, y2, y3, y4, y5, y6, y7⟩ := HX5.out.cells
    go_wp2_with fail
    refine (HOW.out _).mono ?_
    rintro e w6 ⟨rfl, hb⟩
    have HB6 := hid (HB5.out.trans (hb.mono HB5.out.size))
    have HX6 := hid (HX5.out.below hb)
    clear hb y0 y1 y2 y3 y4 y5 y6 y7
    obtain ⟨y0, y1, y2, y3, y4, y5, y6, y7⟩ := HX6.out.cells
    go_wp2_with fail
    refine (HCN.out _ HB6.out).mono ?_
    rintro e w7 ⟨rfl, hb⟩
    have HB7 := hid (HB6.out.trans (hb.mono HB6.out.size))
    have HX7 := hid (HX6.out.below hb)
    clear hb y0 y1 y2 y3 y4 y5 y6 y7
    obtain ⟨y0, y1, y2, y3, y4, y5, y6, y7⟩ := HX7.out.cells
    go_wp2_with fail
    refine (live_any _).mono ?_
    rintro e w99 ⟨rfl, hb⟩
    have HB99 := hid (HB7.out.trans (hb.mono HB7.out.size))
    clear hb
    go_wp2_with fail
    go_ret
    exact ⟨rfl, HB99.out⟩
  have g1 : decide (1 ≤ d) = true := decide_eq_true c1
  have g2 : decide (d ≤ 6) = true := decide_eq_true c2
  have gm : mayB d = true := by simp [mayB]; omega
  rw [gm] at HCT HCF
  clear c1 c2 gm
  go_enter Try.func4, Try.ntmps4
  have hxx := HX0.out
  obtain ⟨y0, y1, y2, y3, y4, y5, y6, y7⟩ := hxx.cells
  clear hxx
  rw [hs] at HSM
  clear hs hat
  go_wp2_with fail
  clear hV0
  refine (HSM.out _ HB0.out).mono ?_
  rintro e w1 ⟨rfl, hb⟩
  have HB1 := hid (HB0.out.trans (hb.mono HB0.out.size))
  have HX1 := hid (HX0.out.below hb)
  clear hb y0 y1 y2 y3 y4 y5 y6 y7
  obtain ⟨y0, y1, y2, y3, y4, y5, y6, y7⟩ := HX1.out.cells
  go_wp2_with fail
  refine (HOW.out _).mono ?_
  rintro e w2 ⟨rfl, hb⟩
  have HB2 := hid (HB1.out.trans (hb.mono HB1.out.size))
  have HX2 := hid (HX1.out.below hb)
  clear hb y0 y1 y2 y3 y4 y5 y6 y7
  obtain ⟨y0, y1, y2, y3, y4, y5, y6, y7⟩ := HX2.out.cells
  go_wp2_with fail
  refine (HCT.out _ HB2.out).mono ?_
  rintro e w3 ⟨rfl, hb⟩
  have HB3 := hid (HB2.out.trans (hb.mono HB2.out.size))
  have HX3 := hid (HX2.out.below hb)
  clear hb y0 y1 y2 y3 y4 y5 y6 y7
  obtain ⟨y0, y1, y2, y3, y4, y5, y6, y7⟩ := HX3.out.cells
  go_wp2_with fail
  refine (HOW.out _).mono ?_
  rintro e w4 ⟨rfl, hb⟩
  have HB4 := hid (HB3.out.trans (hb.mono HB3.out.size))
  have HX4 := hid (HX3.out.below hb)
  clear hb y0 y1 y2 y3 y4 y5 y6 y7
  obtain ⟨y0, y1, y2, y3, y4, y5, y6, y7⟩ := HX4.out.cells
  go_wp2_with fail
  refine (HCF.out _ HB4.out).mono ?_
  rintro e w5 ⟨rfl, hb⟩
  have HB5 := hid (HB4.out.trans (hb.mono HB4.out.size))
  have HX5 := hid (HX4.out.below hb)
  clear hb y0 y1 y2 y3 y4 y5 y6 y7
  obtain ⟨y0, y1, y2, y3, y4, y5, y6, y7⟩ := HX5.out.cells
  go_wp2_with fail
  refine (HOW.out _).mono ?_
  rintro e w6 ⟨rfl, hb⟩
  have HB6 := hid (HB5.out.trans (hb.mono HB5.out.size))
  have HX6 := hid (HX5.out.below hb)
  clear hb y0 y1 y2 y3 y4 y5 y6 y7
  obtain ⟨y0, y1, y2, y3, y4, y5, y6, y7⟩ := HX6.out.cells
  go_wp2_with fail
  refine (HCN.out _ HB6.out).mono ?_
  rintro e w7 ⟨rfl, hb⟩
  have HB7 := hid (HB6.out.trans (hb.mono HB6.out.size))
  have HX7 := hid (HX6.out.below hb)
  clear hb y0 y1 y2 y3 y4 y5 y6 y7
  obtain ⟨y0, y1, y2, y3, y4, y5, y6, y7⟩ := HX7.out.cells
  go_wp2_with fail
  refine (live_any _).mono ?_
  rintro e w99 ⟨rfl, hb⟩
  have HB99 := hid (HB7.out.trans (hb.mono HB7.out.size))
  clear hb
  go_wp2_with fail
  go_ret
  exact ⟨rfl, HB99.out⟩
set_option maxRecDepth 100000 in
set_option maxHeartbeats 8000000 in
theorem closed_10 (r : Rq) (d : Int) (inside : Bool) (w : World) (h : r.Raw w) (hs : r.small = true) (hw : r.what = 10) : Calls Try.prog 4 #[.agg r.cells, .int .i64 d, .bool inside] w fun e w' => e = .returned (.bool true) ∧ Below w.heap.size w w' := by
  have hat := h.at hs
  have HCT := hid fun (V : World) (hV : Below w.heap.size w V) => check_any r d true true V (hat.below hV)
  have HCF := hid fun (V : World) (hV : Below w.heap.size w V) => check_any r d true false V (hat.below hV)
  have HCN := hid fun (V : World) (hV : Below w.heap.size w V) => check_any r d false inside V (hat.below hV)
  have HOW := hid fun (V : World) => own_ok r V
  have e1 : r.may d true true = (mayB d && true) := by simp [Rq.may, Rq.must, hw]
  have e2 : r.may d true false = (mayB d && false) := by simp [Rq.may, Rq.must, hw]
  have e3 : r.may d false inside = false := rfl
  rw [e1] at HCT
  rw [e2] at HCF
  rw [e3, err_false false rfl] at HCN
  clear e1 e2 e3
  have HSM := hid fun (V : World) (hV : Below w.heap.size w V) => small_ok r V (h.below hV)
  obtain ⟨V0, hV0⟩ : ∃ V0, w.alloc (.cells r.cells 29) = V0 := ⟨_, rfl⟩
  have HB0 := hid (show Below w.heap.size w V0 by rw [← hV0]; exact below_alloc _ _)
  have HX0 := hid (show Rc8 V0 w.heap.size r from ⟨by rw [← hV0]; exact heap_alloc_new _ _⟩)
  clear h
  obtain ⟨what, kp, kl, kc, data, lp, lo, lc, hp, hi, hc, ap, at_, ac, most, rp, rs, rc⟩ := r
  dsimp only at hw
  subst hw
  dsimp only [Rq.cells] at *
  by_cases c1 : 1 ≤ d
  case neg =>
    have g1 : decide (1 ≤ d) = false := decide_eq_false c1
    have gm : mayB d = false := by simp [mayB]; omega
    rw [gm] at HCT HCF
    clear c1 gm
    go_enter Try.func4, Try.ntmps4
    have hxx := HX0.out
    obtain ⟨y0, y1, y2, y3, y4, y5, y6, y7⟩ := hxx.cells
    clear hxx
    rw [hs] at HSM
    clear hs hat
    go_wp2_with fail
    clear hV0
    refine (HSM.out _ HB0.out).mono ?_
    rintro e w1 ⟨rfl, hb⟩
    have HB1 := hid (HB0.out.trans (hb.mono HB0.out.size))
    have HX1 := hid (HX0.out.below hb)
    clear hb y0 y1 y2 y3 y4 y5 y6 y7
    obtain ⟨y0, y1, y2, y3, y4, y5, y6, y7⟩ := HX1.out.cells
    go_wp2_with fail
    refine (HOW.out _).mono ?_
    rintro e w2 ⟨rfl, hb⟩
    have HB2 := hid (HB1.out.trans (hb.mono HB1.out.size))
    have HX2 := hid (HX1.out.below hb)
    clear hb y0 y1 y2 y3 y4 y5 y6 y7
    obtain ⟨y0, y1, y2, y3, y4, y5, y6, y7⟩ := HX2.out.cells
    go_wp2_with fail
    refine (HCT.out _ HB2.out).mono ?_
    rintro e w3 ⟨rfl, hb⟩
    have HB3 := hid (HB2.out.trans (hb.mono HB2.out.size))
    have HX3 := hid (HX2.out.below hb)
    clear hb y0 y1 y2 y3 y4 y5 y6 y7
    obtain ⟨y0, y1, y2, y3, y4, y5, y6, y7⟩ := HX3.out.cells
    go_wp2_with fail
    refine (HOW.out _).mono ?_
    rintro e w4 ⟨rfl, hb⟩
    have HB4 := hid (HB3.out.trans (hb.mono HB3.out.size))
    have HX4 := hid (HX3.out.below hb)
    clear hb y0 y1 y2 y3 y4 y5 y6 y7
    obtain ⟨y0, y1, y2, y3, y4, y5, y6, y7⟩ := HX4.out.cells
    go_wp2_with fail
    refine (HCF.out _ HB4.out).mono ?_
    rintro e w5 ⟨rfl, hb⟩
    have HB5 := hid (HB4.out.trans (hb.mono HB4.out.size))
    have HX5 := hid (HX4.out.below hb)
    clear hb y0 y1 y2 y3 y4 y5 y6 y7
    obtain ⟨y0, y1, y2, y3, y4, y5, y6, y7⟩ := HX5.out.cells
    go_wp2_with fail
    refine (HOW.out _).mono ?_
    rintro e w6 ⟨rfl, hb⟩
    have HB6 := hid (HB5.out.trans (hb.mono HB5.out.size))
    have HX6 := hid (HX5.out.below hb)
    clear hb y0 y1 y2 y3 y4 y5 y6 y7
    obtain ⟨y0, y1, y2, y3, y4, y5, y6, y7⟩ := HX6.out.cells
    go_wp2_with fail
    refine (HCN.out _ HB6.out).mono ?_
    rintro e w7 ⟨rfl, hb⟩
    have HB7 := hid (HB6.out.trans (hb.mono HB6.out.size))
    have HX7 := hid (HX6.out.below hb)
    clear hb y0 y1 y2 y3 y4 y5 y6 y7
    obtain ⟨y0, y1, y2, y3, y4, y5, y6, y7⟩ := HX7.out.cells
    go_wp2_with fail
    refine (live_any _).mono ?_
    rintro e w99 ⟨rfl, hb⟩
    have HB99 := hid (HB7.out.trans (hb.mono HB7.out.size))
    clear hb
    go_wp2_with fail
    go_ret
    exact ⟨rfl, HB99.out⟩
  by_cases c2 : d ≤ 6
  case neg =>
    have g1 : decide (1 ≤ d) = true := decide_eq_true c1
    have g2 : decide (d ≤ 6) = false := decide_eq_false c2
    have gm : mayB d = false := by simp [mayB]; omega
    rw [gm] at HCT HCF
    clear c1 c2 gm
    go_enter Try.func4, Try.ntmps4
    have hxx := HX0.out
    obtain ⟨y0, y1, y2, y3, y4, y5, y6, y7⟩ := hxx.cells
    clear hxx
    rw [hs] at HSM
    clear hs hat
    go_wp2_with fail
    clear hV0
    refine (HSM.out _ HB0.out).mono ?_
    rintro e w1 ⟨rfl, hb⟩
    have HB1 := hid (HB0.out.trans (hb.mono HB0.out.size))
    have HX1 := hid (HX0.out.below hb)
    clear hb y0 y1 y2 y3 y4 y5 y6 y7
    obtain ⟨y0, y1, y2, y3, y4, y5, y6, y7⟩ := HX1.out.cells
    go_wp2_with fail
    refine (HOW.out _).mono ?_
    rintro e w2 ⟨rfl, hb⟩
    have HB2 := hid (HB1.out.trans (hb.mono HB1.out.size))
    have HX2 := hid (HX1.out.below hb)
    clear hb y0 y1 y2 y3 y4 y5 y6 y7
    obtain ⟨y0, y1, y2, y3, y4, y5, y6, y7⟩ := HX2.out.cells
    go_wp2_with fail
    refine (HCT.out _ HB2.out).mono ?_
    rintro e w3 ⟨rfl, hb⟩
    have HB3 := hid (HB2.out.trans (hb.mono HB2.out.size))
    have HX3 := hid (HX2.out.below hb)
    clear hb y0 y1 y2 y3 y4 y5 y6 y7
    obtain ⟨y0, y1, y2, y3, y4, y5, y6, y7⟩ := HX3.out.cells
    go_wp2_with fail
    refine (HOW.out _).mono ?_
    rintro e w4 ⟨rfl, hb⟩
    have HB4 := hid (HB3.out.trans (hb.mono HB3.out.size))
    have HX4 := hid (HX3.out.below hb)
    clear hb y0 y1 y2 y3 y4 y5 y6 y7
    obtain ⟨y0, y1, y2, y3, y4, y5, y6, y7⟩ := HX4.out.cells
    go_wp2_with fail
    refine (HCF.out _ HB4.out).mono ?_
    rintro e w5 ⟨rfl, hb⟩
    have HB5 := hid (HB4.out.trans (hb.mono HB4.out.size))
    have HX5 := hid (HX4.out.below hb)
    clear hb y0 y1 y2 y3 y4 y5 y6 y7
    obtain ⟨y0, y1, y2, y3, y4, y5, y6, y7⟩ := HX5.out.cells
    go_wp2_with fail
    refine (HOW.out _).mono ?_
    rintro e w6 ⟨rfl, hb⟩
    have HB6 := hid (HB5.out.trans (hb.mono HB5.out.size))
    have HX6 := hid (HX5.out.below hb)
    clear hb y0 y1 y2 y3 y4 y5 y6 y7
    obtain ⟨y0, y1, y2, y3, y4, y5, y6, y7⟩ := HX6.out.cells
    go_wp2_with fail
    refine (HCN.out _ HB6.out).mono ?_
    rintro e w7 ⟨rfl, hb⟩
    have HB7 := hid (HB6.out.trans (hb.mono HB6.out.size))
    have HX7 := hid (HX6.out.below hb)
    clear hb y0 y1 y2 y3 y4 y5 y6 y7
    obtain ⟨y0, y1, y2, y3, y4, y5, y6, y7⟩ := HX7.out.cells
    go_wp2_with fail
    refine (live_any _).mono ?_
    rintro e w99 ⟨rfl, hb⟩
    have HB99 := hid (HB7.out.trans (hb.mono HB7.out.size))
    clear hb
    go_wp2_with fail
    go_ret
    exact ⟨rfl, HB99.out⟩
  have g1 : decide (1 ≤ d) = true := decide_eq_true c1
  have g2 : decide (d ≤ 6) = true := decide_eq_true c2
  have gm : mayB d = true := by simp [mayB]; omega
  rw [gm] at HCT HCF
  clear c1 c2 gm
  go_enter Try.func4, Try.ntmps4
  have hxx := HX0.out
  obtain ⟨y0, y1, y2, y3, y4, y5, y6, y7⟩ := hxx.cells
  clear hxx
  rw [hs] at HSM
  clear hs hat
  go_wp2_with fail
  clear hV0
  refine (HSM.out _ HB0.out).mono ?_
  rintro e w1 ⟨rfl, hb⟩
  have HB1 := hid (HB0.out.trans (hb.mono HB0.out.size))
  have HX1 := hid (HX0.out.below hb)
  clear hb y0 y1 y2 y3 y4 y5 y6 y7
  obtain ⟨y0, y1, y2, y3, y4, y5, y6, y7⟩ := HX1.out.cells
  go_wp2_with fail
  refine (HOW.out _).mono ?_
  rintro e w2 ⟨rfl, hb⟩
  have HB2 := hid (HB1.out.trans (hb.mono HB1.out.size))
  have HX2 := hid (HX1.out.below hb)
  clear hb y0 y1 y2 y3 y4 y5 y6 y7
  obtain ⟨y0, y1, y2, y3, y4, y5, y6, y7⟩ := HX2.out.cells
  go_wp2_with fail
  refine (HCT.out _ HB2.out).mono ?_
  rintro e w3 ⟨rfl, hb⟩
  have HB3 := hid (HB2.out.trans (hb.mono HB2.out.size))
  have HX3 := hid (HX2.out.below hb)
  clear hb y0 y1 y2 y3 y4 y5 y6 y7
  obtain ⟨y0, y1, y2, y3, y4, y5, y6, y7⟩ := HX3.out.cells
  go_wp2_with fail
  refine (HOW.out _).mono ?_
  rintro e w4 ⟨rfl, hb⟩
  have HB4 := hid (HB3.out.trans (hb.mono HB3.out.size))
  have HX4 := hid (HX3.out.below hb)
  clear hb y0 y1 y2 y3 y4 y5 y6 y7
  obtain ⟨y0, y1, y2, y3, y4, y5, y6, y7⟩ := HX4.out.cells
  go_wp2_with fail
  refine (HCF.out _ HB4.out).mono ?_
  rintro e w5 ⟨rfl, hb⟩
  have HB5 := hid (HB4.out.trans (hb.mono HB4.out.size))
  have HX5 := hid (HX4.out.below hb)
  clear hb y0 y1 y2 y3 y4 y5 y6 y7
  obtain ⟨y0, y1, y2, y3, y4, y5, y6, y7⟩ := HX5.out.cells
  go_wp2_with fail
  refine (HOW.out _).mono ?_
  rintro e w6 ⟨rfl, hb⟩
  have HB6 := hid (HB5.out.trans (hb.mono HB5.out.size))
  have HX6 := hid (HX5.out.below hb)
  clear hb y0 y1 y2 y3 y4 y5 y6 y7
  obtain ⟨y0, y1, y2, y3, y4, y5, y6, y7⟩ := HX6.out.cells
  go_wp2_with fail
  refine (HCN.out _ HB6.out).mono ?_
  rintro e w7 ⟨rfl, hb⟩
  have HB7 := hid (HB6.out.trans (hb.mono HB6.out.size))
  have HX7 := hid (HX6.out.below hb)
  clear hb y0 y1 y2 y3 y4 y5 y6 y7
  obtain ⟨y0, y1, y2, y3, y4, y5, y6, y7⟩ := HX7.out.cells
  go_wp2_with fail
  refine (live_any _).mono ?_
  rintro e w99 ⟨rfl, hb⟩
  have HB99 := hid (HB7.out.trans (hb.mono HB7.out.size))
  clear hb
  go_wp2_with fail
  go_ret
  exact ⟨rfl, HB99.out⟩
set_option maxRecDepth 100000 in
set_option maxHeartbeats 8000000 in
theorem closed_11 (r : Rq) (d : Int) (inside : Bool) (w : World) (h : r.Raw w) (hs : r.small = true) (hw : r.what = 11) : Calls Try.prog 4 #[.agg r.cells, .int .i64 d, .bool inside] w fun e w' => e = .returned (.bool true) ∧ Below w.heap.size w w' := by
  have hat := h.at hs
  have HCT := hid fun (V : World) (hV : Below w.heap.size w V) => check_any r d true true V (hat.below hV)
  have HCF := hid fun (V : World) (hV : Below w.heap.size w V) => check_any r d true false V (hat.below hV)
  have HCN := hid fun (V : World) (hV : Below w.heap.size w V) => check_any r d false inside V (hat.below hV)
  have HOW := hid fun (V : World) => own_ok r V
  have e1 : r.may d true true = (mayB d && true) := by simp [Rq.may, Rq.must, hw]
  have e2 : r.may d true false = (mayB d && false) := by simp [Rq.may, Rq.must, hw]
  have e3 : r.may d false inside = false := rfl
  rw [e1] at HCT
  rw [e2] at HCF
  rw [e3, err_false false rfl] at HCN
  clear e1 e2 e3
  have HSM := hid fun (V : World) (hV : Below w.heap.size w V) => small_ok r V (h.below hV)
  obtain ⟨V0, hV0⟩ : ∃ V0, w.alloc (.cells r.cells 29) = V0 := ⟨_, rfl⟩
  have HB0 := hid (show Below w.heap.size w V0 by rw [← hV0]; exact below_alloc _ _)
  have HX0 := hid (show Rc8 V0 w.heap.size r from ⟨by rw [← hV0]; exact heap_alloc_new _ _⟩)
  clear h
  obtain ⟨what, kp, kl, kc, data, lp, lo, lc, hp, hi, hc, ap, at_, ac, most, rp, rs, rc⟩ := r
  dsimp only at hw
  subst hw
  dsimp only [Rq.cells] at *
  by_cases c1 : 1 ≤ d
  case neg =>
    have g1 : decide (1 ≤ d) = false := decide_eq_false c1
    have gm : mayB d = false := by simp [mayB]; omega
    rw [gm] at HCT HCF
    clear c1 gm
    go_enter Try.func4, Try.ntmps4
    have hxx := HX0.out
    obtain ⟨y0, y1, y2, y3, y4, y5, y6, y7⟩ := hxx.cells
    clear hxx
    rw [hs] at HSM
    clear hs hat
    go_wp2_with fail
    clear hV0
    refine (HSM.out _ HB0.out).mono ?_
    rintro e w1 ⟨rfl, hb⟩
    have HB1 := hid (HB0.out.trans (hb.mono HB0.out.size))
    have HX1 := hid (HX0.out.below hb)
    clear hb y0 y1 y2 y3 y4 y5 y6 y7
    obtain ⟨y0, y1, y2, y3, y4, y5, y6, y7⟩ := HX1.out.cells
    go_wp2_with fail
    refine (HOW.out _).mono ?_
    rintro e w2 ⟨rfl, hb⟩
    have HB2 := hid (HB1.out.trans (hb.mono HB1.out.size))
    have HX2 := hid (HX1.out.below hb)
    clear hb y0 y1 y2 y3 y4 y5 y6 y7
    obtain ⟨y0, y1, y2, y3, y4, y5, y6, y7⟩ := HX2.out.cells
    go_wp2_with fail
    refine (HCT.out _ HB2.out).mono ?_
    rintro e w3 ⟨rfl, hb⟩
    have HB3 := hid (HB2.out.trans (hb.mono HB2.out.size))
    have HX3 := hid (HX2.out.below hb)
    clear hb y0 y1 y2 y3 y4 y5 y6 y7
    obtain ⟨y0, y1, y2, y3, y4, y5, y6, y7⟩ := HX3.out.cells
    go_wp2_with fail
    refine (HOW.out _).mono ?_
    rintro e w4 ⟨rfl, hb⟩
    have HB4 := hid (HB3.out.trans (hb.mono HB3.out.size))
    have HX4 := hid (HX3.out.below hb)
    clear hb y0 y1 y2 y3 y4 y5 y6 y7
    obtain ⟨y0, y1, y2, y3, y4, y5, y6, y7⟩ := HX4.out.cells
    go_wp2_with fail
    refine (HCF.out _ HB4.out).mono ?_
    rintro e w5 ⟨rfl, hb⟩
    have HB5 := hid (HB4.out.trans (hb.mono HB4.out.size))
    have HX5 := hid (HX4.out.below hb)
    clear hb y0 y1 y2 y3 y4 y5 y6 y7
    obtain ⟨y0, y1, y2, y3, y4, y5, y6, y7⟩ := HX5.out.cells
    go_wp2_with fail
    refine (HOW.out _).mono ?_
    rintro e w6 ⟨rfl, hb⟩
    have HB6 := hid (HB5.out.trans (hb.mono HB5.out.size))
    have HX6 := hid (HX5.out.below hb)
    clear hb y0 y1 y2 y3 y4 y5 y6 y7
    obtain ⟨y0, y1, y2, y3, y4, y5, y6, y7⟩ := HX6.out.cells
    go_wp2_with fail
    refine (HCN.out _ HB6.out).mono ?_
    rintro e w7 ⟨rfl, hb⟩
    have HB7 := hid (HB6.out.trans (hb.mono HB6.out.size))
    have HX7 := hid (HX6.out.below hb)
    clear hb y0 y1 y2 y3 y4 y5 y6 y7
    obtain ⟨y0, y1, y2, y3, y4, y5, y6, y7⟩ := HX7.out.cells
    go_wp2_with fail
    refine (live_any _).mono ?_
    rintro e w99 ⟨rfl, hb⟩
    have HB99 := hid (HB7.out.trans (hb.mono HB7.out.size))
    clear hb
    go_wp2_with fail
    go_ret
    exact ⟨rfl, HB99.out⟩
  by_cases c2 : d ≤ 6
  case neg =>
    have g1 : decide (1 ≤ d) = true := decide_eq_true c1
    have g2 : decide (d ≤ 6) = false := decide_eq_false c2
    have gm : mayB d = false := by simp [mayB]; omega
    rw [gm] at HCT HCF
    clear c1 c2 gm
    go_enter Try.func4, Try.ntmps4
    have hxx := HX0.out
    obtain ⟨y0, y1, y2, y3, y4, y5, y6, y7⟩ := hxx.cells
    clear hxx
    rw [hs] at HSM
    clear hs hat
    go_wp2_with fail
    clear hV0
    refine (HSM.out _ HB0.out).mono ?_
    rintro e w1 ⟨rfl, hb⟩
    have HB1 := hid (HB0.out.trans (hb.mono HB0.out.size))
    have HX1 := hid (HX0.out.below hb)
    clear hb y0 y1 y2 y3 y4 y5 y6 y7
    obtain ⟨y0, y1, y2, y3, y4, y5, y6, y7⟩ := HX1.out.cells
    go_wp2_with fail
    refine (HOW.out _).mono ?_
    rintro e w2 ⟨rfl, hb⟩
    have HB2 := hid (HB1.out.trans (hb.mono HB1.out.size))
    have HX2 := hid (HX1.out.below hb)
    clear hb y0 y1 y2 y3 y4 y5 y6 y7
    obtain ⟨y0, y1, y2, y3, y4, y5, y6, y7⟩ := HX2.out.cells
    go_wp2_with fail
    refine (HCT.out _ HB2.out).mono ?_
    rintro e w3 ⟨rfl, hb⟩
    have HB3 := hid (HB2.out.trans (hb.mono HB2.out.size))
    have HX3 := hid (HX2.out.below hb)
    clear hb y0 y1 y2 y3 y4 y5 y6 y7
    obtain ⟨y0, y1, y2, y3, y4, y5, y6, y7⟩ := HX3.out.cells
    go_wp2_with fail
    refine (HOW.out _).mono ?_
    rintro e w4 ⟨rfl, hb⟩
    have HB4 := hid (HB3.out.trans (hb.mono HB3.out.size))
    have HX4 := hid (HX3.out.below hb)
    clear hb y0 y1 y2 y3 y4 y5 y6 y7
    obtain ⟨y0, y1, y2, y3, y4, y5, y6, y7⟩ := HX4.out.cells
    go_wp2_with fail
    refine (HCF.out _ HB4.out).mono ?_
    rintro e w5 ⟨rfl, hb⟩
    have HB5 := hid (HB4.out.trans (hb.mono HB4.out.size))
    have HX5 := hid (HX4.out.below hb)
    clear hb y0 y1 y2 y3 y4 y5 y6 y7
    obtain ⟨y0, y1, y2, y3, y4, y5, y6, y7⟩ := HX5.out.cells
    go_wp2_with fail
    refine (HOW.out _).mono ?_
    rintro e w6 ⟨rfl, hb⟩
    have HB6 := hid (HB5.out.trans (hb.mono HB5.out.size))
    have HX6 := hid (HX5.out.below hb)
    clear hb y0 y1 y2 y3 y4 y5 y6 y7
    obtain ⟨y0, y1, y2, y3, y4, y5, y6, y7⟩ := HX6.out.cells
    go_wp2_with fail
    refine (HCN.out _ HB6.out).mono ?_
    rintro e w7 ⟨rfl, hb⟩
    have HB7 := hid (HB6.out.trans (hb.mono HB6.out.size))
    have HX7 := hid (HX6.out.below hb)
    clear hb y0 y1 y2 y3 y4 y5 y6 y7
    obtain ⟨y0, y1, y2, y3, y4, y5, y6, y7⟩ := HX7.out.cells
    go_wp2_with fail
    refine (live_any _).mono ?_
    rintro e w99 ⟨rfl, hb⟩
    have HB99 := hid (HB7.out.trans (hb.mono HB7.out.size))
    clear hb
    go_wp2_with fail
    go_ret
    exact ⟨rfl, HB99.out⟩
  have g1 : decide (1 ≤ d) = true := decide_eq_true c1
  have g2 : decide (d ≤ 6) = true := decide_eq_true c2
  have gm : mayB d = true := by simp [mayB]; omega
  rw [gm] at HCT HCF
  clear c1 c2 gm
  go_enter Try.func4, Try.ntmps4
  have hxx := HX0.out
  obtain ⟨y0, y1, y2, y3, y4, y5, y6, y7⟩ := hxx.cells
  clear hxx
  rw [hs] at HSM
  clear hs hat
  go_wp2_with fail
  clear hV0
  refine (HSM.out _ HB0.out).mono ?_
  rintro e w1 ⟨rfl, hb⟩
  have HB1 := hid (HB0.out.trans (hb.mono HB0.out.size))
  have HX1 := hid (HX0.out.below hb)
  clear hb y0 y1 y2 y3 y4 y5 y6 y7
  obtain ⟨y0, y1, y2, y3, y4, y5, y6, y7⟩ := HX1.out.cells
  go_wp2_with fail
  refine (HOW.out _).mono ?_
  rintro e w2 ⟨rfl, hb⟩
  have HB2 := hid (HB1.out.trans (hb.mono HB1.out.size))
  have HX2 := hid (HX1.out.below hb)
  clear hb y0 y1 y2 y3 y4 y5 y6 y7
  obtain ⟨y0, y1, y2, y3, y4, y5, y6, y7⟩ := HX2.out.cells
  go_wp2_with fail
  refine (HCT.out _ HB2.out).mono ?_
  rintro e w3 ⟨rfl, hb⟩
  have HB3 := hid (HB2.out.trans (hb.mono HB2.out.size))
  have HX3 := hid (HX2.out.below hb)
  clear hb y0 y1 y2 y3 y4 y5 y6 y7
  obtain ⟨y0, y1, y2, y3, y4, y5, y6, y7⟩ := HX3.out.cells
  go_wp2_with fail
  refine (HOW.out _).mono ?_
  rintro e w4 ⟨rfl, hb⟩
  have HB4 := hid (HB3.out.trans (hb.mono HB3.out.size))
  have HX4 := hid (HX3.out.below hb)
  clear hb y0 y1 y2 y3 y4 y5 y6 y7
  obtain ⟨y0, y1, y2, y3, y4, y5, y6, y7⟩ := HX4.out.cells
  go_wp2_with fail
  refine (HCF.out _ HB4.out).mono ?_
  rintro e w5 ⟨rfl, hb⟩
  have HB5 := hid (HB4.out.trans (hb.mono HB4.out.size))
  have HX5 := hid (HX4.out.below hb)
  clear hb y0 y1 y2 y3 y4 y5 y6 y7
  obtain ⟨y0, y1, y2, y3, y4, y5, y6, y7⟩ := HX5.out.cells
  go_wp2_with fail
  refine (HOW.out _).mono ?_
  rintro e w6 ⟨rfl, hb⟩
  have HB6 := hid (HB5.out.trans (hb.mono HB5.out.size))
  have HX6 := hid (HX5.out.below hb)
  clear hb y0 y1 y2 y3 y4 y5 y6 y7
  obtain ⟨y0, y1, y2, y3, y4, y5, y6, y7⟩ := HX6.out.cells
  go_wp2_with fail
  refine (HCN.out _ HB6.out).mono ?_
  rintro e w7 ⟨rfl, hb⟩
  have HB7 := hid (HB6.out.trans (hb.mono HB6.out.size))
  have HX7 := hid (HX6.out.below hb)
  clear hb y0 y1 y2 y3 y4 y5 y6 y7
  obtain ⟨y0, y1, y2, y3, y4, y5, y6, y7⟩ := HX7.out.cells
  go_wp2_with fail
  refine (live_any _).mono ?_
  rintro e w99 ⟨rfl, hb⟩
  have HB99 := hid (HB7.out.trans (hb.mono HB7.out.size))
  clear hb
  go_wp2_with fail
  go_ret
  exact ⟨rfl, HB99.out⟩
set_option maxRecDepth 100000 in
set_option maxHeartbeats 8000000 in
theorem closed_other (r : Rq) (d : Int) (inside : Bool) (w : World) (h : r.Raw w) (hs : r.small = true) (h9 : r.what ≠ 9) (h10 : r.what ≠ 10) (h11 : r.what ≠ 11) : Calls Try.prog 4 #[.agg r.cells, .int .i64 d, .bool inside] w fun e w' => e = .returned (.bool true) ∧ Below w.heap.size w w' := by
  have hat := h.at hs
  have HCT := hid fun (V : World) (hV : Below w.heap.size w V) => check_any r d true true V (hat.below hV)
  have HCF := hid fun (V : World) (hV : Below w.heap.size w V) => check_any r d true false V (hat.below hV)
  have HCN := hid fun (V : World) (hV : Below w.heap.size w V) => check_any r d false inside V (hat.below hV)
  have HOW := hid fun (V : World) => own_ok r V
  have e1 : r.may d true true = r.may d true false := by
    unfold Rq.may Rq.must
    rw [if_neg h9, if_neg h9, if_neg (show ¬ (r.what = 10 ∨ r.what = 11) from fun e => e.elim h10 h11), if_neg (show ¬ (r.what = 10 ∨ r.what = 11) from fun e => e.elim h10 h11)]
  have e3 : r.may d false inside = false := rfl
  rw [e1] at HCT
  rw [e3, err_false false rfl] at HCN
  clear e1 e3
  generalize Rq.may r d true false = bb at *
  have HSM := hid fun (V : World) (hV : Below w.heap.size w V) => small_ok r V (h.below hV)
  obtain ⟨V0, hV0⟩ : ∃ V0, w.alloc (.cells r.cells 29) = V0 := ⟨_, rfl⟩
  have HB0 := hid (show Below w.heap.size w V0 by rw [← hV0]; exact below_alloc _ _)
  have HX0 := hid (show Rc8 V0 w.heap.size r from ⟨by rw [← hV0]; exact heap_alloc_new _ _⟩)
  clear h
  obtain ⟨what, kp, kl, kc, data, lp, lo, lc, hp, hi, hc, ap, at_, ac, most, rp, rs, rc⟩ := r
  dsimp only [Rq.cells] at *
  have k1 : (what == 9) = false := by simpa using h9
  have k2 : (what == 10) = false := by simpa using h10
  have k3 : (what == 11) = false := by simpa using h11
  clear h9 h10 h11
  go_enter Try.func4, Try.ntmps4
  have hxx := HX0.out
  obtain ⟨y0, y1, y2, y3, y4, y5, y6, y7⟩ := hxx.cells
  clear hxx
  rw [hs] at HSM
  clear hs hat
  go_wp2_with fail
  clear hV0
  refine (HSM.out _ HB0.out).mono ?_
  rintro e w1 ⟨rfl, hb⟩
  have HB1 := hid (HB0.out.trans (hb.mono HB0.out.size))
  have HX1 := hid (HX0.out.below hb)
  clear hb y0 y1 y2 y3 y4 y5 y6 y7
  obtain ⟨y0, y1, y2, y3, y4, y5, y6, y7⟩ := HX1.out.cells
  go_wp2_with fail
  refine (HOW.out _).mono ?_
  rintro e w2 ⟨rfl, hb⟩
  have HB2 := hid (HB1.out.trans (hb.mono HB1.out.size))
  have HX2 := hid (HX1.out.below hb)
  clear hb y0 y1 y2 y3 y4 y5 y6 y7
  obtain ⟨y0, y1, y2, y3, y4, y5, y6, y7⟩ := HX2.out.cells
  go_wp2_with fail
  refine (HCT.out _ HB2.out).mono ?_
  rintro e w3 ⟨rfl, hb⟩
  have HB3 := hid (HB2.out.trans (hb.mono HB2.out.size))
  have HX3 := hid (HX2.out.below hb)
  clear hb y0 y1 y2 y3 y4 y5 y6 y7
  obtain ⟨y0, y1, y2, y3, y4, y5, y6, y7⟩ := HX3.out.cells
  go_wp2_with fail
  refine (HOW.out _).mono ?_
  rintro e w4 ⟨rfl, hb⟩
  have HB4 := hid (HB3.out.trans (hb.mono HB3.out.size))
  have HX4 := hid (HX3.out.below hb)
  clear hb y0 y1 y2 y3 y4 y5 y6 y7
  obtain ⟨y0, y1, y2, y3, y4, y5, y6, y7⟩ := HX4.out.cells
  go_wp2_with fail
  refine (HCF.out _ HB4.out).mono ?_
  rintro e w5 ⟨rfl, hb⟩
  have HB5 := hid (HB4.out.trans (hb.mono HB4.out.size))
  have HX5 := hid (HX4.out.below hb)
  clear hb y0 y1 y2 y3 y4 y5 y6 y7
  obtain ⟨y0, y1, y2, y3, y4, y5, y6, y7⟩ := HX5.out.cells
  go_wp2_with fail
  refine (HOW.out _).mono ?_
  rintro e w6 ⟨rfl, hb⟩
  have HB6 := hid (HB5.out.trans (hb.mono HB5.out.size))
  have HX6 := hid (HX5.out.below hb)
  clear hb y0 y1 y2 y3 y4 y5 y6 y7
  obtain ⟨y0, y1, y2, y3, y4, y5, y6, y7⟩ := HX6.out.cells
  go_wp2_with fail
  refine (HCN.out _ HB6.out).mono ?_
  rintro e w7 ⟨rfl, hb⟩
  have HB7 := hid (HB6.out.trans (hb.mono HB6.out.size))
  have HX7 := hid (HX6.out.below hb)
  clear hb y0 y1 y2 y3 y4 y5 y6 y7
  obtain ⟨y0, y1, y2, y3, y4, y5, y6, y7⟩ := HX7.out.cells
  go_wp2_with fail
  refine (live_any _).mono ?_
  rintro e w99 ⟨rfl, hb⟩
  have HB99 := hid (HB7.out.trans (hb.mono HB7.out.size))
  clear hb
  go_wp2_with fail
  go_ret
  exact ⟨rfl, HB99.out⟩
theorem closed_any (r : Rq) (d : Int) (inside : Bool) (w : World) (h : r.Raw w) : Calls Try.prog 4 #[.agg r.cells, .int .i64 d, .bool inside] w fun e w' => e = .returned (.bool true) ∧ Below w.heap.size w w' := by
  cases hs : r.small with
  | false => exact closed_big r d inside w h hs
  | true =>
    by_cases h9 : r.what = 9
    · exact closed_9 r d inside w h hs h9
    · by_cases h10 : r.what = 10
      · exact closed_10 r d inside w h hs h10
      · by_cases h11 : r.what = 11
        · exact closed_11 r d inside w h hs h11
        · exact closed_other r d inside w h hs h9 h10 h11
end Go.Proofs.Ytolnbamdddiifaa.Rq
