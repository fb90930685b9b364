/- The document's Check: whether a request may be. -/
import Derived.Test.YtolnbamdddiifaaRqBase
import Derived.Deep.RegionHeld3
namespace Go.Proofs.Ytolnbamdddiifaa.Rq
open Go.RowKit
open Go.Lib (hid)
open Go.Proofs.Ytolnbamdddiifaa.Ky
open Go.Proofs.Ytolnbamdddiifaa.Bk
set_option maxRecDepth 100000 in
set_option maxHeartbeats 4000000 in
theorem rcheck_1 (r : Rq) (d : Int) (inside : Bool) (w : World) (h : r.At w) (hw : r.what = 1) (h1 : 1 ≤ d) (h6 : d ≤ 6) :
    Calls Try.prog 12 #[.agg r.cells, .int .i64 d, .bool true, .bool inside] w fun e w' => e = .returned (.int .i64 (err (r.must d inside))) ∧ Below w.heap.size w w' := by
  obtain ⟨what, kp, kl, kc, data, lp, lo, lc, hp, hi, hc, ap, at_, ac, most, rp, rs, rc⟩ := r
  dsimp only at hw
  subst hw
  have HA := hid fun (V : World) (hV : Below w.heap.size w V) => h.below hV
  have HE : Hid (err (Rq.must ⟨1, kp, kl, kc, data, lp, lo, lc, hp, hi, hc, ap, at_, ac, most, rp, rs, rc⟩ d inside) = err (checkB kl.length d && decide (data.size ≤ 40))) := hid (by simp [Rq.must])
  have HBG := hid (show rs.length ≤ 1000 from h.big.1)
  have HNA := hid (show at_.length ≤ 1000000 ∧ lo.length ≤ 1000000 from ⟨h.na, h.nl⟩)
  dsimp only [Rq.cells] at ⊢
  rw [HE.out]
  have e1 : decide (d < 1) = false := by simp; omega
  have e2 : decide (6 < d) = false := by simp; omega
  have HB0 := hid (below_alloc w (.cells #[.int .i64 1, .slice kp kl.length kc, .string data, .slice lp lo.length lc, .slice hp hi.length hc, .slice ap at_.length ac, .int .i64 most, .slice rp rs.length rc] 29))
  have HX := hid (heap_alloc_new w (.cells #[.int .i64 1, .slice kp kl.length kc, .string data, .slice lp lo.length lc, .slice hp hi.length hc, .slice ap at_.length ac, .int .i64 most, .slice rp rs.length rc] 29))
  have HL := hid (Array.getElem?_eq_some_iff.1 HX.out).1
  clear h h1 h6 HE
  have HC := hid fun (V : World) (hV : Below w.heap.size w V) => refCheckR_ok kp kl.length kc data d V
  generalize (checkB kl.length d && decide (data.size ≤ 40)) = bb at *
  go_enter Try.func12, Try.ntmps12
  generalize hV0 : w.alloc (.cells #[.int .i64 1, .slice kp kl.length kc, .string data, .slice lp lo.length lc, .slice hp hi.length hc, .slice ap at_.length ac, .int .i64 most, .slice rp rs.length rc] 29) = V0 at *
  have hx := HX.out
  have y0 : V0.cell? ⟨w.heap.size, 0, none⟩ = some (.int .i64 1) := by rw [cell_of_row _ _ _ _ _ _ hx]; rfl
  have y1 : V0.cell? ⟨w.heap.size, 1, none⟩ = some (.slice kp kl.length kc) := by rw [cell_of_row _ _ _ _ _ _ hx]; rfl
  have y2 : V0.cell? ⟨w.heap.size, 2, none⟩ = some (.string data) := by rw [cell_of_row _ _ _ _ _ _ hx]; rfl
  have y3 : V0.cell? ⟨w.heap.size, 3, none⟩ = some (.slice lp lo.length lc) := by rw [cell_of_row _ _ _ _ _ _ hx]; rfl
  have y4 : V0.cell? ⟨w.heap.size, 4, none⟩ = some (.slice hp hi.length hc) := by rw [cell_of_row _ _ _ _ _ _ hx]; rfl
  have y5 : V0.cell? ⟨w.heap.size, 5, none⟩ = some (.slice ap at_.length ac) := by rw [cell_of_row _ _ _ _ _ _ hx]; rfl
  have y6 : V0.cell? ⟨w.heap.size, 6, none⟩ = some (.int .i64 most) := by rw [cell_of_row _ _ _ _ _ _ hx]; rfl
  have y7 : V0.cell? ⟨w.heap.size, 7, none⟩ = some (.slice rp rs.length rc) := by rw [cell_of_row _ _ _ _ _ _ hx]; rfl
  clear hx
  go_wp2_with fail
  refine (HC.out _ HB0.out).mono ?_
  rintro e w2 ⟨rfl, hb⟩
  have HB := hid (HB0.out.trans (hb.mono HB0.out.size))
  clear hb
  go_wp2_with fail
  go_ret
  exact ⟨rfl, HB.out⟩
set_option maxRecDepth 100000 in
set_option maxHeartbeats 4000000 in
theorem rcheck_2 (r : Rq) (d : Int) (inside : Bool) (w : World) (h : r.At w) (hw : r.what = 2) (h1 : 1 ≤ d) (h6 : d ≤ 6) :
    Calls Try.prog 12 #[.agg r.cells, .int .i64 d, .bool true, .bool inside] w fun e w' => e = .returned (.int .i64 (err (r.must d inside))) ∧ Below w.heap.size w w' := by
  obtain ⟨what, kp, kl, kc, data, lp, lo, lc, hp, hi, hc, ap, at_, ac, most, rp, rs, rc⟩ := r
  dsimp only at hw
  subst hw
  have HA := hid fun (V : World) (hV : Below w.heap.size w V) => h.below hV
  have HE : Hid (err (Rq.must ⟨2, kp, kl, kc, data, lp, lo, lc, hp, hi, hc, ap, at_, ac, most, rp, rs, rc⟩ d inside) = err (checkB kl.length d)) := hid (by simp [Rq.must])
  have HBG := hid (show rs.length ≤ 1000 from h.big.1)
  have HNA := hid (show at_.length ≤ 1000000 ∧ lo.length ≤ 1000000 from ⟨h.na, h.nl⟩)
  dsimp only [Rq.cells] at ⊢
  rw [HE.out]
  have e1 : decide (d < 1) = false := by simp; omega
  have e2 : decide (6 < d) = false := by simp; omega
  have HB0 := hid (below_alloc w (.cells #[.int .i64 2, .slice kp kl.length kc, .string data, .slice lp lo.length lc, .slice hp hi.length hc, .slice ap at_.length ac, .int .i64 most, .slice rp rs.length rc] 29))
  have HX := hid (heap_alloc_new w (.cells #[.int .i64 2, .slice kp kl.length kc, .string data, .slice lp lo.length lc, .slice hp hi.length hc, .slice ap at_.length ac, .int .i64 most, .slice rp rs.length rc] 29))
  have HL := hid (Array.getElem?_eq_some_iff.1 HX.out).1
  clear h h1 h6 HE
  have HC := hid fun (V : World) (hV : Below w.heap.size w V) => refCheck_ok kp kl.length kc d V
  generalize (checkB kl.length d) = bb at *
  go_enter Try.func12, Try.ntmps12
  generalize hV0 : w.alloc (.cells #[.int .i64 2, .slice kp kl.length kc, .string data, .slice lp lo.length lc, .slice hp hi.length hc, .slice ap at_.length ac, .int .i64 most, .slice rp rs.length rc] 29) = V0 at *
  have hx := HX.out
  have y0 : V0.cell? ⟨w.heap.size, 0, none⟩ = some (.int .i64 2) := by rw [cell_of_row _ _ _ _ _ _ hx]; rfl
  have y1 : V0.cell? ⟨w.heap.size, 1, none⟩ = some (.slice kp kl.length kc) := by rw [cell_of_row _ _ _ _ _ _ hx]; rfl
  have y2 : V0.cell? ⟨w.heap.size, 2, none⟩ = some (.string data) := by rw [cell_of_row _ _ _ _ _ _ hx]; rfl
  have y3 : V0.cell? ⟨w.heap.size, 3, none⟩ = some (.slice lp lo.length lc) := by rw [cell_of_row _ _ _ _ _ _ hx]; rfl
  have y4 : V0.cell? ⟨w.heap.size, 4, none⟩ = some (.slice hp hi.length hc) := by rw [cell_of_row _ _ _ _ _ _ hx]; rfl
  have y5 : V0.cell? ⟨w.heap.size, 5, none⟩ = some (.slice ap at_.length ac) := by rw [cell_of_row _ _ _ _ _ _ hx]; rfl
  have y6 : V0.cell? ⟨w.heap.size, 6, none⟩ = some (.int .i64 most) := by rw [cell_of_row _ _ _ _ _ _ hx]; rfl
  have y7 : V0.cell? ⟨w.heap.size, 7, none⟩ = some (.slice rp rs.length rc) := by rw [cell_of_row _ _ _ _ _ _ hx]; rfl
  clear hx
  go_wp2_with fail
  refine (HC.out _ HB0.out).mono ?_
  rintro e w2 ⟨rfl, rfl⟩
  go_wp2_with fail
  go_ret
  exact ⟨rfl, HB0.out⟩
set_option maxRecDepth 100000 in
set_option maxHeartbeats 4000000 in
theorem rcheck_3 (r : Rq) (d : Int) (inside : Bool) (w : World) (h : r.At w) (hw : r.what = 3) (h1 : 1 ≤ d) (h6 : d ≤ 6) :
    Calls Try.prog 12 #[.agg r.cells, .int .i64 d, .bool true, .bool inside] w fun e w' => e = .returned (.int .i64 (err (r.must d inside))) ∧ Below w.heap.size w w' := by
  obtain ⟨what, kp, kl, kc, data, lp, lo, lc, hp, hi, hc, ap, at_, ac, most, rp, rs, rc⟩ := r
  dsimp only at hw
  subst hw
  have HA := hid fun (V : World) (hV : Below w.heap.size w V) => h.below hV
  have HE : Hid (err (Rq.must ⟨3, kp, kl, kc, data, lp, lo, lc, hp, hi, hc, ap, at_, ac, most, rp, rs, rc⟩ d inside) = err (checkB kl.length d)) := hid (by simp [Rq.must])
  have HBG := hid (show rs.length ≤ 1000 from h.big.1)
  have HNA := hid (show at_.length ≤ 1000000 ∧ lo.length ≤ 1000000 from ⟨h.na, h.nl⟩)
  dsimp only [Rq.cells] at ⊢
  rw [HE.out]
  have e1 : decide (d < 1) = false := by simp; omega
  have e2 : decide (6 < d) = false := by simp; omega
  have HB0 := hid (below_alloc w (.cells #[.int .i64 3, .slice kp kl.length kc, .string data, .slice lp lo.length lc, .slice hp hi.length hc, .slice ap at_.length ac, .int .i64 most, .slice rp rs.length rc] 29))
  have HX := hid (heap_alloc_new w (.cells #[.int .i64 3, .slice kp kl.length kc, .string data, .slice lp lo.length lc, .slice hp hi.length hc, .slice ap at_.length ac, .int .i64 most, .slice rp rs.length rc] 29))
  have HL := hid (Array.getElem?_eq_some_iff.1 HX.out).1
  clear h h1 h6 HE
  have HC := hid fun (V : World) (hV : Below w.heap.size w V) => refCheck_ok kp kl.length kc d V
  generalize (checkB kl.length d) = bb at *
  go_enter Try.func12, Try.ntmps12
  generalize hV0 : w.alloc (.cells #[.int .i64 3, .slice kp kl.length kc, .string data, .slice lp lo.length lc, .slice hp hi.length hc, .slice ap at_.length ac, .int .i64 most, .slice rp rs.length rc] 29) = V0 at *
  have hx := HX.out
  have y0 : V0.cell? ⟨w.heap.size, 0, none⟩ = some (.int .i64 3) := by rw [cell_of_row _ _ _ _ _ _ hx]; rfl
  have y1 : V0.cell? ⟨w.heap.size, 1, none⟩ = some (.slice kp kl.length kc) := by rw [cell_of_row _ _ _ _ _ _ hx]; rfl
  have y2 : V0.cell? ⟨w.heap.size, 2, none⟩ = some (.string data) := by rw [cell_of_row _ _ _ _ _ _ hx]; rfl
  have y3 : V0.cell? ⟨w.heap.size, 3, none⟩ = some (.slice lp lo.length lc) := by rw [cell_of_row _ _ _ _ _ _ hx]; rfl
  have y4 : V0.cell? ⟨w.heap.size, 4, none⟩ = some (.slice hp hi.length hc) := by rw [cell_of_row _ _ _ _ _ _ hx]; rfl
  have y5 : V0.cell? ⟨w.heap.size, 5, none⟩ = some (.slice ap at_.length ac) := by rw [cell_of_row _ _ _ _ _ _ hx]; rfl
  have y6 : V0.cell? ⟨w.heap.size, 6, none⟩ = some (.int .i64 most) := by rw [cell_of_row _ _ _ _ _ _ hx]; rfl
  have y7 : V0.cell? ⟨w.heap.size, 7, none⟩ = some (.slice rp rs.length rc) := by rw [cell_of_row _ _ _ _ _ _ hx]; rfl
  clear hx
  go_wp2_with fail
  refine (HC.out _ HB0.out).mono ?_
  rintro e w2 ⟨rfl, rfl⟩
  go_wp2_with fail
  go_ret
  exact ⟨rfl, HB0.out⟩
set_option maxRecDepth 100000 in
set_option maxHeartbeats 4000000 in
theorem rcheck_4 (r : Rq) (d : Int) (inside : Bool) (w : World) (h : r.At w) (hw : r.what = 4) (h1 : 1 ≤ d) (h6 : d ≤ 6) :
    Calls Try.prog 12 #[.agg r.cells, .int .i64 d, .bool true, .bool inside] w fun e w' => e = .returned (.int .i64 (err (r.must d inside))) ∧ Below w.heap.size w w' := by
  obtain ⟨what, kp, kl, kc, data, lp, lo, lc, hp, hi, hc, ap, at_, ac, most, rp, rs, rc⟩ := r
  dsimp only at hw
  subst hw
  have HA := hid fun (V : World) (hV : Below w.heap.size w V) => h.below hV
  have HE : Hid (err (Rq.must ⟨4, kp, kl, kc, data, lp, lo, lc, hp, hi, hc, ap, at_, ac, most, rp, rs, rc⟩ d inside) = err (boxB lo hi d)) := hid (by simp [Rq.must])
  have HBG := hid (show rs.length ≤ 1000 from h.big.1)
  have HNA := hid (show at_.length ≤ 1000000 ∧ lo.length ≤ 1000000 from ⟨h.na, h.nl⟩)
  dsimp only [Rq.cells] at ⊢
  rw [HE.out]
  have e1 : decide (d < 1) = false := by simp; omega
  have e2 : decide (6 < d) = false := by simp; omega
  have HB0 := hid (below_alloc w (.cells #[.int .i64 4, .slice kp kl.length kc, .string data, .slice lp lo.length lc, .slice hp hi.length hc, .slice ap at_.length ac, .int .i64 most, .slice rp rs.length rc] 29))
  have HX := hid (heap_alloc_new w (.cells #[.int .i64 4, .slice kp kl.length kc, .string data, .slice lp lo.length lc, .slice hp hi.length hc, .slice ap at_.length ac, .int .i64 most, .slice rp rs.length rc] 29))
  have HL := hid (Array.getElem?_eq_some_iff.1 HX.out).1
  clear h h1 h6 HE
  have HC := hid fun (V : World) (hV : Below w.heap.size w V) => refCheckBox_ok lo hi lp hp lc hc d V (HA.out V hV).l (HA.out V hV).h (by have := HNA.out; omega)
  generalize (boxB lo hi d) = bb at *
  go_enter Try.func12, Try.ntmps12
  generalize hV0 : w.alloc (.cells #[.int .i64 4, .slice kp kl.length kc, .string data, .slice lp lo.length lc, .slice hp hi.length hc, .slice ap at_.length ac, .int .i64 most, .slice rp rs.length rc] 29) = V0 at *
  have hx := HX.out
  have y0 : V0.cell? ⟨w.heap.size, 0, none⟩ = some (.int .i64 4) := by rw [cell_of_row _ _ _ _ _ _ hx]; rfl
  have y1 : V0.cell? ⟨w.heap.size, 1, none⟩ = some (.slice kp kl.length kc) := by rw [cell_of_row _ _ _ _ _ _ hx]; rfl
  have y2 : V0.cell? ⟨w.heap.size, 2, none⟩ = some (.string data) := by rw [cell_of_row _ _ _ _ _ _ hx]; rfl
  have y3 : V0.cell? ⟨w.heap.size, 3, none⟩ = some (.slice lp lo.length lc) := by rw [cell_of_row _ _ _ _ _ _ hx]; rfl
  have y4 : V0.cell? ⟨w.heap.size, 4, none⟩ = some (.slice hp hi.length hc) := by rw [cell_of_row _ _ _ _ _ _ hx]; rfl
  have y5 : V0.cell? ⟨w.heap.size, 5, none⟩ = some (.slice ap at_.length ac) := by rw [cell_of_row _ _ _ _ _ _ hx]; rfl
  have y6 : V0.cell? ⟨w.heap.size, 6, none⟩ = some (.int .i64 most) := by rw [cell_of_row _ _ _ _ _ _ hx]; rfl
  have y7 : V0.cell? ⟨w.heap.size, 7, none⟩ = some (.slice rp rs.length rc) := by rw [cell_of_row _ _ _ _ _ _ hx]; rfl
  clear hx
  go_wp2_with fail
  refine (HC.out _ HB0.out).mono ?_
  rintro e w2 ⟨rfl, hb⟩
  have HB := hid (HB0.out.trans (hb.mono HB0.out.size))
  clear hb
  go_wp2_with fail
  go_ret
  exact ⟨rfl, HB.out⟩
set_option maxRecDepth 100000 in
set_option maxHeartbeats 4000000 in
theorem rcheck_6 (r : Rq) (d : Int) (inside : Bool) (w : World) (h : r.At w) (hw : r.what = 6) (h1 : 1 ≤ d) (h6 : d ≤ 6) :
    Calls Try.prog 12 #[.agg r.cells, .int .i64 d, .bool true, .bool inside] w fun e w' => e = .returned (.int .i64 (err (r.must d inside))) ∧ Below w.heap.size w w' := by
  obtain ⟨what, kp, kl, kc, data, lp, lo, lc, hp, hi, hc, ap, at_, ac, most, rp, rs, rc⟩ := r
  dsimp only at hw
  subst hw
  have HA := hid fun (V : World) (hV : Below w.heap.size w V) => h.below hV
  have HE : Hid (err (Rq.must ⟨6, kp, kl, kc, data, lp, lo, lc, hp, hi, hc, ap, at_, ac, most, rp, rs, rc⟩ d inside) = err (boxB lo hi d)) := hid (by simp [Rq.must])
  have HBG := hid (show rs.length ≤ 1000 from h.big.1)
  have HNA := hid (show at_.length ≤ 1000000 ∧ lo.length ≤ 1000000 from ⟨h.na, h.nl⟩)
  dsimp only [Rq.cells] at ⊢
  rw [HE.out]
  have e1 : decide (d < 1) = false := by simp; omega
  have e2 : decide (6 < d) = false := by simp; omega
  have HB0 := hid (below_alloc w (.cells #[.int .i64 6, .slice kp kl.length kc, .string data, .slice lp lo.length lc, .slice hp hi.length hc, .slice ap at_.length ac, .int .i64 most, .slice rp rs.length rc] 29))
  have HX := hid (heap_alloc_new w (.cells #[.int .i64 6, .slice kp kl.length kc, .string data, .slice lp lo.length lc, .slice hp hi.length hc, .slice ap at_.length ac, .int .i64 most, .slice rp rs.length rc] 29))
  have HL := hid (Array.getElem?_eq_some_iff.1 HX.out).1
  clear h h1 h6 HE
  have HC := hid fun (V : World) (hV : Below w.heap.size w V) => refCheckBox_ok lo hi lp hp lc hc d V (HA.out V hV).l (HA.out V hV).h (by have := HNA.out; omega)
  generalize (boxB lo hi d) = bb at *
  go_enter Try.func12, Try.ntmps12
  generalize hV0 : w.alloc (.cells #[.int .i64 6, .slice kp kl.length kc, .string data, .slice lp lo.length lc, .slice hp hi.length hc, .slice ap at_.length ac, .int .i64 most, .slice rp rs.length rc] 29) = V0 at *
  have hx := HX.out
  have y0 : V0.cell? ⟨w.heap.size, 0, none⟩ = some (.int .i64 6) := by rw [cell_of_row _ _ _ _ _ _ hx]; rfl
  have y1 : V0.cell? ⟨w.heap.size, 1, none⟩ = some (.slice kp kl.length kc) := by rw [cell_of_row _ _ _ _ _ _ hx]; rfl
  have y2 : V0.cell? ⟨w.heap.size, 2, none⟩ = some (.string data) := by rw [cell_of_row _ _ _ _ _ _ hx]; rfl
  have y3 : V0.cell? ⟨w.heap.size, 3, none⟩ = some (.slice lp lo.length lc) := by rw [cell_of_row _ _ _ _ _ _ hx]; rfl
  have y4 : V0.cell? ⟨w.heap.size, 4, none⟩ = some (.slice hp hi.length hc) := by rw [cell_of_row _ _ _ _ _ _ hx]; rfl
  have y5 : V0.cell? ⟨w.heap.size, 5, none⟩ = some (.slice ap at_.length ac) := by rw [cell_of_row _ _ _ _ _ _ hx]; rfl
  have y6 : V0.cell? ⟨w.heap.size, 6, none⟩ = some (.int .i64 most) := by rw [cell_of_row _ _ _ _ _ _ hx]; rfl
  have y7 : V0.cell? ⟨w.heap.size, 7, none⟩ = some (.slice rp rs.length rc) := by rw [cell_of_row _ _ _ _ _ _ hx]; rfl
  clear hx
  go_wp2_with fail
  refine (HC.out _ HB0.out).mono ?_
  rintro e w2 ⟨rfl, hb⟩
  have HB := hid (HB0.out.trans (hb.mono HB0.out.size))
  clear hb
  go_wp2_with fail
  go_ret
  exact ⟨rfl, HB.out⟩
set_option maxRecDepth 100000 in
set_option maxHeartbeats 4000000 in
theorem rcheck_5 (r : Rq) (d : Int) (inside : Bool) (w : World) (h : r.At w) (hw : r.what = 5) (h1 : 1 ≤ d) (h6 : d ≤ 6) :
    Calls Try.prog 12 #[.agg r.cells, .int .i64 d, .bool true, .bool inside] w fun e w' => e = .returned (.int .i64 (err (r.must d inside))) ∧ Below w.heap.size w w' := by
  obtain ⟨what, kp, kl, kc, data, lp, lo, lc, hp, hi, hc, ap, at_, ac, most, rp, rs, rc⟩ := r
  dsimp only at hw
  subst hw
  have HA := hid fun (V : World) (hV : Below w.heap.size w V) => h.below hV
  have HE : Hid (err (Rq.must ⟨5, kp, kl, kc, data, lp, lo, lc, hp, hi, hc, ap, at_, ac, most, rp, rs, rc⟩ d inside) = err (partOk d at_ kl)) := hid (by simp [Rq.must])
  have HBG := hid (show rs.length ≤ 1000 from h.big.1)
  have HNA := hid (show at_.length ≤ 1000000 ∧ lo.length ≤ 1000000 from ⟨h.na, h.nl⟩)
  dsimp only [Rq.cells] at ⊢
  rw [HE.out]
  have e1 : decide (d < 1) = false := by simp; omega
  have e2 : decide (6 < d) = false := by simp; omega
  have HB0 := hid (below_alloc w (.cells #[.int .i64 5, .slice kp kl.length kc, .string data, .slice lp lo.length lc, .slice hp hi.length hc, .slice ap at_.length ac, .int .i64 most, .slice rp rs.length rc] 29))
  have HX := hid (heap_alloc_new w (.cells #[.int .i64 5, .slice kp kl.length kc, .string data, .slice lp lo.length lc, .slice hp hi.length hc, .slice ap at_.length ac, .int .i64 most, .slice rp rs.length rc] 29))
  have HL := hid (Array.getElem?_eq_some_iff.1 HX.out).1
  clear h h1 h6 HE
  have HC := hid fun (V : World) (hV : Below w.heap.size w V) => refPartial_ok d at_ kl ap kp ac kc V (HA.out V hV).a (HA.out V hV).k HNA.out.1
  generalize partLo d at_ kl = lo1 at *
  generalize partHi d at_ kl = hi1 at *
  generalize partOk d at_ kl = bb at *
  go_enter Try.func12, Try.ntmps12
  generalize hV0 : w.alloc (.cells #[.int .i64 5, .slice kp kl.length kc, .string data, .slice lp lo.length lc, .slice hp hi.length hc, .slice ap at_.length ac, .int .i64 most, .slice rp rs.length rc] 29) = V0 at *
  have hx := HX.out
  have y0 : V0.cell? ⟨w.heap.size, 0, none⟩ = some (.int .i64 5) := by rw [cell_of_row _ _ _ _ _ _ hx]; rfl
  have y1 : V0.cell? ⟨w.heap.size, 1, none⟩ = some (.slice kp kl.length kc) := by rw [cell_of_row _ _ _ _ _ _ hx]; rfl
  have y2 : V0.cell? ⟨w.heap.size, 2, none⟩ = some (.string data) := by rw [cell_of_row _ _ _ _ _ _ hx]; rfl
  have y3 : V0.cell? ⟨w.heap.size, 3, none⟩ = some (.slice lp lo.length lc) := by rw [cell_of_row _ _ _ _ _ _ hx]; rfl
  have y4 : V0.cell? ⟨w.heap.size, 4, none⟩ = some (.slice hp hi.length hc) := by rw [cell_of_row _ _ _ _ _ _ hx]; rfl
  have y5 : V0.cell? ⟨w.heap.size, 5, none⟩ = some (.slice ap at_.length ac) := by rw [cell_of_row _ _ _ _ _ _ hx]; rfl
  have y6 : V0.cell? ⟨w.heap.size, 6, none⟩ = some (.int .i64 most) := by rw [cell_of_row _ _ _ _ _ _ hx]; rfl
  have y7 : V0.cell? ⟨w.heap.size, 7, none⟩ = some (.slice rp rs.length rc) := by rw [cell_of_row _ _ _ _ _ _ hx]; rfl
  clear hx
  go_wp2_with fail
  refine (HC.out _ HB0.out).mono ?_
  rintro e w2 ⟨p1, c1, p2, c2, rfl, _, _, hb⟩
  have HB := hid (HB0.out.trans (hb.mono HB0.out.size))
  clear hb
  have HB2 := hid (HB.out.alloc HB.out.size (.cells #[.slice p1 lo1.length c1, .slice p2 hi1.length c2] 25))
  go_wp2_with fail
  go_ret
  exact ⟨rfl, HB2.out⟩
set_option maxRecDepth 100000 in
set_option maxHeartbeats 4000000 in
theorem rcheck_7 (r : Rq) (d : Int) (inside : Bool) (w : World) (h : r.At w) (hw : r.what = 7) (h1 : 1 ≤ d) (h6 : d ≤ 6) :
    Calls Try.prog 12 #[.agg r.cells, .int .i64 d, .bool true, .bool inside] w fun e w' => e = .returned (.int .i64 (err (r.must d inside))) ∧ Below w.heap.size w w' := by
  obtain ⟨what, kp, kl, kc, data, lp, lo, lc, hp, hi, hc, ap, at_, ac, most, rp, rs, rc⟩ := r
  dsimp only at hw
  subst hw
  have HA := hid fun (V : World) (hV : Below w.heap.size w V) => h.below hV
  have HE : Hid (err (Rq.must ⟨7, kp, kl, kc, data, lp, lo, lc, hp, hi, hc, ap, at_, ac, most, rp, rs, rc⟩ d inside) = err (checkB kl.length d && (decide (0 ≤ most) && decide (most ≤ 1000)))) := hid (by simp [Rq.must])
  have HBG := hid (show rs.length ≤ 1000 from h.big.1)
  have HNA := hid (show at_.length ≤ 1000000 ∧ lo.length ≤ 1000000 from ⟨h.na, h.nl⟩)
  dsimp only [Rq.cells] at ⊢
  rw [HE.out]
  have e1 : decide (d < 1) = false := by simp; omega
  have e2 : decide (6 < d) = false := by simp; omega
  have HB0 := hid (below_alloc w (.cells #[.int .i64 7, .slice kp kl.length kc, .string data, .slice lp lo.length lc, .slice hp hi.length hc, .slice ap at_.length ac, .int .i64 most, .slice rp rs.length rc] 29))
  have HX := hid (heap_alloc_new w (.cells #[.int .i64 7, .slice kp kl.length kc, .string data, .slice lp lo.length lc, .slice hp hi.length hc, .slice ap at_.length ac, .int .i64 most, .slice rp rs.length rc] 29))
  have HL := hid (Array.getElem?_eq_some_iff.1 HX.out).1
  clear h h1 h6 HE
  have HC := hid fun (V : World) => refCheck_ok kp kl.length kc d V
  generalize checkB kl.length d = bb at *
  by_cases h0 : most < 0
  · have g0 : decide (most < 0) = true := decide_eq_true h0
    have g1 : decide (0 ≤ most) = false := decide_eq_false (by omega)
    rw [g1, Bool.false_and, Bool.and_false, err_false false rfl]
    clear h0
    go_enter Try.func12, Try.ntmps12
    generalize hV0 : w.alloc (.cells #[.int .i64 7, .slice kp kl.length kc, .string data, .slice lp lo.length lc, .slice hp hi.length hc, .slice ap at_.length ac, .int .i64 most, .slice rp rs.length rc] 29) = V0 at *
    have hx := HX.out
    have y0 : V0.cell? ⟨w.heap.size, 0, none⟩ = some (.int .i64 7) := by rw [cell_of_row _ _ _ _ _ _ hx]; rfl
    have y1 : V0.cell? ⟨w.heap.size, 1, none⟩ = some (.slice kp kl.length kc) := by rw [cell_of_row _ _ _ _ _ _ hx]; rfl
    have y2 : V0.cell? ⟨w.heap.size, 2, none⟩ = some (.string data) := by rw [cell_of_row _ _ _ _ _ _ hx]; rfl
    have y3 : V0.cell? ⟨w.heap.size, 3, none⟩ = some (.slice lp lo.length lc) := by rw [cell_of_row _ _ _ _ _ _ hx]; rfl
    have y4 : V0.cell? ⟨w.heap.size, 4, none⟩ = some (.slice hp hi.length hc) := by rw [cell_of_row _ _ _ _ _ _ hx]; rfl
    have y5 : V0.cell? ⟨w.heap.size, 5, none⟩ = some (.slice ap at_.length ac) := by rw [cell_of_row _ _ _ _ _ _ hx]; rfl
    have y6 : V0.cell? ⟨w.heap.size, 6, none⟩ = some (.int .i64 most) := by rw [cell_of_row _ _ _ _ _ _ hx]; rfl
    have y7 : V0.cell? ⟨w.heap.size, 7, none⟩ = some (.slice rp rs.length rc) := by rw [cell_of_row _ _ _ _ _ _ hx]; rfl
    clear hx
    go_wp2_with fail
    go_ret
    exact ⟨rfl, HB0.out⟩
  · have g0 : decide (most < 0) = false := decide_eq_false h0
    have g1 : decide (0 ≤ most) = true := decide_eq_true (by omega)
    by_cases h2 : 1000 < most
    · have g2 : decide (1000 < most) = true := decide_eq_true h2
      have g3 : decide (most ≤ 1000) = false := decide_eq_false (by omega)
      rw [g3, Bool.and_false, Bool.and_false, err_false false rfl]
      clear h0 h2
      go_enter Try.func12, Try.ntmps12
      generalize hV0 : w.alloc (.cells #[.int .i64 7, .slice kp kl.length kc, .string data, .slice lp lo.length lc, .slice hp hi.length hc, .slice ap at_.length ac, .int .i64 most, .slice rp rs.length rc] 29) = V0 at *
      have hx := HX.out
      have y0 : V0.cell? ⟨w.heap.size, 0, none⟩ = some (.int .i64 7) := by rw [cell_of_row _ _ _ _ _ _ hx]; rfl
      have y1 : V0.cell? ⟨w.heap.size, 1, none⟩ = some (.slice kp kl.length kc) := by rw [cell_of_row _ _ _ _ _ _ hx]; rfl
      have y2 : V0.cell? ⟨w.heap.size, 2, none⟩ = some (.string data) := by rw [cell_of_row _ _ _ _ _ _ hx]; rfl
      have y3 : V0.cell? ⟨w.heap.size, 3, none⟩ = some (.slice lp lo.length lc) := by rw [cell_of_row _ _ _ _ _ _ hx]; rfl
      have y4 : V0.cell? ⟨w.heap.size, 4, none⟩ = some (.slice hp hi.length hc) := by rw [cell_of_row _ _ _ _ _ _ hx]; rfl
      have y5 : V0.cell? ⟨w.heap.size, 5, none⟩ = some (.slice ap at_.length ac) := by rw [cell_of_row _ _ _ _ _ _ hx]; rfl
      have y6 : V0.cell? ⟨w.heap.size, 6, none⟩ = some (.int .i64 most) := by rw [cell_of_row _ _ _ _ _ _ hx]; rfl
      have y7 : V0.cell? ⟨w.heap.size, 7, none⟩ = some (.slice rp rs.length rc) := by rw [cell_of_row _ _ _ _ _ _ hx]; rfl
      clear hx
      go_wp2_with fail
      go_ret
      exact ⟨rfl, HB0.out⟩
    · have g2 : decide (1000 < most) = false := decide_eq_false h2
      have g3 : decide (most ≤ 1000) = true := decide_eq_true (by omega)
      rw [g3, g1, Bool.and_true, Bool.and_true]
      clear h0 h2
      go_enter Try.func12, Try.ntmps12
      generalize hV0 : w.alloc (.cells #[.int .i64 7, .slice kp kl.length kc, .string data, .slice lp lo.length lc, .slice hp hi.length hc, .slice ap at_.length ac, .int .i64 most, .slice rp rs.length rc] 29) = V0 at *
      have hx := HX.out
      have y0 : V0.cell? ⟨w.heap.size, 0, none⟩ = some (.int .i64 7) := by rw [cell_of_row _ _ _ _ _ _ hx]; rfl
      have y1 : V0.cell? ⟨w.heap.size, 1, none⟩ = some (.slice kp kl.length kc) := by rw [cell_of_row _ _ _ _ _ _ hx]; rfl
      have y2 : V0.cell? ⟨w.heap.size, 2, none⟩ = some (.string data) := by rw [cell_of_row _ _ _ _ _ _ hx]; rfl
      have y3 : V0.cell? ⟨w.heap.size, 3, none⟩ = some (.slice lp lo.length lc) := by rw [cell_of_row _ _ _ _ _ _ hx]; rfl
      have y4 : V0.cell? ⟨w.heap.size, 4, none⟩ = some (.slice hp hi.length hc) := by rw [cell_of_row _ _ _ _ _ _ hx]; rfl
      have y5 : V0.cell? ⟨w.heap.size, 5, none⟩ = some (.slice ap at_.length ac) := by rw [cell_of_row _ _ _ _ _ _ hx]; rfl
      have y6 : V0.cell? ⟨w.heap.size, 6, none⟩ = some (.int .i64 most) := by rw [cell_of_row _ _ _ _ _ _ hx]; rfl
      have y7 : V0.cell? ⟨w.heap.size, 7, none⟩ = some (.slice rp rs.length rc) := by rw [cell_of_row _ _ _ _ _ _ hx]; rfl
      clear hx
      go_wp2_with fail
      refine (HC.out _).mono ?_
      rintro e w2 ⟨rfl, rfl⟩
      go_wp2_with fail
      go_ret
      exact ⟨rfl, HB0.out⟩
set_option maxRecDepth 100000 in
set_option maxHeartbeats 4000000 in
theorem rcheck_8 (r : Rq) (d : Int) (inside : Bool) (w : World) (h : r.At w) (hw : r.what = 8) (h1 : 1 ≤ d) (h6 : d ≤ 6) :
    Calls Try.prog 12 #[.agg r.cells, .int .i64 d, .bool true, .bool inside] w fun e w' => e = .returned (.int .i64 (err (r.must d inside))) ∧ Below w.heap.size w w' := by
  obtain ⟨what, kp, kl, kc, data, lp, lo, lc, hp, hi, hc, ap, at_, ac, most, rp, rs, rc⟩ := r
  dsimp only at hw
  subst hw
  have HA := hid fun (V : World) (hV : Below w.heap.size w V) => h.below hV
  have HE : Hid (err (Rq.must ⟨8, kp, kl, kc, data, lp, lo, lc, hp, hi, hc, ap, at_, ac, most, rp, rs, rc⟩ d inside) = err (decide (rs.length ≤ 1000) && mayAll rs d)) := hid (by simp [Rq.must])
  have HBG := hid (show rs.length ≤ 1000 from h.big.1)
  have HNA := hid (show at_.length ≤ 1000000 ∧ lo.length ≤ 1000000 from ⟨h.na, h.nl⟩)
  dsimp only [Rq.cells] at ⊢
  rw [HE.out]
  have e1 : decide (d < 1) = false := by simp; omega
  have e2 : decide (6 < d) = false := by simp; omega
  have HB0 := hid (below_alloc w (.cells #[.int .i64 8, .slice kp kl.length kc, .string data, .slice lp lo.length lc, .slice hp hi.length hc, .slice ap at_.length ac, .int .i64 most, .slice rp rs.length rc] 29))
  have HX := hid (heap_alloc_new w (.cells #[.int .i64 8, .slice kp kl.length kc, .string data, .slice lp lo.length lc, .slice hp hi.length hc, .slice ap at_.length ac, .int .i64 most, .slice rp rs.length rc] 29))
  have HL := hid (Array.getElem?_eq_some_iff.1 HX.out).1
  clear h h1 h6 HE
  have HC := hid fun (V : World) (kn c : Nat) (q : Option Addr) (t : ByteArray) => refCheckR_ok q kn c t d V
  have g0 : decide (1000 < (rs.length : Int)) = false := by have := HBG.out; simp; omega
  have h1' : decide (rs.length ≤ 1000) = true := decide_eq_true HBG.out
  rw [h1', Bool.true_and]
  clear h1'
  go_enter Try.func12, Try.ntmps12
  generalize hV0 : w.alloc (.cells #[.int .i64 8, .slice kp kl.length kc, .string data, .slice lp lo.length lc, .slice hp hi.length hc, .slice ap at_.length ac, .int .i64 most, .slice rp rs.length rc] 29) = V0 at *
  have hx := HX.out
  have y0 : V0.cell? ⟨w.heap.size, 0, none⟩ = some (.int .i64 8) := by rw [cell_of_row _ _ _ _ _ _ hx]; rfl
  have y1 : V0.cell? ⟨w.heap.size, 1, none⟩ = some (.slice kp kl.length kc) := by rw [cell_of_row _ _ _ _ _ _ hx]; rfl
  have y2 : V0.cell? ⟨w.heap.size, 2, none⟩ = some (.string data) := by rw [cell_of_row _ _ _ _ _ _ hx]; rfl
  have y3 : V0.cell? ⟨w.heap.size, 3, none⟩ = some (.slice lp lo.length lc) := by rw [cell_of_row _ _ _ _ _ _ hx]; rfl
  have y4 : V0.cell? ⟨w.heap.size, 4, none⟩ = some (.slice hp hi.length hc) := by rw [cell_of_row _ _ _ _ _ _ hx]; rfl
  have y5 : V0.cell? ⟨w.heap.size, 5, none⟩ = some (.slice ap at_.length ac) := by rw [cell_of_row _ _ _ _ _ _ hx]; rfl
  have y6 : V0.cell? ⟨w.heap.size, 6, none⟩ = some (.int .i64 most) := by rw [cell_of_row _ _ _ _ _ _ hx]; rfl
  have y7 : V0.cell? ⟨w.heap.size, 7, none⟩ = some (.slice rp rs.length rc) := by rw [cell_of_row _ _ _ _ _ _ hx]; rfl
  clear hx
  go_wp2_with fail
  go_loopw [11] (fun i wr => ∃ k : Nat, k ≤ rs.length ∧ i = .int .i64 k ∧ mayAll (rs.take k) d = true ∧ Below V0.heap.size V0 wr) (fun i _ => rs.length - (intOf i).toNat)
  case atStart => exact ⟨0, by omega, rfl, rfl, Below.refl _ _⟩
  case round =>
    obtain ⟨k, hk, rfl, ha, hb⟩ := hrel
    have HM := hid ha; have HB := hid hb
    have hx := (hb.block _ HL.out).trans HX.out
    clear ha hb
    have z7 : wr.cell? ⟨w.heap.size, 7, none⟩ = some (.slice rp rs.length rc) := by rw [cell_of_row _ _ _ _ _ _ hx]; rfl
    clear hx
    have HBW := hid (HB0.out.trans (HB.out.mono HB0.out.size))
    by_cases hlt : k < rs.length
    · obtain ⟨b, off, q, c1, rfl, _, d1, d2, hq⟩ := (HA.out wr HBW.out).s.at k hlt
      have HW := hid (show wrap64 ((k : Int) + 1) = ((k + 1 : Nat) : Int) from Go.IntWalk.wrap64_in _ (by have := HBG.out; omega))
      have HCW := hid (HC.out wr rs[k].1.length c1 q rs[k].2)
      have HE : Hid ((checkB rs[k].1.length d && decide (rs[k].2.size ≤ 40)) = mayR rs[k] d) := hid (by unfold mayR checkB mayB; rw [Bool.and_assoc]; congr 1; rw [Bool.eq_iff_iff]; simp)
      cases hin : mayR rs[k] d with
      | false =>
        have HR : Hid (mayAll rs d = false) := hid (mayAll_no hlt hin)
        rw [HE.out, hin, err_false false rfl] at HCW
        clear hin HE hq
        generalize rs[k].1.length = x at d1 HCW
        generalize rs[k].2 = t at d2 HCW
        go_wp2_with fail
        refine HCW.out.mono ?_
        rintro e w2 ⟨rfl, hb⟩
        have HB2 := hid (HBW.out.trans (hb.mono HBW.out.size))
        clear hb
        go_wp2_with fail
        go_ret
        exact ⟨by rw [HR.out]; rfl, HB2.out⟩
      | true =>
        have HN2 : Hid (mayAll (rs.take (k + 1)) d = true) := hid (mayAll_take hlt HM.out hin)
        rw [HE.out, hin, err_true true rfl] at HCW
        clear hin HE hq
        generalize rs[k].1.length = x at d1 HCW
        generalize rs[k].2 = t at d2 HCW
        go_wp2_with fail
        refine HCW.out.mono ?_
        rintro e w2 ⟨rfl, hb⟩
        have HB2 := hid (HB.out.trans (hb.mono HB.out.size))
        clear hb
        go_wp2_with fail
        go_roundw
        case rel => exact ⟨k + 1, by omega, by rw [HW.out], HN2.out, HB2.out⟩
        case measure => rw [HW.out]; simp [intOf]; omega
    · obtain rfl : k = rs.length := by omega
      have HR : Hid (mayAll rs d = true) := hid (by have := HM.out; rw [List.take_length] at this; exact this)
      go_wp2_with fail
      go_ret
      exact ⟨by rw [HR.out]; rfl, HBW.out⟩
set_option maxRecDepth 100000 in
set_option maxHeartbeats 4000000 in
theorem rcheck_9 (r : Rq) (d : Int) (inside : Bool) (w : World) (h : r.At w) (hw : r.what = 9) (h1 : 1 ≤ d) (h6 : d ≤ 6) :
    Calls Try.prog 12 #[.agg r.cells, .int .i64 d, .bool true, .bool inside] w fun e w' => e = .returned (.int .i64 (err (r.must d inside))) ∧ Below w.heap.size w w' := by
  obtain ⟨what, kp, kl, kc, data, lp, lo, lc, hp, hi, hc, ap, at_, ac, most, rp, rs, rc⟩ := r
  dsimp only at hw
  subst hw
  have HA := hid fun (V : World) (hV : Below w.heap.size w V) => h.below hV
  have HE : Hid (err (Rq.must ⟨9, kp, kl, kc, data, lp, lo, lc, hp, hi, hc, ap, at_, ac, most, rp, rs, rc⟩ d inside) = err (!inside)) := hid (by simp [Rq.must])
  have HBG := hid (show rs.length ≤ 1000 from h.big.1)
  have HNA := hid (show at_.length ≤ 1000000 ∧ lo.length ≤ 1000000 from ⟨h.na, h.nl⟩)
  dsimp only [Rq.cells] at ⊢
  rw [HE.out]
  have e1 : decide (d < 1) = false := by simp; omega
  have e2 : decide (6 < d) = false := by simp; omega
  have HB0 := hid (below_alloc w (.cells #[.int .i64 9, .slice kp kl.length kc, .string data, .slice lp lo.length lc, .slice hp hi.length hc, .slice ap at_.length ac, .int .i64 most, .slice rp rs.length rc] 29))
  have HX := hid (heap_alloc_new w (.cells #[.int .i64 9, .slice kp kl.length kc, .string data, .slice lp lo.length lc, .slice hp hi.length hc, .slice ap at_.length ac, .int .i64 most, .slice rp rs.length rc] 29))
  have HL := hid (Array.getElem?_eq_some_iff.1 HX.out).1
  clear h h1 h6 HE
  cases inside
  all_goals
    go_enter Try.func12, Try.ntmps12
    generalize hV0 : w.alloc (.cells #[.int .i64 9, .slice kp kl.length kc, .string data, .slice lp lo.length lc, .slice hp hi.length hc, .slice ap at_.length ac, .int .i64 most, .slice rp rs.length rc] 29) = V0 at *
    have hx := HX.out
    have y0 : V0.cell? ⟨w.heap.size, 0, none⟩ = some (.int .i64 9) := by rw [cell_of_row _ _ _ _ _ _ hx]; rfl
    have y1 : V0.cell? ⟨w.heap.size, 1, none⟩ = some (.slice kp kl.length kc) := by rw [cell_of_row _ _ _ _ _ _ hx]; rfl
    have y2 : V0.cell? ⟨w.heap.size, 2, none⟩ = some (.string data) := by rw [cell_of_row _ _ _ _ _ _ hx]; rfl
    have y3 : V0.cell? ⟨w.heap.size, 3, none⟩ = some (.slice lp lo.length lc) := by rw [cell_of_row _ _ _ _ _ _ hx]; rfl
    have y4 : V0.cell? ⟨w.heap.size, 4, none⟩ = some (.slice hp hi.length hc) := by rw [cell_of_row _ _ _ _ _ _ hx]; rfl
    have y5 : V0.cell? ⟨w.heap.size, 5, none⟩ = some (.slice ap at_.length ac) := by rw [cell_of_row _ _ _ _ _ _ hx]; rfl
    have y6 : V0.cell? ⟨w.heap.size, 6, none⟩ = some (.int .i64 most) := by rw [cell_of_row _ _ _ _ _ _ hx]; rfl
    have y7 : V0.cell? ⟨w.heap.size, 7, none⟩ = some (.slice rp rs.length rc) := by rw [cell_of_row _ _ _ _ _ _ hx]; rfl
    clear hx
    go_wp2_with fail
    go_ret
    exact ⟨rfl, HB0.out⟩
set_option maxRecDepth 100000 in
set_option maxHeartbeats 4000000 in
theorem rcheck_10 (r : Rq) (d : Int) (inside : Bool) (w : World) (h : r.At w) (hw : r.what = 10) (h1 : 1 ≤ d) (h6 : d ≤ 6) :
    Calls Try.prog 12 #[.agg r.cells, .int .i64 d, .bool true, .bool inside] w fun e w' => e = .returned (.int .i64 (err (r.must d inside))) ∧ Below w.heap.size w w' := by
  obtain ⟨what, kp, kl, kc, data, lp, lo, lc, hp, hi, hc, ap, at_, ac, most, rp, rs, rc⟩ := r
  dsimp only at hw
  subst hw
  have HA := hid fun (V : World) (hV : Below w.heap.size w V) => h.below hV
  have HE : Hid (err (Rq.must ⟨10, kp, kl, kc, data, lp, lo, lc, hp, hi, hc, ap, at_, ac, most, rp, rs, rc⟩ d inside) = err (inside)) := hid (by simp [Rq.must])
  have HBG := hid (show rs.length ≤ 1000 from h.big.1)
  have HNA := hid (show at_.length ≤ 1000000 ∧ lo.length ≤ 1000000 from ⟨h.na, h.nl⟩)
  dsimp only [Rq.cells] at ⊢
  rw [HE.out]
  have e1 : decide (d < 1) = false := by simp; omega
  have e2 : decide (6 < d) = false := by simp; omega
  have HB0 := hid (below_alloc w (.cells #[.int .i64 10, .slice kp kl.length kc, .string data, .slice lp lo.length lc, .slice hp hi.length hc, .slice ap at_.length ac, .int .i64 most, .slice rp rs.length rc] 29))
  have HX := hid (heap_alloc_new w (.cells #[.int .i64 10, .slice kp kl.length kc, .string data, .slice lp lo.length lc, .slice hp hi.length hc, .slice ap at_.length ac, .int .i64 most, .slice rp rs.length rc] 29))
  have HL := hid (Array.getElem?_eq_some_iff.1 HX.out).1
  clear h h1 h6 HE
  cases inside
  all_goals
    go_enter Try.func12, Try.ntmps12
    generalize hV0 : w.alloc (.cells #[.int .i64 10, .slice kp kl.length kc, .string data, .slice lp lo.length lc, .slice hp hi.length hc, .slice ap at_.length ac, .int .i64 most, .slice rp rs.length rc] 29) = V0 at *
    have hx := HX.out
    have y0 : V0.cell? ⟨w.heap.size, 0, none⟩ = some (.int .i64 10) := by rw [cell_of_row _ _ _ _ _ _ hx]; rfl
    have y1 : V0.cell? ⟨w.heap.size, 1, none⟩ = some (.slice kp kl.length kc) := by rw [cell_of_row _ _ _ _ _ _ hx]; rfl
    have y2 : V0.cell? ⟨w.heap.size, 2, none⟩ = some (.string data) := by rw [cell_of_row _ _ _ _ _ _ hx]; rfl
    have y3 : V0.cell? ⟨w.heap.size, 3, none⟩ = some (.slice lp lo.length lc) := by rw [cell_of_row _ _ _ _ _ _ hx]; rfl
    have y4 : V0.cell? ⟨w.heap.size, 4, none⟩ = some (.slice hp hi.length hc) := by rw [cell_of_row _ _ _ _ _ _ hx]; rfl
    have y5 : V0.cell? ⟨w.heap.size, 5, none⟩ = some (.slice ap at_.length ac) := by rw [cell_of_row _ _ _ _ _ _ hx]; rfl
    have y6 : V0.cell? ⟨w.heap.size, 6, none⟩ = some (.int .i64 most) := by rw [cell_of_row _ _ _ _ _ _ hx]; rfl
    have y7 : V0.cell? ⟨w.heap.size, 7, none⟩ = some (.slice rp rs.length rc) := by rw [cell_of_row _ _ _ _ _ _ hx]; rfl
    clear hx
    go_wp2_with fail
    go_ret
    exact ⟨rfl, HB0.out⟩
set_option maxRecDepth 100000 in
set_option maxHeartbeats 4000000 in
theorem rcheck_11 (r : Rq) (d : Int) (inside : Bool) (w : World) (h : r.At w) (hw : r.what = 11) (h1 : 1 ≤ d) (h6 : d ≤ 6) :
    Calls Try.prog 12 #[.agg r.cells, .int .i64 d, .bool true, .bool inside] w fun e w' => e = .returned (.int .i64 (err (r.must d inside))) ∧ Below w.heap.size w w' := by
  obtain ⟨what, kp, kl, kc, data, lp, lo, lc, hp, hi, hc, ap, at_, ac, most, rp, rs, rc⟩ := r
  dsimp only at hw
  subst hw
  have HA := hid fun (V : World) (hV : Below w.heap.size w V) => h.below hV
  have HE : Hid (err (Rq.must ⟨11, kp, kl, kc, data, lp, lo, lc, hp, hi, hc, ap, at_, ac, most, rp, rs, rc⟩ d inside) = err (inside)) := hid (by simp [Rq.must])
  have HBG := hid (show rs.length ≤ 1000 from h.big.1)
  have HNA := hid (show at_.length ≤ 1000000 ∧ lo.length ≤ 1000000 from ⟨h.na, h.nl⟩)
  dsimp only [Rq.cells] at ⊢
  rw [HE.out]
  have e1 : decide (d < 1) = false := by simp; omega
  have e2 : decide (6 < d) = false := by simp; omega
  have HB0 := hid (below_alloc w (.cells #[.int .i64 11, .slice kp kl.length kc, .string data, .slice lp lo.length lc, .slice hp hi.length hc, .slice ap at_.length ac, .int .i64 most, .slice rp rs.length rc] 29))
  have HX := hid (heap_alloc_new w (.cells #[.int .i64 11, .slice kp kl.length kc, .string data, .slice lp lo.length lc, .slice hp hi.length hc, .slice ap at_.length ac, .int .i64 most, .slice rp rs.length rc] 29))
  have HL := hid (Array.getElem?_eq_some_iff.1 HX.out).1
  clear h h1 h6 HE
  cases inside
  all_goals
    go_enter Try.func12, Try.ntmps12
    generalize hV0 : w.alloc (.cells #[.int .i64 11, .slice kp kl.length kc, .string data, .slice lp lo.length lc, .slice hp hi.length hc, .slice ap at_.length ac, .int .i64 most, .slice rp rs.length rc] 29) = V0 at *
    have hx := HX.out
    have y0 : V0.cell? ⟨w.heap.size, 0, none⟩ = some (.int .i64 11) := by rw [cell_of_row _ _ _ _ _ _ hx]; rfl
    have y1 : V0.cell? ⟨w.heap.size, 1, none⟩ = some (.slice kp kl.length kc) := by rw [cell_of_row _ _ _ _ _ _ hx]; rfl
    have y2 : V0.cell? ⟨w.heap.size, 2, none⟩ = some (.string data) := by rw [cell_of_row _ _ _ _ _ _ hx]; rfl
    have y3 : V0.cell? ⟨w.heap.size, 3, none⟩ = some (.slice lp lo.length lc) := by rw [cell_of_row _ _ _ _ _ _ hx]; rfl
    have y4 : V0.cell? ⟨w.heap.size, 4, none⟩ = some (.slice hp hi.length hc) := by rw [cell_of_row _ _ _ _ _ _ hx]; rfl
    have y5 : V0.cell? ⟨w.heap.size, 5, none⟩ = some (.slice ap at_.length ac) := by rw [cell_of_row _ _ _ _ _ _ hx]; rfl
    have y6 : V0.cell? ⟨w.heap.size, 6, none⟩ = some (.int .i64 most) := by rw [cell_of_row _ _ _ _ _ _ hx]; rfl
    have y7 : V0.cell? ⟨w.heap.size, 7, none⟩ = some (.slice rp rs.length rc) := by rw [cell_of_row _ _ _ _ _ _ hx]; rfl
    clear hx
    go_wp2_with fail
    go_ret
    exact ⟨rfl, HB0.out⟩
set_option maxRecDepth 100000 in
set_option maxHeartbeats 4000000 in
theorem rcheck_12 (r : Rq) (d : Int) (inside : Bool) (w : World) (h : r.At w) (hw : r.what = 12) (h1 : 1 ≤ d) (h6 : d ≤ 6) :
    Calls Try.prog 12 #[.agg r.cells, .int .i64 d, .bool true, .bool inside] w fun e w' => e = .returned (.int .i64 (err (r.must d inside))) ∧ Below w.heap.size w w' := by
  obtain ⟨what, kp, kl, kc, data, lp, lo, lc, hp, hi, hc, ap, at_, ac, most, rp, rs, rc⟩ := r
  dsimp only at hw
  subst hw
  have HA := hid fun (V : World) (hV : Below w.heap.size w V) => h.below hV
  have HE : Hid (err (Rq.must ⟨12, kp, kl, kc, data, lp, lo, lc, hp, hi, hc, ap, at_, ac, most, rp, rs, rc⟩ d inside) = err (true)) := hid (by simp [Rq.must])
  have HBG := hid (show rs.length ≤ 1000 from h.big.1)
  have HNA := hid (show at_.length ≤ 1000000 ∧ lo.length ≤ 1000000 from ⟨h.na, h.nl⟩)
  dsimp only [Rq.cells] at ⊢
  rw [HE.out]
  have e1 : decide (d < 1) = false := by simp; omega
  have e2 : decide (6 < d) = false := by simp; omega
  have HB0 := hid (below_alloc w (.cells #[.int .i64 12, .slice kp kl.length kc, .string data, .slice lp lo.length lc, .slice hp hi.length hc, .slice ap at_.length ac, .int .i64 most, .slice rp rs.length rc] 29))
  have HX := hid (heap_alloc_new w (.cells #[.int .i64 12, .slice kp kl.length kc, .string data, .slice lp lo.length lc, .slice hp hi.length hc, .slice ap at_.length ac, .int .i64 most, .slice rp rs.length rc] 29))
  have HL := hid (Array.getElem?_eq_some_iff.1 HX.out).1
  clear h h1 h6 HE
  go_enter Try.func12, Try.ntmps12
  generalize hV0 : w.alloc (.cells #[.int .i64 12, .slice kp kl.length kc, .string data, .slice lp lo.length lc, .slice hp hi.length hc, .slice ap at_.length ac, .int .i64 most, .slice rp rs.length rc] 29) = V0 at *
  have hx := HX.out
  have y0 : V0.cell? ⟨w.heap.size, 0, none⟩ = some (.int .i64 12) := by rw [cell_of_row _ _ _ _ _ _ hx]; rfl
  have y1 : V0.cell? ⟨w.heap.size, 1, none⟩ = some (.slice kp kl.length kc) := by rw [cell_of_row _ _ _ _ _ _ hx]; rfl
  have y2 : V0.cell? ⟨w.heap.size, 2, none⟩ = some (.string data) := by rw [cell_of_row _ _ _ _ _ _ hx]; rfl
  have y3 : V0.cell? ⟨w.heap.size, 3, none⟩ = some (.slice lp lo.length lc) := by rw [cell_of_row _ _ _ _ _ _ hx]; rfl
  have y4 : V0.cell? ⟨w.heap.size, 4, none⟩ = some (.slice hp hi.length hc) := by rw [cell_of_row _ _ _ _ _ _ hx]; rfl
  have y5 : V0.cell? ⟨w.heap.size, 5, none⟩ = some (.slice ap at_.length ac) := by rw [cell_of_row _ _ _ _ _ _ hx]; rfl
  have y6 : V0.cell? ⟨w.heap.size, 6, none⟩ = some (.int .i64 most) := by rw [cell_of_row _ _ _ _ _ _ hx]; rfl
  have y7 : V0.cell? ⟨w.heap.size, 7, none⟩ = some (.slice rp rs.length rc) := by rw [cell_of_row _ _ _ _ _ _ hx]; rfl
  clear hx
  go_wp2_with fail
  go_ret
  exact ⟨rfl, HB0.out⟩
set_option maxRecDepth 100000 in
set_option maxHeartbeats 4000000 in
theorem rcheck_no (r : Rq) (d : Int) (isOpen inside : Bool) (w : World) (h : isOpen = false ∨ d < 1 ∨ 6 < d ∨ r.what < 1 ∨ 12 < r.what) :
    Calls Try.prog 12 #[.agg r.cells, .int .i64 d, .bool isOpen, .bool inside] w fun e w' => e = .returned (.int .i64 1) ∧ Below w.heap.size w w' := by
  obtain ⟨what, kp, kl, kc, data, lp, lo, lc, hp, hi, hc, ap, at_, ac, most, rp, rs, rc⟩ := r
  dsimp only at h
  dsimp only [Rq.cells]
  have HB0 := hid (below_alloc w (.cells #[.int .i64 what, .slice kp kl.length kc, .string data, .slice lp lo.length lc, .slice hp hi.length hc, .slice ap at_.length ac, .int .i64 most, .slice rp rs.length rc] 29))
  cases isOpen with
  | false =>
    clear h
    go_enter Try.func12, Try.ntmps12
    go_wp2_with fail
    go_ret
    exact ⟨rfl, HB0.out⟩
  | true =>
    by_cases h1 : d < 1
    · have e1 : decide (d < 1) = true := decide_eq_true h1
      clear h h1
      go_enter Try.func12, Try.ntmps12
      go_wp2_with fail
      go_ret
      exact ⟨rfl, HB0.out⟩
    · have e1 : decide (d < 1) = false := decide_eq_false h1
      by_cases h2 : 6 < d
      · have e2 : decide (6 < d) = true := decide_eq_true h2
        clear h h1 h2
        go_enter Try.func12, Try.ntmps12
        go_wp2_with fail
        go_ret
        exact ⟨rfl, HB0.out⟩
      · have e2 : decide (6 < d) = false := decide_eq_false h2
        have hw : what < 1 ∨ 12 < what := by rcases h with h | h | h | h | h <;> first | cases h | omega
        have k1 : (what == 1) = false := by simp; omega
        have k2 : (what == 2) = false := by simp; omega
        have k3 : (what == 3) = false := by simp; omega
        have k4 : (what == 4) = false := by simp; omega
        have k5 : (what == 5) = false := by simp; omega
        have k6 : (what == 6) = false := by simp; omega
        have k7 : (what == 7) = false := by simp; omega
        have k8 : (what == 8) = false := by simp; omega
        have k9 : (what == 9) = false := by simp; omega
        have k10 : (what == 10) = false := by simp; omega
        have k11 : (what == 11) = false := by simp; omega
        have k12 : (what == 12) = false := by simp; omega
        clear h h1 h2 hw
        go_enter Try.func12, Try.ntmps12
        go_wp2_with fail
        go_ret
        exact ⟨rfl, HB0.out⟩
/-- the document's Check, whatever is asked of whichever store -/
theorem rcheck_any (r : Rq) (d : Int) (isOpen inside : Bool) (w : World) (h : r.At w) :
    Calls Try.prog 12 #[.agg r.cells, .int .i64 d, .bool isOpen, .bool inside] w fun e w' => e = .returned (.int .i64 (err (r.may d isOpen inside))) ∧ Below w.heap.size w w' := by
  by_cases hno : isOpen = false ∨ d < 1 ∨ 6 < d ∨ r.what < 1 ∨ 12 < r.what
  · have e : r.may d isOpen inside = false := by
      unfold Rq.may
      rcases hno with h | h | h | h | h
      · rw [h]; rfl
      · have : mayB d = false := by simp [mayB]; omega
        rw [this]; cases isOpen <;> rfl
      · have : mayB d = false := by simp [mayB]; omega
        rw [this]; cases isOpen <;> rfl
      · have : r.must d inside = false := by
          unfold Rq.must
          rw [if_neg (by omega), if_neg (by omega), if_neg (by omega), if_neg (by omega), if_neg (by omega), if_neg (by omega), if_neg (by omega), if_neg (by omega)]; simp; omega
        rw [this]; simp
      · have : r.must d inside = false := by
          unfold Rq.must
          rw [if_neg (by omega), if_neg (by omega), if_neg (by omega), if_neg (by omega), if_neg (by omega), if_neg (by omega), if_neg (by omega), if_neg (by omega)]; simp; omega
        rw [this]; simp
    rw [e, err_false false rfl]
    exact rcheck_no r d isOpen inside w hno
  · have ho : isOpen = true := by cases isOpen <;> simp_all
    subst ho
    have h1 : 1 ≤ d := by omega
    have h6 : d ≤ 6 := by omega
    have e : r.may d true inside = r.must d inside := by
      unfold Rq.may
      have : mayB d = true := by simp [mayB]; omega
      rw [this]; rfl
    rw [e]
    have hw : r.what = 1 ∨ r.what = 2 ∨ r.what = 3 ∨ r.what = 4 ∨ r.what = 5 ∨ r.what = 6 ∨ r.what = 7 ∨ r.what = 8 ∨ r.what = 9 ∨ r.what = 10 ∨ r.what = 11 ∨ r.what = 12 := by omega
    rcases hw with hw | hw | hw | hw | hw | hw | hw | hw | hw | hw | hw | hw
    · exact rcheck_1 r d inside w h hw h1 h6
    · exact rcheck_2 r d inside w h hw h1 h6
    · exact rcheck_3 r d inside w h hw h1 h6
    · exact rcheck_4 r d inside w h hw h1 h6
    · exact rcheck_5 r d inside w h hw h1 h6
    · exact rcheck_6 r d inside w h hw h1 h6
    · exact rcheck_7 r d inside w h hw h1 h6
    · exact rcheck_8 r d inside w h hw h1 h6
    · exact rcheck_9 r d inside w h hw h1 h6
    · exact rcheck_10 r d inside w h hw h1 h6
    · exact rcheck_11 r d inside w h hw h1 h6
    · exact rcheck_12 r d inside w h hw h1 h6
end Go.Proofs.Ytolnbamdddiifaa.Rq
