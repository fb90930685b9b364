/- Check: whether a request may be. -/
import Derived.Test.YtolnbamdddiifaaRqMust
import Derived.Test.YtolnbamdddiifaaRqLoad
import Derived.Laws.EntriesVeiled
import Derived.Deep.RegionHeld3
namespace Go.Proofs.Ytolnbamdddiifaa.Rq
open Go.RowKit
open Go.Lib (hid)
open Go.Proofs.Ytolnbamdddiifaa.Ky
open Go.Proofs.Ytolnbamdddiifaa.Bk
set_option maxHeartbeats 2000000 in
theorem musts_ok (w : World) : Calls Try.prog 18 #[] w fun e w' => e = .returned (.agg #[.nilFunc, .func (.func 26) #[] #[], .func (.func 27) #[] #[], .func (.func 27) #[] #[], .func (.func 28) #[] #[], .func (.func 29) #[] #[], .func (.func 28) #[] #[], .func (.func 30) #[] #[], .func (.func 31) #[] #[], .func (.func 32) #[] #[], .func (.func 33) #[] #[], .func (.func 33) #[] #[], .func (.func 34) #[] #[]]) ∧ Below w.heap.size w w' := by
  go_enter Try.func18, Try.ntmps18
  go_wp2_with fail
  refine bodyPost_ret (v := .agg #[.nilFunc, .func (.func 26) #[] #[], .func (.func 27) #[] #[], .func (.func 27) #[] #[], .func (.func 28) #[] #[], .func (.func 29) #[] #[], .func (.func 28) #[] #[], .func (.func 30) #[] #[], .func (.func 31) #[] #[], .func (.func 32) #[] #[], .func (.func 33) #[] #[], .func (.func 33) #[] #[], .func (.func 34) #[] #[]]) (by simp [results, Try.results18, go_sem]) rfl ?_
  exact ⟨rfl, below_alloc _ _⟩
set_option maxRecDepth 100000 in
set_option maxHeartbeats 4000000 in
theorem check_1 (r : Rq) (d : Int) (inside : Bool) (w : World) (h : r.At w) (hw : r.what = 1) (h1 : 1 ≤ d) (h6 : d ≤ 6) :
    Calls Try.prog 11 #[.agg r.cells, .int .i64 d, .bool true, .bool inside] w fun e w' => e = .returned (.int .i64 (err (r.must d inside))) ∧ Below w.heap.size w w' := by
  obtain ⟨what, kp, kl, kc, data, lp, lo, lc, hp, hi, hc, ap, at_, ac, most, rp, rs, rc⟩ := r
  dsimp only at hw
  subst hw
  have HC := hid fun (V : World) (hV : Below w.heap.size w V) => recorded_ok ⟨1, kp, kl, kc, data, lp, lo, lc, hp, hi, hc, ap, at_, ac, most, rp, rs, rc⟩ d inside V
  have HE : Hid (err (Rq.must ⟨1, kp, kl, kc, data, lp, lo, lc, hp, hi, hc, ap, at_, ac, most, rp, rs, rc⟩ d inside) = err (checkB kl.length d && decide (data.size ≤ 40))) := hid (by simp [Rq.must])
  dsimp only [Rq.cells] at HC ⊢
  rw [HE.out]
  have e1 : decide (d < 1) = false := by simp; omega
  have e2 : decide (6 < d) = false := by simp; omega
  have HB0 := hid (below_alloc w (.cells #[.int .i64 1, .slice kp kl.length kc, .string data, .slice lp lo.length lc, .slice hp hi.length hc, .slice ap at_.length ac, .int .i64 most, .slice rp rs.length rc] 37))
  have HX := hid (heap_alloc_new w (.cells #[.int .i64 1, .slice kp kl.length kc, .string data, .slice lp lo.length lc, .slice hp hi.length hc, .slice ap at_.length ac, .int .i64 most, .slice rp rs.length rc] 37))
  have HL := hid (Array.getElem?_eq_some_iff.1 HX.out).1
  have HMV := hid musts_ok
  clear h h1 h6 HE
  generalize (checkB kl.length d && decide (data.size ≤ 40)) = bb at *
  cases bb
  all_goals
    go_enter Try.func11, Try.ntmps11
    generalize hV0 : w.alloc (.cells #[.int .i64 1, .slice kp kl.length kc, .string data, .slice lp lo.length lc, .slice hp hi.length hc, .slice ap at_.length ac, .int .i64 most, .slice rp rs.length rc] 37) = V0 at *
    have y0 : V0.cell? ⟨w.heap.size, 0, none⟩ = some (.int .i64 1) := by rw [cell_of_row _ _ _ _ _ _ HX.out]; rfl
    have ix : ∀ V : World, (Instr.index 52 (.agg #[.nilFunc, .func (.func 26) #[] #[], .func (.func 27) #[] #[], .func (.func 27) #[] #[], .func (.func 28) #[] #[], .func (.func 29) #[] #[], .func (.func 28) #[] #[], .func (.func 30) #[] #[], .func (.func 31) #[] #[], .func (.func 32) #[] #[], .func (.func 33) #[] #[], .func (.func 33) #[] #[], .func (.func 34) #[] #[]]) (.int .i64 1)).run Try.prog V = .ok (.func (.func 26) #[] #[]) V := fun _ => by kernel_rfl
    go_wp2_with fail
    go_region_held3 (fun w' => w'.cell? ⟨w.heap.size, 0, none⟩ = some (.int .i64 1)) (first | exact y0 | exact z0 | go_keep)
      (first
        | (go_at_call 18; refine (HMV.out _).mono ?_; rintro e w2 ⟨rfl, hb⟩; have HB2 := hid (show Below V0.heap.size V0 w2 from (Below.refl _ V0).drew.trans hb); have hx := (HB2.out.block _ HL.out).trans HX.out; have z0 : w2.cell? ⟨w.heap.size, 0, none⟩ = some (.int .i64 1) := (by rw [cell_of_row _ _ _ _ _ _ hx]; rfl); have z1 : w2.cell? ⟨w.heap.size, 1, none⟩ = some (.slice kp kl.length kc) := (by rw [cell_of_row _ _ _ _ _ _ hx]; rfl); have z2 : w2.cell? ⟨w.heap.size, 2, none⟩ = some (.string data) := (by rw [cell_of_row _ _ _ _ _ _ hx]; rfl); have z3 : w2.cell? ⟨w.heap.size, 3, none⟩ = some (.slice lp lo.length lc) := (by rw [cell_of_row _ _ _ _ _ _ hx]; rfl); have z4 : w2.cell? ⟨w.heap.size, 4, none⟩ = some (.slice hp hi.length hc) := (by rw [cell_of_row _ _ _ _ _ _ hx]; rfl); have z5 : w2.cell? ⟨w.heap.size, 5, none⟩ = some (.slice ap at_.length ac) := (by rw [cell_of_row _ _ _ _ _ _ hx]; rfl); have z6 : w2.cell? ⟨w.heap.size, 6, none⟩ = some (.int .i64 most) := (by rw [cell_of_row _ _ _ _ _ _ hx]; rfl); have z7 : w2.cell? ⟨w.heap.size, 7, none⟩ = some (.slice rp rs.length rc) := (by rw [cell_of_row _ _ _ _ _ _ hx]; rfl); clear hb hx)
        | fail)
    have HB3 := hid (HB0.out.trans (HB2.out.mono HB0.out.size))
    go_wp2_with (go_at_call 26; refine (HC.out _ HB3.out).mono ?_; rintro e w3 ⟨rfl, hb⟩; have HB := hid (HB3.out.trans (hb.mono HB3.out.size)); clear hb)
    go_ret
    exact ⟨rfl, HB.out⟩
set_option maxRecDepth 100000 in
set_option maxHeartbeats 4000000 in
theorem check_2 (r : Rq) (d : Int) (inside : Bool) (w : World) (h : r.At w) (hw : r.what = 2) (h1 : 1 ≤ d) (h6 : d ≤ 6) :
    Calls Try.prog 11 #[.agg r.cells, .int .i64 d, .bool true, .bool inside] w fun e w' => e = .returned (.int .i64 (err (r.must d inside))) ∧ Below w.heap.size w w' := by
  obtain ⟨what, kp, kl, kc, data, lp, lo, lc, hp, hi, hc, ap, at_, ac, most, rp, rs, rc⟩ := r
  dsimp only at hw
  subst hw
  have HC := hid fun (V : World) (hV : Below w.heap.size w V) => pointed_ok ⟨2, kp, kl, kc, data, lp, lo, lc, hp, hi, hc, ap, at_, ac, most, rp, rs, rc⟩ d inside V
  have HE : Hid (err (Rq.must ⟨2, kp, kl, kc, data, lp, lo, lc, hp, hi, hc, ap, at_, ac, most, rp, rs, rc⟩ d inside) = err (checkB kl.length d)) := hid (by simp [Rq.must])
  dsimp only [Rq.cells] at HC ⊢
  rw [HE.out]
  have e1 : decide (d < 1) = false := by simp; omega
  have e2 : decide (6 < d) = false := by simp; omega
  have HB0 := hid (below_alloc w (.cells #[.int .i64 2, .slice kp kl.length kc, .string data, .slice lp lo.length lc, .slice hp hi.length hc, .slice ap at_.length ac, .int .i64 most, .slice rp rs.length rc] 37))
  have HX := hid (heap_alloc_new w (.cells #[.int .i64 2, .slice kp kl.length kc, .string data, .slice lp lo.length lc, .slice hp hi.length hc, .slice ap at_.length ac, .int .i64 most, .slice rp rs.length rc] 37))
  have HL := hid (Array.getElem?_eq_some_iff.1 HX.out).1
  have HMV := hid musts_ok
  clear h h1 h6 HE
  generalize (checkB kl.length d) = bb at *
  cases bb
  all_goals
    go_enter Try.func11, Try.ntmps11
    generalize hV0 : w.alloc (.cells #[.int .i64 2, .slice kp kl.length kc, .string data, .slice lp lo.length lc, .slice hp hi.length hc, .slice ap at_.length ac, .int .i64 most, .slice rp rs.length rc] 37) = V0 at *
    have y0 : V0.cell? ⟨w.heap.size, 0, none⟩ = some (.int .i64 2) := by rw [cell_of_row _ _ _ _ _ _ HX.out]; rfl
    have ix : ∀ V : World, (Instr.index 52 (.agg #[.nilFunc, .func (.func 26) #[] #[], .func (.func 27) #[] #[], .func (.func 27) #[] #[], .func (.func 28) #[] #[], .func (.func 29) #[] #[], .func (.func 28) #[] #[], .func (.func 30) #[] #[], .func (.func 31) #[] #[], .func (.func 32) #[] #[], .func (.func 33) #[] #[], .func (.func 33) #[] #[], .func (.func 34) #[] #[]]) (.int .i64 2)).run Try.prog V = .ok (.func (.func 27) #[] #[]) V := fun _ => by kernel_rfl
    go_wp2_with fail
    go_region_held3 (fun w' => w'.cell? ⟨w.heap.size, 0, none⟩ = some (.int .i64 2)) (first | exact y0 | exact z0 | go_keep)
      (first
        | (go_at_call 18; refine (HMV.out _).mono ?_; rintro e w2 ⟨rfl, hb⟩; have HB2 := hid (show Below V0.heap.size V0 w2 from (Below.refl _ V0).drew.trans hb); have hx := (HB2.out.block _ HL.out).trans HX.out; have z0 : w2.cell? ⟨w.heap.size, 0, none⟩ = some (.int .i64 2) := (by rw [cell_of_row _ _ _ _ _ _ hx]; rfl); have z1 : w2.cell? ⟨w.heap.size, 1, none⟩ = some (.slice kp kl.length kc) := (by rw [cell_of_row _ _ _ _ _ _ hx]; rfl); have z2 : w2.cell? ⟨w.heap.size, 2, none⟩ = some (.string data) := (by rw [cell_of_row _ _ _ _ _ _ hx]; rfl); have z3 : w2.cell? ⟨w.heap.size, 3, none⟩ = some (.slice lp lo.length lc) := (by rw [cell_of_row _ _ _ _ _ _ hx]; rfl); have z4 : w2.cell? ⟨w.heap.size, 4, none⟩ = some (.slice hp hi.length hc) := (by rw [cell_of_row _ _ _ _ _ _ hx]; rfl); have z5 : w2.cell? ⟨w.heap.size, 5, none⟩ = some (.slice ap at_.length ac) := (by rw [cell_of_row _ _ _ _ _ _ hx]; rfl); have z6 : w2.cell? ⟨w.heap.size, 6, none⟩ = some (.int .i64 most) := (by rw [cell_of_row _ _ _ _ _ _ hx]; rfl); have z7 : w2.cell? ⟨w.heap.size, 7, none⟩ = some (.slice rp rs.length rc) := (by rw [cell_of_row _ _ _ _ _ _ hx]; rfl); clear hb hx)
        | fail)
    have HB3 := hid (HB0.out.trans (HB2.out.mono HB0.out.size))
    go_wp2_with (go_at_call 27; refine (HC.out _ HB3.out).mono ?_; rintro e w3 ⟨rfl, hb⟩; have HB := hid (HB3.out.trans (hb.mono HB3.out.size)); clear hb)
    go_ret
    exact ⟨rfl, HB.out⟩
set_option maxRecDepth 100000 in
set_option maxHeartbeats 4000000 in
theorem check_3 (r : Rq) (d : Int) (inside : Bool) (w : World) (h : r.At w) (hw : r.what = 3) (h1 : 1 ≤ d) (h6 : d ≤ 6) :
    Calls Try.prog 11 #[.agg r.cells, .int .i64 d, .bool true, .bool inside] w fun e w' => e = .returned (.int .i64 (err (r.must d inside))) ∧ Below w.heap.size w w' := by
  obtain ⟨what, kp, kl, kc, data, lp, lo, lc, hp, hi, hc, ap, at_, ac, most, rp, rs, rc⟩ := r
  dsimp only at hw
  subst hw
  have HC := hid fun (V : World) (hV : Below w.heap.size w V) => pointed_ok ⟨3, kp, kl, kc, data, lp, lo, lc, hp, hi, hc, ap, at_, ac, most, rp, rs, rc⟩ d inside V
  have HE : Hid (err (Rq.must ⟨3, kp, kl, kc, data, lp, lo, lc, hp, hi, hc, ap, at_, ac, most, rp, rs, rc⟩ d inside) = err (checkB kl.length d)) := hid (by simp [Rq.must])
  dsimp only [Rq.cells] at HC ⊢
  rw [HE.out]
  have e1 : decide (d < 1) = false := by simp; omega
  have e2 : decide (6 < d) = false := by simp; omega
  have HB0 := hid (below_alloc w (.cells #[.int .i64 3, .slice kp kl.length kc, .string data, .slice lp lo.length lc, .slice hp hi.length hc, .slice ap at_.length ac, .int .i64 most, .slice rp rs.length rc] 37))
  have HX := hid (heap_alloc_new w (.cells #[.int .i64 3, .slice kp kl.length kc, .string data, .slice lp lo.length lc, .slice hp hi.length hc, .slice ap at_.length ac, .int .i64 most, .slice rp rs.length rc] 37))
  have HL := hid (Array.getElem?_eq_some_iff.1 HX.out).1
  have HMV := hid musts_ok
  clear h h1 h6 HE
  generalize (checkB kl.length d) = bb at *
  cases bb
  all_goals
    go_enter Try.func11, Try.ntmps11
    generalize hV0 : w.alloc (.cells #[.int .i64 3, .slice kp kl.length kc, .string data, .slice lp lo.length lc, .slice hp hi.length hc, .slice ap at_.length ac, .int .i64 most, .slice rp rs.length rc] 37) = V0 at *
    have y0 : V0.cell? ⟨w.heap.size, 0, none⟩ = some (.int .i64 3) := by rw [cell_of_row _ _ _ _ _ _ HX.out]; rfl
    have ix : ∀ V : World, (Instr.index 52 (.agg #[.nilFunc, .func (.func 26) #[] #[], .func (.func 27) #[] #[], .func (.func 27) #[] #[], .func (.func 28) #[] #[], .func (.func 29) #[] #[], .func (.func 28) #[] #[], .func (.func 30) #[] #[], .func (.func 31) #[] #[], .func (.func 32) #[] #[], .func (.func 33) #[] #[], .func (.func 33) #[] #[], .func (.func 34) #[] #[]]) (.int .i64 3)).run Try.prog V = .ok (.func (.func 27) #[] #[]) V := fun _ => by kernel_rfl
    go_wp2_with fail
    go_region_held3 (fun w' => w'.cell? ⟨w.heap.size, 0, none⟩ = some (.int .i64 3)) (first | exact y0 | exact z0 | go_keep)
      (first
        | (go_at_call 18; refine (HMV.out _).mono ?_; rintro e w2 ⟨rfl, hb⟩; have HB2 := hid (show Below V0.heap.size V0 w2 from (Below.refl _ V0).drew.trans hb); have hx := (HB2.out.block _ HL.out).trans HX.out; have z0 : w2.cell? ⟨w.heap.size, 0, none⟩ = some (.int .i64 3) := (by rw [cell_of_row _ _ _ _ _ _ hx]; rfl); have z1 : w2.cell? ⟨w.heap.size, 1, none⟩ = some (.slice kp kl.length kc) := (by rw [cell_of_row _ _ _ _ _ _ hx]; rfl); have z2 : w2.cell? ⟨w.heap.size, 2, none⟩ = some (.string data) := (by rw [cell_of_row _ _ _ _ _ _ hx]; rfl); have z3 : w2.cell? ⟨w.heap.size, 3, none⟩ = some (.slice lp lo.length lc) := (by rw [cell_of_row _ _ _ _ _ _ hx]; rfl); have z4 : w2.cell? ⟨w.heap.size, 4, none⟩ = some (.slice hp hi.length hc) := (by rw [cell_of_row _ _ _ _ _ _ hx]; rfl); have z5 : w2.cell? ⟨w.heap.size, 5, none⟩ = some (.slice ap at_.length ac) := (by rw [cell_of_row _ _ _ _ _ _ hx]; rfl); have z6 : w2.cell? ⟨w.heap.size, 6, none⟩ = some (.int .i64 most) := (by rw [cell_of_row _ _ _ _ _ _ hx]; rfl); have z7 : w2.cell? ⟨w.heap.size, 7, none⟩ = some (.slice rp rs.length rc) := (by rw [cell_of_row _ _ _ _ _ _ hx]; rfl); clear hb hx)
        | fail)
    have HB3 := hid (HB0.out.trans (HB2.out.mono HB0.out.size))
    go_wp2_with (go_at_call 27; refine (HC.out _ HB3.out).mono ?_; rintro e w3 ⟨rfl, hb⟩; have HB := hid (HB3.out.trans (hb.mono HB3.out.size)); clear hb)
    go_ret
    exact ⟨rfl, HB.out⟩
set_option maxRecDepth 100000 in
set_option maxHeartbeats 4000000 in
theorem check_4 (r : Rq) (d : Int) (inside : Bool) (w : World) (h : r.At w) (hw : r.what = 4) (h1 : 1 ≤ d) (h6 : d ≤ 6) :
    Calls Try.prog 11 #[.agg r.cells, .int .i64 d, .bool true, .bool inside] w fun e w' => e = .returned (.int .i64 (err (r.must d inside))) ∧ Below w.heap.size w w' := by
  obtain ⟨what, kp, kl, kc, data, lp, lo, lc, hp, hi, hc, ap, at_, ac, most, rp, rs, rc⟩ := r
  dsimp only at hw
  subst hw
  have HC := hid fun (V : World) (hV : Below w.heap.size w V) => boxed_ok ⟨4, kp, kl, kc, data, lp, lo, lc, hp, hi, hc, ap, at_, ac, most, rp, rs, rc⟩ d inside V (h.below hV)
  have HE : Hid (err (Rq.must ⟨4, kp, kl, kc, data, lp, lo, lc, hp, hi, hc, ap, at_, ac, most, rp, rs, rc⟩ d inside) = err (boxB lo hi d)) := hid (by simp [Rq.must])
  dsimp only [Rq.cells] at HC ⊢
  rw [HE.out]
  have e1 : decide (d < 1) = false := by simp; omega
  have e2 : decide (6 < d) = false := by simp; omega
  have HB0 := hid (below_alloc w (.cells #[.int .i64 4, .slice kp kl.length kc, .string data, .slice lp lo.length lc, .slice hp hi.length hc, .slice ap at_.length ac, .int .i64 most, .slice rp rs.length rc] 37))
  have HX := hid (heap_alloc_new w (.cells #[.int .i64 4, .slice kp kl.length kc, .string data, .slice lp lo.length lc, .slice hp hi.length hc, .slice ap at_.length ac, .int .i64 most, .slice rp rs.length rc] 37))
  have HL := hid (Array.getElem?_eq_some_iff.1 HX.out).1
  have HMV := hid musts_ok
  clear h h1 h6 HE
  generalize (boxB lo hi d) = bb at *
  cases bb
  all_goals
    go_enter Try.func11, Try.ntmps11
    generalize hV0 : w.alloc (.cells #[.int .i64 4, .slice kp kl.length kc, .string data, .slice lp lo.length lc, .slice hp hi.length hc, .slice ap at_.length ac, .int .i64 most, .slice rp rs.length rc] 37) = V0 at *
    have y0 : V0.cell? ⟨w.heap.size, 0, none⟩ = some (.int .i64 4) := by rw [cell_of_row _ _ _ _ _ _ HX.out]; rfl
    have ix : ∀ V : World, (Instr.index 52 (.agg #[.nilFunc, .func (.func 26) #[] #[], .func (.func 27) #[] #[], .func (.func 27) #[] #[], .func (.func 28) #[] #[], .func (.func 29) #[] #[], .func (.func 28) #[] #[], .func (.func 30) #[] #[], .func (.func 31) #[] #[], .func (.func 32) #[] #[], .func (.func 33) #[] #[], .func (.func 33) #[] #[], .func (.func 34) #[] #[]]) (.int .i64 4)).run Try.prog V = .ok (.func (.func 28) #[] #[]) V := fun _ => by kernel_rfl
    go_wp2_with fail
    go_region_held3 (fun w' => w'.cell? ⟨w.heap.size, 0, none⟩ = some (.int .i64 4)) (first | exact y0 | exact z0 | go_keep)
      (first
        | (go_at_call 18; refine (HMV.out _).mono ?_; rintro e w2 ⟨rfl, hb⟩; have HB2 := hid (show Below V0.heap.size V0 w2 from (Below.refl _ V0).drew.trans hb); have hx := (HB2.out.block _ HL.out).trans HX.out; have z0 : w2.cell? ⟨w.heap.size, 0, none⟩ = some (.int .i64 4) := (by rw [cell_of_row _ _ _ _ _ _ hx]; rfl); have z1 : w2.cell? ⟨w.heap.size, 1, none⟩ = some (.slice kp kl.length kc) := (by rw [cell_of_row _ _ _ _ _ _ hx]; rfl); have z2 : w2.cell? ⟨w.heap.size, 2, none⟩ = some (.string data) := (by rw [cell_of_row _ _ _ _ _ _ hx]; rfl); have z3 : w2.cell? ⟨w.heap.size, 3, none⟩ = some (.slice lp lo.length lc) := (by rw [cell_of_row _ _ _ _ _ _ hx]; rfl); have z4 : w2.cell? ⟨w.heap.size, 4, none⟩ = some (.slice hp hi.length hc) := (by rw [cell_of_row _ _ _ _ _ _ hx]; rfl); have z5 : w2.cell? ⟨w.heap.size, 5, none⟩ = some (.slice ap at_.length ac) := (by rw [cell_of_row _ _ _ _ _ _ hx]; rfl); have z6 : w2.cell? ⟨w.heap.size, 6, none⟩ = some (.int .i64 most) := (by rw [cell_of_row _ _ _ _ _ _ hx]; rfl); have z7 : w2.cell? ⟨w.heap.size, 7, none⟩ = some (.slice rp rs.length rc) := (by rw [cell_of_row _ _ _ _ _ _ hx]; rfl); clear hb hx)
        | fail)
    have HB3 := hid (HB0.out.trans (HB2.out.mono HB0.out.size))
    go_wp2_with (go_at_call 28; refine (HC.out _ HB3.out).mono ?_; rintro e w3 ⟨rfl, hb⟩; have HB := hid (HB3.out.trans (hb.mono HB3.out.size)); clear hb)
    go_ret
    exact ⟨rfl, HB.out⟩
set_option maxRecDepth 100000 in
set_option maxHeartbeats 4000000 in
theorem check_5 (r : Rq) (d : Int) (inside : Bool) (w : World) (h : r.At w) (hw : r.what = 5) (h1 : 1 ≤ d) (h6 : d ≤ 6) :
    Calls Try.prog 11 #[.agg r.cells, .int .i64 d, .bool true, .bool inside] w fun e w' => e = .returned (.int .i64 (err (r.must d inside))) ∧ Below w.heap.size w w' := by
  obtain ⟨what, kp, kl, kc, data, lp, lo, lc, hp, hi, hc, ap, at_, ac, most, rp, rs, rc⟩ := r
  dsimp only at hw
  subst hw
  have HC := hid fun (V : World) (hV : Below w.heap.size w V) => parted_ok ⟨5, kp, kl, kc, data, lp, lo, lc, hp, hi, hc, ap, at_, ac, most, rp, rs, rc⟩ d inside V (h.below hV)
  have HE : Hid (err (Rq.must ⟨5, kp, kl, kc, data, lp, lo, lc, hp, hi, hc, ap, at_, ac, most, rp, rs, rc⟩ d inside) = err (partOk d at_ kl)) := hid (by simp [Rq.must])
  dsimp only [Rq.cells] at HC ⊢
  rw [HE.out]
  have e1 : decide (d < 1) = false := by simp; omega
  have e2 : decide (6 < d) = false := by simp; omega
  have HB0 := hid (below_alloc w (.cells #[.int .i64 5, .slice kp kl.length kc, .string data, .slice lp lo.length lc, .slice hp hi.length hc, .slice ap at_.length ac, .int .i64 most, .slice rp rs.length rc] 37))
  have HX := hid (heap_alloc_new w (.cells #[.int .i64 5, .slice kp kl.length kc, .string data, .slice lp lo.length lc, .slice hp hi.length hc, .slice ap at_.length ac, .int .i64 most, .slice rp rs.length rc] 37))
  have HL := hid (Array.getElem?_eq_some_iff.1 HX.out).1
  have HMV := hid musts_ok
  clear h h1 h6 HE
  generalize (partOk d at_ kl) = bb at *
  cases bb
  all_goals
    go_enter Try.func11, Try.ntmps11
    generalize hV0 : w.alloc (.cells #[.int .i64 5, .slice kp kl.length kc, .string data, .slice lp lo.length lc, .slice hp hi.length hc, .slice ap at_.length ac, .int .i64 most, .slice rp rs.length rc] 37) = V0 at *
    have y0 : V0.cell? ⟨w.heap.size, 0, none⟩ = some (.int .i64 5) := by rw [cell_of_row _ _ _ _ _ _ HX.out]; rfl
    have ix : ∀ V : World, (Instr.index 52 (.agg #[.nilFunc, .func (.func 26) #[] #[], .func (.func 27) #[] #[], .func (.func 27) #[] #[], .func (.func 28) #[] #[], .func (.func 29) #[] #[], .func (.func 28) #[] #[], .func (.func 30) #[] #[], .func (.func 31) #[] #[], .func (.func 32) #[] #[], .func (.func 33) #[] #[], .func (.func 33) #[] #[], .func (.func 34) #[] #[]]) (.int .i64 5)).run Try.prog V = .ok (.func (.func 29) #[] #[]) V := fun _ => by kernel_rfl
    go_wp2_with fail
    go_region_held3 (fun w' => w'.cell? ⟨w.heap.size, 0, none⟩ = some (.int .i64 5)) (first | exact y0 | exact z0 | go_keep)
      (first
        | (go_at_call 18; refine (HMV.out _).mono ?_; rintro e w2 ⟨rfl, hb⟩; have HB2 := hid (show Below V0.heap.size V0 w2 from (Below.refl _ V0).drew.trans hb); have hx := (HB2.out.block _ HL.out).trans HX.out; have z0 : w2.cell? ⟨w.heap.size, 0, none⟩ = some (.int .i64 5) := (by rw [cell_of_row _ _ _ _ _ _ hx]; rfl); have z1 : w2.cell? ⟨w.heap.size, 1, none⟩ = some (.slice kp kl.length kc) := (by rw [cell_of_row _ _ _ _ _ _ hx]; rfl); have z2 : w2.cell? ⟨w.heap.size, 2, none⟩ = some (.string data) := (by rw [cell_of_row _ _ _ _ _ _ hx]; rfl); have z3 : w2.cell? ⟨w.heap.size, 3, none⟩ = some (.slice lp lo.length lc) := (by rw [cell_of_row _ _ _ _ _ _ hx]; rfl); have z4 : w2.cell? ⟨w.heap.size, 4, none⟩ = some (.slice hp hi.length hc) := (by rw [cell_of_row _ _ _ _ _ _ hx]; rfl); have z5 : w2.cell? ⟨w.heap.size, 5, none⟩ = some (.slice ap at_.length ac) := (by rw [cell_of_row _ _ _ _ _ _ hx]; rfl); have z6 : w2.cell? ⟨w.heap.size, 6, none⟩ = some (.int .i64 most) := (by rw [cell_of_row _ _ _ _ _ _ hx]; rfl); have z7 : w2.cell? ⟨w.heap.size, 7, none⟩ = some (.slice rp rs.length rc) := (by rw [cell_of_row _ _ _ _ _ _ hx]; rfl); clear hb hx)
        | fail)
    have HB3 := hid (HB0.out.trans (HB2.out.mono HB0.out.size))
    go_wp2_with (go_at_call 29; refine (HC.out _ HB3.out).mono ?_; rintro e w3 ⟨rfl, hb⟩; have HB := hid (HB3.out.trans (hb.mono HB3.out.size)); clear hb)
    go_ret
    exact ⟨rfl, HB.out⟩
set_option maxRecDepth 100000 in
set_option maxHeartbeats 4000000 in
theorem check_6 (r : Rq) (d : Int) (inside : Bool) (w : World) (h : r.At w) (hw : r.what = 6) (h1 : 1 ≤ d) (h6 : d ≤ 6) :
    Calls Try.prog 11 #[.agg r.cells, .int .i64 d, .bool true, .bool inside] w fun e w' => e = .returned (.int .i64 (err (r.must d inside))) ∧ Below w.heap.size w w' := by
  obtain ⟨what, kp, kl, kc, data, lp, lo, lc, hp, hi, hc, ap, at_, ac, most, rp, rs, rc⟩ := r
  dsimp only at hw
  subst hw
  have HC := hid fun (V : World) (hV : Below w.heap.size w V) => boxed_ok ⟨6, kp, kl, kc, data, lp, lo, lc, hp, hi, hc, ap, at_, ac, most, rp, rs, rc⟩ d inside V (h.below hV)
  have HE : Hid (err (Rq.must ⟨6, kp, kl, kc, data, lp, lo, lc, hp, hi, hc, ap, at_, ac, most, rp, rs, rc⟩ d inside) = err (boxB lo hi d)) := hid (by simp [Rq.must])
  dsimp only [Rq.cells] at HC ⊢
  rw [HE.out]
  have e1 : decide (d < 1) = false := by simp; omega
  have e2 : decide (6 < d) = false := by simp; omega
  have HB0 := hid (below_alloc w (.cells #[.int .i64 6, .slice kp kl.length kc, .string data, .slice lp lo.length lc, .slice hp hi.length hc, .slice ap at_.length ac, .int .i64 most, .slice rp rs.length rc] 37))
  have HX := hid (heap_alloc_new w (.cells #[.int .i64 6, .slice kp kl.length kc, .string data, .slice lp lo.length lc, .slice hp hi.length hc, .slice ap at_.length ac, .int .i64 most, .slice rp rs.length rc] 37))
  have HL := hid (Array.getElem?_eq_some_iff.1 HX.out).1
  have HMV := hid musts_ok
  clear h h1 h6 HE
  generalize (boxB lo hi d) = bb at *
  cases bb
  all_goals
    go_enter Try.func11, Try.ntmps11
    generalize hV0 : w.alloc (.cells #[.int .i64 6, .slice kp kl.length kc, .string data, .slice lp lo.length lc, .slice hp hi.length hc, .slice ap at_.length ac, .int .i64 most, .slice rp rs.length rc] 37) = V0 at *
    have y0 : V0.cell? ⟨w.heap.size, 0, none⟩ = some (.int .i64 6) := by rw [cell_of_row _ _ _ _ _ _ HX.out]; rfl
    have ix : ∀ V : World, (Instr.index 52 (.agg #[.nilFunc, .func (.func 26) #[] #[], .func (.func 27) #[] #[], .func (.func 27) #[] #[], .func (.func 28) #[] #[], .func (.func 29) #[] #[], .func (.func 28) #[] #[], .func (.func 30) #[] #[], .func (.func 31) #[] #[], .func (.func 32) #[] #[], .func (.func 33) #[] #[], .func (.func 33) #[] #[], .func (.func 34) #[] #[]]) (.int .i64 6)).run Try.prog V = .ok (.func (.func 28) #[] #[]) V := fun _ => by kernel_rfl
    go_wp2_with fail
    go_region_held3 (fun w' => w'.cell? ⟨w.heap.size, 0, none⟩ = some (.int .i64 6)) (first | exact y0 | exact z0 | go_keep)
      (first
        | (go_at_call 18; refine (HMV.out _).mono ?_; rintro e w2 ⟨rfl, hb⟩; have HB2 := hid (show Below V0.heap.size V0 w2 from (Below.refl _ V0).drew.trans hb); have hx := (HB2.out.block _ HL.out).trans HX.out; have z0 : w2.cell? ⟨w.heap.size, 0, none⟩ = some (.int .i64 6) := (by rw [cell_of_row _ _ _ _ _ _ hx]; rfl); have z1 : w2.cell? ⟨w.heap.size, 1, none⟩ = some (.slice kp kl.length kc) := (by rw [cell_of_row _ _ _ _ _ _ hx]; rfl); have z2 : w2.cell? ⟨w.heap.size, 2, none⟩ = some (.string data) := (by rw [cell_of_row _ _ _ _ _ _ hx]; rfl); have z3 : w2.cell? ⟨w.heap.size, 3, none⟩ = some (.slice lp lo.length lc) := (by rw [cell_of_row _ _ _ _ _ _ hx]; rfl); have z4 : w2.cell? ⟨w.heap.size, 4, none⟩ = some (.slice hp hi.length hc) := (by rw [cell_of_row _ _ _ _ _ _ hx]; rfl); have z5 : w2.cell? ⟨w.heap.size, 5, none⟩ = some (.slice ap at_.length ac) := (by rw [cell_of_row _ _ _ _ _ _ hx]; rfl); have z6 : w2.cell? ⟨w.heap.size, 6, none⟩ = some (.int .i64 most) := (by rw [cell_of_row _ _ _ _ _ _ hx]; rfl); have z7 : w2.cell? ⟨w.heap.size, 7, none⟩ = some (.slice rp rs.length rc) := (by rw [cell_of_row _ _ _ _ _ _ hx]; rfl); clear hb hx)
        | fail)
    have HB3 := hid (HB0.out.trans (HB2.out.mono HB0.out.size))
    go_wp2_with (go_at_call 28; refine (HC.out _ HB3.out).mono ?_; rintro e w3 ⟨rfl, hb⟩; have HB := hid (HB3.out.trans (hb.mono HB3.out.size)); clear hb)
    go_ret
    exact ⟨rfl, HB.out⟩
set_option maxRecDepth 100000 in
set_option maxHeartbeats 4000000 in
theorem check_7 (r : Rq) (d : Int) (inside : Bool) (w : World) (h : r.At w) (hw : r.what = 7) (h1 : 1 ≤ d) (h6 : d ≤ 6) :
    Calls Try.prog 11 #[.agg r.cells, .int .i64 d, .bool true, .bool inside] w fun e w' => e = .returned (.int .i64 (err (r.must d inside))) ∧ Below w.heap.size w w' := by
  obtain ⟨what, kp, kl, kc, data, lp, lo, lc, hp, hi, hc, ap, at_, ac, most, rp, rs, rc⟩ := r
  dsimp only at hw
  subst hw
  have HC := hid fun (V : World) (hV : Below w.heap.size w V) => near_ok ⟨7, kp, kl, kc, data, lp, lo, lc, hp, hi, hc, ap, at_, ac, most, rp, rs, rc⟩ d inside V
  have HE : Hid (err (Rq.must ⟨7, kp, kl, kc, data, lp, lo, lc, hp, hi, hc, ap, at_, ac, most, rp, rs, rc⟩ d inside) = err (checkB kl.length d && (decide (0 ≤ most) && decide (most ≤ 1000)))) := hid (by simp [Rq.must])
  dsimp only [Rq.cells] at HC ⊢
  rw [HE.out]
  have e1 : decide (d < 1) = false := by simp; omega
  have e2 : decide (6 < d) = false := by simp; omega
  have HB0 := hid (below_alloc w (.cells #[.int .i64 7, .slice kp kl.length kc, .string data, .slice lp lo.length lc, .slice hp hi.length hc, .slice ap at_.length ac, .int .i64 most, .slice rp rs.length rc] 37))
  have HX := hid (heap_alloc_new w (.cells #[.int .i64 7, .slice kp kl.length kc, .string data, .slice lp lo.length lc, .slice hp hi.length hc, .slice ap at_.length ac, .int .i64 most, .slice rp rs.length rc] 37))
  have HL := hid (Array.getElem?_eq_some_iff.1 HX.out).1
  have HMV := hid musts_ok
  clear h h1 h6 HE
  generalize (checkB kl.length d && (decide (0 ≤ most) && decide (most ≤ 1000))) = bb at *
  cases bb
  all_goals
    go_enter Try.func11, Try.ntmps11
    generalize hV0 : w.alloc (.cells #[.int .i64 7, .slice kp kl.length kc, .string data, .slice lp lo.length lc, .slice hp hi.length hc, .slice ap at_.length ac, .int .i64 most, .slice rp rs.length rc] 37) = V0 at *
    have y0 : V0.cell? ⟨w.heap.size, 0, none⟩ = some (.int .i64 7) := by rw [cell_of_row _ _ _ _ _ _ HX.out]; rfl
    have ix : ∀ V : World, (Instr.index 52 (.agg #[.nilFunc, .func (.func 26) #[] #[], .func (.func 27) #[] #[], .func (.func 27) #[] #[], .func (.func 28) #[] #[], .func (.func 29) #[] #[], .func (.func 28) #[] #[], .func (.func 30) #[] #[], .func (.func 31) #[] #[], .func (.func 32) #[] #[], .func (.func 33) #[] #[], .func (.func 33) #[] #[], .func (.func 34) #[] #[]]) (.int .i64 7)).run Try.prog V = .ok (.func (.func 30) #[] #[]) V := fun _ => by kernel_rfl
    go_wp2_with fail
    go_region_held3 (fun w' => w'.cell? ⟨w.heap.size, 0, none⟩ = some (.int .i64 7)) (first | exact y0 | exact z0 | go_keep)
      (first
        | (go_at_call 18; refine (HMV.out _).mono ?_; rintro e w2 ⟨rfl, hb⟩; have HB2 := hid (show Below V0.heap.size V0 w2 from (Below.refl _ V0).drew.trans hb); have hx := (HB2.out.block _ HL.out).trans HX.out; have z0 : w2.cell? ⟨w.heap.size, 0, none⟩ = some (.int .i64 7) := (by rw [cell_of_row _ _ _ _ _ _ hx]; rfl); have z1 : w2.cell? ⟨w.heap.size, 1, none⟩ = some (.slice kp kl.length kc) := (by rw [cell_of_row _ _ _ _ _ _ hx]; rfl); have z2 : w2.cell? ⟨w.heap.size, 2, none⟩ = some (.string data) := (by rw [cell_of_row _ _ _ _ _ _ hx]; rfl); have z3 : w2.cell? ⟨w.heap.size, 3, none⟩ = some (.slice lp lo.length lc) := (by rw [cell_of_row _ _ _ _ _ _ hx]; rfl); have z4 : w2.cell? ⟨w.heap.size, 4, none⟩ = some (.slice hp hi.length hc) := (by rw [cell_of_row _ _ _ _ _ _ hx]; rfl); have z5 : w2.cell? ⟨w.heap.size, 5, none⟩ = some (.slice ap at_.length ac) := (by rw [cell_of_row _ _ _ _ _ _ hx]; rfl); have z6 : w2.cell? ⟨w.heap.size, 6, none⟩ = some (.int .i64 most) := (by rw [cell_of_row _ _ _ _ _ _ hx]; rfl); have z7 : w2.cell? ⟨w.heap.size, 7, none⟩ = some (.slice rp rs.length rc) := (by rw [cell_of_row _ _ _ _ _ _ hx]; rfl); clear hb hx)
        | fail)
    have HB3 := hid (HB0.out.trans (HB2.out.mono HB0.out.size))
    go_wp2_with (go_at_call 30; refine (HC.out _ HB3.out).mono ?_; rintro e w3 ⟨rfl, hb⟩; have HB := hid (HB3.out.trans (hb.mono HB3.out.size)); clear hb)
    go_ret
    exact ⟨rfl, HB.out⟩
set_option maxRecDepth 100000 in
set_option maxHeartbeats 4000000 in
theorem check_8 (r : Rq) (d : Int) (inside : Bool) (w : World) (h : r.At w) (hw : r.what = 8) (h1 : 1 ≤ d) (h6 : d ≤ 6) :
    Calls Try.prog 11 #[.agg r.cells, .int .i64 d, .bool true, .bool inside] w fun e w' => e = .returned (.int .i64 (err (r.must d inside))) ∧ Below w.heap.size w w' := by
  obtain ⟨what, kp, kl, kc, data, lp, lo, lc, hp, hi, hc, ap, at_, ac, most, rp, rs, rc⟩ := r
  dsimp only at hw
  subst hw
  have HC := hid fun (V : World) (hV : Below w.heap.size w V) => loaded_ok ⟨8, kp, kl, kc, data, lp, lo, lc, hp, hi, hc, ap, at_, ac, most, rp, rs, rc⟩ d inside V (h.below hV)
  have HE : Hid (err (Rq.must ⟨8, kp, kl, kc, data, lp, lo, lc, hp, hi, hc, ap, at_, ac, most, rp, rs, rc⟩ d inside) = err (decide (rs.length ≤ 1000) && mayAll rs d)) := hid (by simp [Rq.must])
  dsimp only [Rq.cells] at HC ⊢
  rw [HE.out]
  have e1 : decide (d < 1) = false := by simp; omega
  have e2 : decide (6 < d) = false := by simp; omega
  have HB0 := hid (below_alloc w (.cells #[.int .i64 8, .slice kp kl.length kc, .string data, .slice lp lo.length lc, .slice hp hi.length hc, .slice ap at_.length ac, .int .i64 most, .slice rp rs.length rc] 37))
  have HX := hid (heap_alloc_new w (.cells #[.int .i64 8, .slice kp kl.length kc, .string data, .slice lp lo.length lc, .slice hp hi.length hc, .slice ap at_.length ac, .int .i64 most, .slice rp rs.length rc] 37))
  have HL := hid (Array.getElem?_eq_some_iff.1 HX.out).1
  have HMV := hid musts_ok
  clear h h1 h6 HE
  generalize (decide (rs.length ≤ 1000) && mayAll rs d) = bb at *
  cases bb
  all_goals
    go_enter Try.func11, Try.ntmps11
    generalize hV0 : w.alloc (.cells #[.int .i64 8, .slice kp kl.length kc, .string data, .slice lp lo.length lc, .slice hp hi.length hc, .slice ap at_.length ac, .int .i64 most, .slice rp rs.length rc] 37) = V0 at *
    have y0 : V0.cell? ⟨w.heap.size, 0, none⟩ = some (.int .i64 8) := by rw [cell_of_row _ _ _ _ _ _ HX.out]; rfl
    have ix : ∀ V : World, (Instr.index 52 (.agg #[.nilFunc, .func (.func 26) #[] #[], .func (.func 27) #[] #[], .func (.func 27) #[] #[], .func (.func 28) #[] #[], .func (.func 29) #[] #[], .func (.func 28) #[] #[], .func (.func 30) #[] #[], .func (.func 31) #[] #[], .func (.func 32) #[] #[], .func (.func 33) #[] #[], .func (.func 33) #[] #[], .func (.func 34) #[] #[]]) (.int .i64 8)).run Try.prog V = .ok (.func (.func 31) #[] #[]) V := fun _ => by kernel_rfl
    go_wp2_with fail
    go_region_held3 (fun w' => w'.cell? ⟨w.heap.size, 0, none⟩ = some (.int .i64 8)) (first | exact y0 | exact z0 | go_keep)
      (first
        | (go_at_call 18; refine (HMV.out _).mono ?_; rintro e w2 ⟨rfl, hb⟩; have HB2 := hid (show Below V0.heap.size V0 w2 from (Below.refl _ V0).drew.trans hb); have hx := (HB2.out.block _ HL.out).trans HX.out; have z0 : w2.cell? ⟨w.heap.size, 0, none⟩ = some (.int .i64 8) := (by rw [cell_of_row _ _ _ _ _ _ hx]; rfl); have z1 : w2.cell? ⟨w.heap.size, 1, none⟩ = some (.slice kp kl.length kc) := (by rw [cell_of_row _ _ _ _ _ _ hx]; rfl); have z2 : w2.cell? ⟨w.heap.size, 2, none⟩ = some (.string data) := (by rw [cell_of_row _ _ _ _ _ _ hx]; rfl); have z3 : w2.cell? ⟨w.heap.size, 3, none⟩ = some (.slice lp lo.length lc) := (by rw [cell_of_row _ _ _ _ _ _ hx]; rfl); have z4 : w2.cell? ⟨w.heap.size, 4, none⟩ = some (.slice hp hi.length hc) := (by rw [cell_of_row _ _ _ _ _ _ hx]; rfl); have z5 : w2.cell? ⟨w.heap.size, 5, none⟩ = some (.slice ap at_.length ac) := (by rw [cell_of_row _ _ _ _ _ _ hx]; rfl); have z6 : w2.cell? ⟨w.heap.size, 6, none⟩ = some (.int .i64 most) := (by rw [cell_of_row _ _ _ _ _ _ hx]; rfl); have z7 : w2.cell? ⟨w.heap.size, 7, none⟩ = some (.slice rp rs.length rc) := (by rw [cell_of_row _ _ _ _ _ _ hx]; rfl); clear hb hx)
        | fail)
    have HB3 := hid (HB0.out.trans (HB2.out.mono HB0.out.size))
    go_wp2_with (go_at_call 31; refine (HC.out _ HB3.out).mono ?_; rintro e w3 ⟨rfl, hb⟩; have HB := hid (HB3.out.trans (hb.mono HB3.out.size)); clear hb)
    go_ret
    exact ⟨rfl, HB.out⟩
set_option maxRecDepth 100000 in
set_option maxHeartbeats 4000000 in
theorem check_9 (r : Rq) (d : Int) (inside : Bool) (w : World) (h : r.At w) (hw : r.what = 9) (h1 : 1 ≤ d) (h6 : d ≤ 6) :
    Calls Try.prog 11 #[.agg r.cells, .int .i64 d, .bool true, .bool inside] w fun e w' => e = .returned (.int .i64 (err (r.must d inside))) ∧ Below w.heap.size w w' := by
  obtain ⟨what, kp, kl, kc, data, lp, lo, lc, hp, hi, hc, ap, at_, ac, most, rp, rs, rc⟩ := r
  dsimp only at hw
  subst hw
  have HC := hid fun (V : World) (hV : Below w.heap.size w V) => begin_ok ⟨9, kp, kl, kc, data, lp, lo, lc, hp, hi, hc, ap, at_, ac, most, rp, rs, rc⟩ d inside V
  have HE : Hid (err (Rq.must ⟨9, kp, kl, kc, data, lp, lo, lc, hp, hi, hc, ap, at_, ac, most, rp, rs, rc⟩ d inside) = err (!inside)) := hid (by simp [Rq.must])
  dsimp only [Rq.cells] at HC ⊢
  rw [HE.out]
  have e1 : decide (d < 1) = false := by simp; omega
  have e2 : decide (6 < d) = false := by simp; omega
  have HB0 := hid (below_alloc w (.cells #[.int .i64 9, .slice kp kl.length kc, .string data, .slice lp lo.length lc, .slice hp hi.length hc, .slice ap at_.length ac, .int .i64 most, .slice rp rs.length rc] 37))
  have HX := hid (heap_alloc_new w (.cells #[.int .i64 9, .slice kp kl.length kc, .string data, .slice lp lo.length lc, .slice hp hi.length hc, .slice ap at_.length ac, .int .i64 most, .slice rp rs.length rc] 37))
  have HL := hid (Array.getElem?_eq_some_iff.1 HX.out).1
  have HMV := hid musts_ok
  clear h h1 h6 HE
  cases inside
  all_goals
    go_enter Try.func11, Try.ntmps11
    generalize hV0 : w.alloc (.cells #[.int .i64 9, .slice kp kl.length kc, .string data, .slice lp lo.length lc, .slice hp hi.length hc, .slice ap at_.length ac, .int .i64 most, .slice rp rs.length rc] 37) = V0 at *
    have y0 : V0.cell? ⟨w.heap.size, 0, none⟩ = some (.int .i64 9) := by rw [cell_of_row _ _ _ _ _ _ HX.out]; rfl
    have ix : ∀ V : World, (Instr.index 52 (.agg #[.nilFunc, .func (.func 26) #[] #[], .func (.func 27) #[] #[], .func (.func 27) #[] #[], .func (.func 28) #[] #[], .func (.func 29) #[] #[], .func (.func 28) #[] #[], .func (.func 30) #[] #[], .func (.func 31) #[] #[], .func (.func 32) #[] #[], .func (.func 33) #[] #[], .func (.func 33) #[] #[], .func (.func 34) #[] #[]]) (.int .i64 9)).run Try.prog V = .ok (.func (.func 32) #[] #[]) V := fun _ => by kernel_rfl
    go_wp2_with fail
    go_region_held3 (fun w' => w'.cell? ⟨w.heap.size, 0, none⟩ = some (.int .i64 9)) (first | exact y0 | exact z0 | go_keep)
      (first
        | (go_at_call 18; refine (HMV.out _).mono ?_; rintro e w2 ⟨rfl, hb⟩; have HB2 := hid (show Below V0.heap.size V0 w2 from (Below.refl _ V0).drew.trans hb); have hx := (HB2.out.block _ HL.out).trans HX.out; have z0 : w2.cell? ⟨w.heap.size, 0, none⟩ = some (.int .i64 9) := (by rw [cell_of_row _ _ _ _ _ _ hx]; rfl); have z1 : w2.cell? ⟨w.heap.size, 1, none⟩ = some (.slice kp kl.length kc) := (by rw [cell_of_row _ _ _ _ _ _ hx]; rfl); have z2 : w2.cell? ⟨w.heap.size, 2, none⟩ = some (.string data) := (by rw [cell_of_row _ _ _ _ _ _ hx]; rfl); have z3 : w2.cell? ⟨w.heap.size, 3, none⟩ = some (.slice lp lo.length lc) := (by rw [cell_of_row _ _ _ _ _ _ hx]; rfl); have z4 : w2.cell? ⟨w.heap.size, 4, none⟩ = some (.slice hp hi.length hc) := (by rw [cell_of_row _ _ _ _ _ _ hx]; rfl); have z5 : w2.cell? ⟨w.heap.size, 5, none⟩ = some (.slice ap at_.length ac) := (by rw [cell_of_row _ _ _ _ _ _ hx]; rfl); have z6 : w2.cell? ⟨w.heap.size, 6, none⟩ = some (.int .i64 most) := (by rw [cell_of_row _ _ _ _ _ _ hx]; rfl); have z7 : w2.cell? ⟨w.heap.size, 7, none⟩ = some (.slice rp rs.length rc) := (by rw [cell_of_row _ _ _ _ _ _ hx]; rfl); clear hb hx)
        | fail)
    have HB3 := hid (HB0.out.trans (HB2.out.mono HB0.out.size))
    go_wp2_with (go_at_call 32; refine (HC.out _ HB3.out).mono ?_; rintro e w3 ⟨rfl, hb⟩; have HB := hid (HB3.out.trans (hb.mono HB3.out.size)); clear hb)
    go_ret
    exact ⟨rfl, HB.out⟩
set_option maxRecDepth 100000 in
set_option maxHeartbeats 4000000 in
theorem check_10 (r : Rq) (d : Int) (inside : Bool) (w : World) (h : r.At w) (hw : r.what = 10) (h1 : 1 ≤ d) (h6 : d ≤ 6) :
    Calls Try.prog 11 #[.agg r.cells, .int .i64 d, .bool true, .bool inside] w fun e w' => e = .returned (.int .i64 (err (r.must d inside))) ∧ Below w.heap.size w w' := by
  obtain ⟨what, kp, kl, kc, data, lp, lo, lc, hp, hi, hc, ap, at_, ac, most, rp, rs, rc⟩ := r
  dsimp only at hw
  subst hw
  have HC := hid fun (V : World) (hV : Below w.heap.size w V) => within_ok ⟨10, kp, kl, kc, data, lp, lo, lc, hp, hi, hc, ap, at_, ac, most, rp, rs, rc⟩ d inside V
  have HE : Hid (err (Rq.must ⟨10, kp, kl, kc, data, lp, lo, lc, hp, hi, hc, ap, at_, ac, most, rp, rs, rc⟩ d inside) = err (inside)) := hid (by simp [Rq.must])
  dsimp only [Rq.cells] at HC ⊢
  rw [HE.out]
  have e1 : decide (d < 1) = false := by simp; omega
  have e2 : decide (6 < d) = false := by simp; omega
  have HB0 := hid (below_alloc w (.cells #[.int .i64 10, .slice kp kl.length kc, .string data, .slice lp lo.length lc, .slice hp hi.length hc, .slice ap at_.length ac, .int .i64 most, .slice rp rs.length rc] 37))
  have HX := hid (heap_alloc_new w (.cells #[.int .i64 10, .slice kp kl.length kc, .string data, .slice lp lo.length lc, .slice hp hi.length hc, .slice ap at_.length ac, .int .i64 most, .slice rp rs.length rc] 37))
  have HL := hid (Array.getElem?_eq_some_iff.1 HX.out).1
  have HMV := hid musts_ok
  clear h h1 h6 HE
  cases inside
  all_goals
    go_enter Try.func11, Try.ntmps11
    generalize hV0 : w.alloc (.cells #[.int .i64 10, .slice kp kl.length kc, .string data, .slice lp lo.length lc, .slice hp hi.length hc, .slice ap at_.length ac, .int .i64 most, .slice rp rs.length rc] 37) = V0 at *
    have y0 : V0.cell? ⟨w.heap.size, 0, none⟩ = some (.int .i64 10) := by rw [cell_of_row _ _ _ _ _ _ HX.out]; rfl
    have ix : ∀ V : World, (Instr.index 52 (.agg #[.nilFunc, .func (.func 26) #[] #[], .func (.func 27) #[] #[], .func (.func 27) #[] #[], .func (.func 28) #[] #[], .func (.func 29) #[] #[], .func (.func 28) #[] #[], .func (.func 30) #[] #[], .func (.func 31) #[] #[], .func (.func 32) #[] #[], .func (.func 33) #[] #[], .func (.func 33) #[] #[], .func (.func 34) #[] #[]]) (.int .i64 10)).run Try.prog V = .ok (.func (.func 33) #[] #[]) V := fun _ => by kernel_rfl
    go_wp2_with fail
    go_region_held3 (fun w' => w'.cell? ⟨w.heap.size, 0, none⟩ = some (.int .i64 10)) (first | exact y0 | exact z0 | go_keep)
      (first
        | (go_at_call 18; refine (HMV.out _).mono ?_; rintro e w2 ⟨rfl, hb⟩; have HB2 := hid (show Below V0.heap.size V0 w2 from (Below.refl _ V0).drew.trans hb); have hx := (HB2.out.block _ HL.out).trans HX.out; have z0 : w2.cell? ⟨w.heap.size, 0, none⟩ = some (.int .i64 10) := (by rw [cell_of_row _ _ _ _ _ _ hx]; rfl); have z1 : w2.cell? ⟨w.heap.size, 1, none⟩ = some (.slice kp kl.length kc) := (by rw [cell_of_row _ _ _ _ _ _ hx]; rfl); have z2 : w2.cell? ⟨w.heap.size, 2, none⟩ = some (.string data) := (by rw [cell_of_row _ _ _ _ _ _ hx]; rfl); have z3 : w2.cell? ⟨w.heap.size, 3, none⟩ = some (.slice lp lo.length lc) := (by rw [cell_of_row _ _ _ _ _ _ hx]; rfl); have z4 : w2.cell? ⟨w.heap.size, 4, none⟩ = some (.slice hp hi.length hc) := (by rw [cell_of_row _ _ _ _ _ _ hx]; rfl); have z5 : w2.cell? ⟨w.heap.size, 5, none⟩ = some (.slice ap at_.length ac) := (by rw [cell_of_row _ _ _ _ _ _ hx]; rfl); have z6 : w2.cell? ⟨w.heap.size, 6, none⟩ = some (.int .i64 most) := (by rw [cell_of_row _ _ _ _ _ _ hx]; rfl); have z7 : w2.cell? ⟨w.heap.size, 7, none⟩ = some (.slice rp rs.length rc) := (by rw [cell_of_row _ _ _ _ _ _ hx]; rfl); clear hb hx)
        | fail)
    have HB3 := hid (HB0.out.trans (HB2.out.mono HB0.out.size))
    go_wp2_with (go_at_call 33; refine (HC.out _ HB3.out).mono ?_; rintro e w3 ⟨rfl, hb⟩; have HB := hid (HB3.out.trans (hb.mono HB3.out.size)); clear hb)
    go_ret
    exact ⟨rfl, HB.out⟩
set_option maxRecDepth 100000 in
set_option maxHeartbeats 4000000 in
theorem check_11 (r : Rq) (d : Int) (inside : Bool) (w : World) (h : r.At w) (hw : r.what = 11) (h1 : 1 ≤ d) (h6 : d ≤ 6) :
    Calls Try.prog 11 #[.agg r.cells, .int .i64 d, .bool true, .bool inside] w fun e w' => e = .returned (.int .i64 (err (r.must d inside))) ∧ Below w.heap.size w w' := by
  obtain ⟨what, kp, kl, kc, data, lp, lo, lc, hp, hi, hc, ap, at_, ac, most, rp, rs, rc⟩ := r
  dsimp only at hw
  subst hw
  have HC := hid fun (V : World) (hV : Below w.heap.size w V) => within_ok ⟨11, kp, kl, kc, data, lp, lo, lc, hp, hi, hc, ap, at_, ac, most, rp, rs, rc⟩ d inside V
  have HE : Hid (err (Rq.must ⟨11, kp, kl, kc, data, lp, lo, lc, hp, hi, hc, ap, at_, ac, most, rp, rs, rc⟩ d inside) = err (inside)) := hid (by simp [Rq.must])
  dsimp only [Rq.cells] at HC ⊢
  rw [HE.out]
  have e1 : decide (d < 1) = false := by simp; omega
  have e2 : decide (6 < d) = false := by simp; omega
  have HB0 := hid (below_alloc w (.cells #[.int .i64 11, .slice kp kl.length kc, .string data, .slice lp lo.length lc, .slice hp hi.length hc, .slice ap at_.length ac, .int .i64 most, .slice rp rs.length rc] 37))
  have HX := hid (heap_alloc_new w (.cells #[.int .i64 11, .slice kp kl.length kc, .string data, .slice lp lo.length lc, .slice hp hi.length hc, .slice ap at_.length ac, .int .i64 most, .slice rp rs.length rc] 37))
  have HL := hid (Array.getElem?_eq_some_iff.1 HX.out).1
  have HMV := hid musts_ok
  clear h h1 h6 HE
  cases inside
  all_goals
    go_enter Try.func11, Try.ntmps11
    generalize hV0 : w.alloc (.cells #[.int .i64 11, .slice kp kl.length kc, .string data, .slice lp lo.length lc, .slice hp hi.length hc, .slice ap at_.length ac, .int .i64 most, .slice rp rs.length rc] 37) = V0 at *
    have y0 : V0.cell? ⟨w.heap.size, 0, none⟩ = some (.int .i64 11) := by rw [cell_of_row _ _ _ _ _ _ HX.out]; rfl
    have ix : ∀ V : World, (Instr.index 52 (.agg #[.nilFunc, .func (.func 26) #[] #[], .func (.func 27) #[] #[], .func (.func 27) #[] #[], .func (.func 28) #[] #[], .func (.func 29) #[] #[], .func (.func 28) #[] #[], .func (.func 30) #[] #[], .func (.func 31) #[] #[], .func (.func 32) #[] #[], .func (.func 33) #[] #[], .func (.func 33) #[] #[], .func (.func 34) #[] #[]]) (.int .i64 11)).run Try.prog V = .ok (.func (.func 33) #[] #[]) V := fun _ => by kernel_rfl
    go_wp2_with fail
    go_region_held3 (fun w' => w'.cell? ⟨w.heap.size, 0, none⟩ = some (.int .i64 11)) (first | exact y0 | exact z0 | go_keep)
      (first
        | (go_at_call 18; refine (HMV.out _).mono ?_; rintro e w2 ⟨rfl, hb⟩; have HB2 := hid (show Below V0.heap.size V0 w2 from (Below.refl _ V0).drew.trans hb); have hx := (HB2.out.block _ HL.out).trans HX.out; have z0 : w2.cell? ⟨w.heap.size, 0, none⟩ = some (.int .i64 11) := (by rw [cell_of_row _ _ _ _ _ _ hx]; rfl); have z1 : w2.cell? ⟨w.heap.size, 1, none⟩ = some (.slice kp kl.length kc) := (by rw [cell_of_row _ _ _ _ _ _ hx]; rfl); have z2 : w2.cell? ⟨w.heap.size, 2, none⟩ = some (.string data) := (by rw [cell_of_row _ _ _ _ _ _ hx]; rfl); have z3 : w2.cell? ⟨w.heap.size, 3, none⟩ = some (.slice lp lo.length lc) := (by rw [cell_of_row _ _ _ _ _ _ hx]; rfl); have z4 : w2.cell? ⟨w.heap.size, 4, none⟩ = some (.slice hp hi.length hc) := (by rw [cell_of_row _ _ _ _ _ _ hx]; rfl); have z5 : w2.cell? ⟨w.heap.size, 5, none⟩ = some (.slice ap at_.length ac) := (by rw [cell_of_row _ _ _ _ _ _ hx]; rfl); have z6 : w2.cell? ⟨w.heap.size, 6, none⟩ = some (.int .i64 most) := (by rw [cell_of_row _ _ _ _ _ _ hx]; rfl); have z7 : w2.cell? ⟨w.heap.size, 7, none⟩ = some (.slice rp rs.length rc) := (by rw [cell_of_row _ _ _ _ _ _ hx]; rfl); clear hb hx)
        | fail)
    have HB3 := hid (HB0.out.trans (HB2.out.mono HB0.out.size))
    go_wp2_with (go_at_call 33; refine (HC.out _ HB3.out).mono ?_; rintro e w3 ⟨rfl, hb⟩; have HB := hid (HB3.out.trans (hb.mono HB3.out.size)); clear hb)
    go_ret
    exact ⟨rfl, HB.out⟩
set_option maxRecDepth 100000 in
set_option maxHeartbeats 4000000 in
theorem check_12 (r : Rq) (d : Int) (inside : Bool) (w : World) (h : r.At w) (hw : r.what = 12) (h1 : 1 ≤ d) (h6 : d ≤ 6) :
    Calls Try.prog 11 #[.agg r.cells, .int .i64 d, .bool true, .bool inside] w fun e w' => e = .returned (.int .i64 (err (r.must d inside))) ∧ Below w.heap.size w w' := by
  obtain ⟨what, kp, kl, kc, data, lp, lo, lc, hp, hi, hc, ap, at_, ac, most, rp, rs, rc⟩ := r
  dsimp only at hw
  subst hw
  have HC := hid fun (V : World) (hV : Below w.heap.size w V) => close_ok ⟨12, kp, kl, kc, data, lp, lo, lc, hp, hi, hc, ap, at_, ac, most, rp, rs, rc⟩ d inside V
  have HE : Hid (err (Rq.must ⟨12, kp, kl, kc, data, lp, lo, lc, hp, hi, hc, ap, at_, ac, most, rp, rs, rc⟩ d inside) = err (true)) := hid (by simp [Rq.must])
  dsimp only [Rq.cells] at HC ⊢
  rw [HE.out]
  have e1 : decide (d < 1) = false := by simp; omega
  have e2 : decide (6 < d) = false := by simp; omega
  have HB0 := hid (below_alloc w (.cells #[.int .i64 12, .slice kp kl.length kc, .string data, .slice lp lo.length lc, .slice hp hi.length hc, .slice ap at_.length ac, .int .i64 most, .slice rp rs.length rc] 37))
  have HX := hid (heap_alloc_new w (.cells #[.int .i64 12, .slice kp kl.length kc, .string data, .slice lp lo.length lc, .slice hp hi.length hc, .slice ap at_.length ac, .int .i64 most, .slice rp rs.length rc] 37))
  have HL := hid (Array.getElem?_eq_some_iff.1 HX.out).1
  have HMV := hid musts_ok
  clear h h1 h6 HE

  go_enter Try.func11, Try.ntmps11
  generalize hV0 : w.alloc (.cells #[.int .i64 12, .slice kp kl.length kc, .string data, .slice lp lo.length lc, .slice hp hi.length hc, .slice ap at_.length ac, .int .i64 most, .slice rp rs.length rc] 37) = V0 at *
  have y0 : V0.cell? ⟨w.heap.size, 0, none⟩ = some (.int .i64 12) := by rw [cell_of_row _ _ _ _ _ _ HX.out]; rfl
  have ix : ∀ V : World, (Instr.index 52 (.agg #[.nilFunc, .func (.func 26) #[] #[], .func (.func 27) #[] #[], .func (.func 27) #[] #[], .func (.func 28) #[] #[], .func (.func 29) #[] #[], .func (.func 28) #[] #[], .func (.func 30) #[] #[], .func (.func 31) #[] #[], .func (.func 32) #[] #[], .func (.func 33) #[] #[], .func (.func 33) #[] #[], .func (.func 34) #[] #[]]) (.int .i64 12)).run Try.prog V = .ok (.func (.func 34) #[] #[]) V := fun _ => by kernel_rfl
  go_wp2_with fail
  go_region_held3 (fun w' => w'.cell? ⟨w.heap.size, 0, none⟩ = some (.int .i64 12)) (first | exact y0 | exact z0 | go_keep)
    (first
      | (go_at_call 18; refine (HMV.out _).mono ?_; rintro e w2 ⟨rfl, hb⟩; have HB2 := hid (show Below V0.heap.size V0 w2 from (Below.refl _ V0).drew.trans hb); have hx := (HB2.out.block _ HL.out).trans HX.out; have z0 : w2.cell? ⟨w.heap.size, 0, none⟩ = some (.int .i64 12) := (by rw [cell_of_row _ _ _ _ _ _ hx]; rfl); have z1 : w2.cell? ⟨w.heap.size, 1, none⟩ = some (.slice kp kl.length kc) := (by rw [cell_of_row _ _ _ _ _ _ hx]; rfl); have z2 : w2.cell? ⟨w.heap.size, 2, none⟩ = some (.string data) := (by rw [cell_of_row _ _ _ _ _ _ hx]; rfl); have z3 : w2.cell? ⟨w.heap.size, 3, none⟩ = some (.slice lp lo.length lc) := (by rw [cell_of_row _ _ _ _ _ _ hx]; rfl); have z4 : w2.cell? ⟨w.heap.size, 4, none⟩ = some (.slice hp hi.length hc) := (by rw [cell_of_row _ _ _ _ _ _ hx]; rfl); have z5 : w2.cell? ⟨w.heap.size, 5, none⟩ = some (.slice ap at_.length ac) := (by rw [cell_of_row _ _ _ _ _ _ hx]; rfl); have z6 : w2.cell? ⟨w.heap.size, 6, none⟩ = some (.int .i64 most) := (by rw [cell_of_row _ _ _ _ _ _ hx]; rfl); have z7 : w2.cell? ⟨w.heap.size, 7, none⟩ = some (.slice rp rs.length rc) := (by rw [cell_of_row _ _ _ _ _ _ hx]; rfl); clear hb hx)
      | fail)
  have HB3 := hid (HB0.out.trans (HB2.out.mono HB0.out.size))
  go_wp2_with (go_at_call 34; refine (HC.out _ HB3.out).mono ?_; rintro e w3 ⟨rfl, hb⟩; have HB := hid (HB3.out.trans (hb.mono HB3.out.size)); clear hb)
  go_ret
  exact ⟨rfl, HB.out⟩
set_option maxRecDepth 100000 in
set_option maxHeartbeats 4000000 in
theorem check_no (r : Rq) (d : Int) (isOpen inside : Bool) (w : World) (h : isOpen = false ∨ d < 1 ∨ 6 < d ∨ r.what < 1 ∨ 12 < r.what) :
    Calls Try.prog 11 #[.agg r.cells, .int .i64 d, .bool isOpen, .bool inside] w fun e w' => e = .returned (.int .i64 1) ∧ Below w.heap.size w w' := by
  obtain ⟨what, kp, kl, kc, data, lp, lo, lc, hp, hi, hc, ap, at_, ac, most, rp, rs, rc⟩ := r
  dsimp only at h
  dsimp only [Rq.cells]
  have HB0 := hid (below_alloc w (.cells #[.int .i64 what, .slice kp kl.length kc, .string data, .slice lp lo.length lc, .slice hp hi.length hc, .slice ap at_.length ac, .int .i64 most, .slice rp rs.length rc] 37))
  cases isOpen with
  | false =>
    clear h
    go_enter Try.func11, Try.ntmps11
    go_wp2_with fail
    go_ret
    exact ⟨rfl, HB0.out⟩
  | true =>
    by_cases h1 : d < 1
    · have e1 : decide (d < 1) = true := decide_eq_true h1
      clear h h1
      go_enter Try.func11, Try.ntmps11
      go_wp2_with fail
      go_ret
      exact ⟨rfl, HB0.out⟩
    · have e1 : decide (d < 1) = false := decide_eq_false h1
      by_cases h2 : 6 < d
      · have e2 : decide (6 < d) = true := decide_eq_true h2
        clear h h1 h2
        go_enter Try.func11, Try.ntmps11
        go_wp2_with fail
        go_ret
        exact ⟨rfl, HB0.out⟩
      · have e2 : decide (6 < d) = false := decide_eq_false h2
        by_cases h3 : what < 1
        · have e3 : decide (what < 1) = true := decide_eq_true h3
          clear h h1 h2 h3
          go_enter Try.func11, Try.ntmps11
          go_wp2_with fail
          go_ret
          exact ⟨rfl, HB0.out⟩
        · have e3 : decide (what < 1) = false := decide_eq_false h3
          have e4 : decide (12 < what) = true := decide_eq_true (by rcases h with h | h | h | h | h <;> first | cases h | omega)
          clear h h1 h2 h3
          go_enter Try.func11, Try.ntmps11
          go_wp2_with fail
          go_ret
          exact ⟨rfl, HB0.out⟩
/-- Check, whatever is asked of whichever store -/
theorem check_any (r : Rq) (d : Int) (isOpen inside : Bool) (w : World) (h : r.At w) :
    Calls Try.prog 11 #[.agg r.cells, .int .i64 d, .bool isOpen, .bool inside] w fun e w' => e = .returned (.int .i64 (err (r.may d isOpen inside))) ∧ Below w.heap.size w w' := by
  by_cases hno : isOpen = false ∨ d < 1 ∨ 6 < d ∨ r.what < 1 ∨ 12 < r.what
  · have e : r.may d isOpen inside = false := by
      unfold Rq.may
      rcases hno with h | h | h | h | h
      · rw [h]; rfl
      · have : mayB d = false := by simp [mayB]; omega
        rw [this]; cases isOpen <;> rfl
      · have : mayB d = false := by simp [mayB]; omega
        rw [this]; cases isOpen <;> rfl
      · have : r.must d inside = false := by
          unfold Rq.must
          rw [if_neg (by omega), if_neg (by omega), if_neg (by omega), if_neg (by omega), if_neg (by omega), if_neg (by omega), if_neg (by omega), if_neg (by omega)]; simp; omega
        rw [this]; simp
      · have : r.must d inside = false := by
          unfold Rq.must
          rw [if_neg (by omega), if_neg (by omega), if_neg (by omega), if_neg (by omega), if_neg (by omega), if_neg (by omega), if_neg (by omega), if_neg (by omega)]; simp; omega
        rw [this]; simp
    rw [e, err_false false rfl]
    exact check_no r d isOpen inside w hno
  · have ho : isOpen = true := by cases isOpen <;> simp_all
    subst ho
    have h1 : 1 ≤ d := by omega
    have h6 : d ≤ 6 := by omega
    have e : r.may d true inside = r.must d inside := by
      unfold Rq.may
      have : mayB d = true := by simp [mayB]; omega
      rw [this]; rfl
    rw [e]
    have hw : r.what = 1 ∨ r.what = 2 ∨ r.what = 3 ∨ r.what = 4 ∨ r.what = 5 ∨ r.what = 6 ∨ r.what = 7 ∨ r.what = 8 ∨ r.what = 9 ∨ r.what = 10 ∨ r.what = 11 ∨ r.what = 12 := by omega
    rcases hw with hw | hw | hw | hw | hw | hw | hw | hw | hw | hw | hw | hw
    · exact check_1 r d inside w h hw h1 h6
    · exact check_2 r d inside w h hw h1 h6
    · exact check_3 r d inside w h hw h1 h6
    · exact check_4 r d inside w h hw h1 h6
    · exact check_5 r d inside w h hw h1 h6
    · exact check_6 r d inside w h hw h1 h6
    · exact check_7 r d inside w h hw h1 h6
    · exact check_8 r d inside w h hw h1 h6
    · exact check_9 r d inside w h hw h1 h6
    · exact check_10 r d inside w h hw h1 h6
    · exact check_11 r d inside w h hw h1 h6
    · exact check_12 r d inside w h hw h1 h6
end Go.Proofs.Ytolnbamdddiifaa.Rq
