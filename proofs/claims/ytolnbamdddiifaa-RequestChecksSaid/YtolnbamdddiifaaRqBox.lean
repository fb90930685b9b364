/- A request of the program's out of the document's; the box that is asked for, of both. -/
import Derived.Test.YtolnbamdddiifaaRqCheck
import Derived.Test.YtolnbamdddiifaaRqRef
import Derived.Test.YtolnbamdddiifaaBkOwn
import Derived.Deep.RegionHeld3
namespace Go.Proofs.Ytolnbamdddiifaa.Rq
open Go.RowKit
open Go.Lib (hid)
open Go.Proofs.Ytolnbamdddiifaa.Ky
open Go.Proofs.Ytolnbamdddiifaa.Bk
def Rq.bok (r : Rq) (d : Int) : Bool := r.may d true false && (decide (4 ≤ r.what) && decide (r.what ≤ 6))
def Rq.bLo (r : Rq) (d : Int) : List Nat := if r.bok d then (if r.what = 5 then partLo d r.at_ r.kl else r.lo) else []
def Rq.bHi (r : Rq) (d : Int) : List Nat := if r.bok d then (if r.what = 5 then partHi d r.at_ r.kl else r.hi) else []
set_option maxHeartbeats 2000000 in
theorem own_ok (r : Rq) (w : World) : Calls Try.prog 9 #[.agg r.cells] w fun e w' => e = .returned (.agg r.cells) ∧ Below w.heap.size w w' := by
  obtain ⟨what, kp, kl, kc, data, lp, lo, lc, hp, hi, hc, ap, at_, ac, most, rp, rs, rc⟩ := r
  dsimp only [Rq.cells]
  have HB0 := hid (below_alloc w (.cells #[.int .i64 what, .slice kp kl.length kc, .string data, .slice lp lo.length lc, .slice hp hi.length hc, .slice ap at_.length ac, .int .i64 most, .slice rp rs.length rc] 29))
  go_enter Try.func9, Try.ntmps9
  go_wp2_with fail
  refine bodyPost_ret (v := .agg #[.int .i64 what, .slice kp kl.length kc, .string data, .slice lp lo.length lc, .slice hp hi.length hc, .slice ap at_.length ac, .int .i64 most, .slice rp rs.length rc]) (by simp [results, Try.results9, go_sem]) rfl ?_
  exact ⟨rfl, HB0.out.alloc HB0.out.size _⟩
theorem store_no {w V : World} {b : Nat} (hb : Below w.heap.size w V) (hge : w.heap.size ≤ b) (hz : V.heap[b]? = some (.cells #[Value.slice none 0 0, .slice none 0 0] 25 (0, 0))) :
    Below w.heap.size w ((V.setCell ⟨b, 0, none⟩ (.slice none 0 0)).setCell ⟨b, 1, none⟩ (.slice none 0 0)) ∧ ((V.setCell ⟨b, 0, none⟩ (.slice none 0 0)).setCell ⟨b, 1, none⟩ (.slice none 0 0)).cell? ⟨b, 0, none⟩ = some (.slice none 0 0) ∧ ((V.setCell ⟨b, 0, none⟩ (.slice none 0 0)).setCell ⟨b, 1, none⟩ (.slice none 0 0)).cell? ⟨b, 1, none⟩ = some (.slice none 0 0) := by
  have h := store_out (lo := []) (hi := []) (A := none) (A' := none) hb hge hz (Pt.nil _ _) (Pt.nil _ _) (.slice none 0 0) (.slice none 0 0) (by simp)
  exact ⟨h.2.2.1, h.2.2.2⟩
theorem away2 {V : World} {a b : Nat} {u v : Value} (hn : a ≠ b) (h : V.cell? ⟨a, 3, none⟩ = some u ∧ V.cell? ⟨a, 4, none⟩ = some v) (x y : Value) :
    ((V.setCell ⟨b, 0, none⟩ x).setCell ⟨b, 1, none⟩ y).cell? ⟨a, 3, none⟩ = some u ∧ ((V.setCell ⟨b, 0, none⟩ x).setCell ⟨b, 1, none⟩ y).cell? ⟨a, 4, none⟩ = some v := by
  have e : ∀ i, ((V.setCell ⟨b, 0, none⟩ x).setCell ⟨b, 1, none⟩ y).cell? ⟨a, i, none⟩ = V.cell? ⟨a, i, none⟩ := fun i => by
    unfold World.cell?
    rw [Below.heap_setCell _ ⟨b, 1, none⟩ _ _ hn, Below.heap_setCell _ ⟨b, 0, none⟩ _ _ hn]
  exact ⟨(e 3).trans h.1, (e 4).trans h.2⟩
theorem nobox {w w' : World} {r : Rq} {d : Int} (h : r.bok d = false) (hb : Below w.heap.size w w') : NewBox w (r.bLo d) (r.bHi d) (.int .i64 (err (r.bok d))) (.returned (.tuple #[.agg #[.slice none 0 0, .slice none 0 0], .int .i64 1])) w' := by
  have e1 : r.bLo d = [] := by simp [Rq.bLo, h]
  have e2 : r.bHi d = [] := by simp [Rq.bHi, h]
  rw [h, e1, e2]
  exact ⟨none, 0, none, 0, rfl, Pt.nil _ _, Pt.nil _ _, hb⟩
set_option maxRecDepth 100000 in
set_option maxHeartbeats 4000000 in
theorem pbox_no (r : Rq) (d : Int) (w : World) (h : r.At w) (hm : r.may d true false = false) : Calls Try.prog 8 #[.agg r.cells, .int .i64 d] w (NewBox w (r.bLo d) (r.bHi d) (.int .i64 (err (r.bok d)))) := by
  have HN := hid fun (V : World) (hV : Below w.heap.size w V) => nobox (w := w) (w' := V) (r := r) (d := d) (by simp [Rq.bok, hm]) hV
  have HC := hid fun (V : World) (hV : Below w.heap.size w V) => check_any r d true false V (h.below hV)
  rw [hm, err_false false rfl] at HC
  clear h hm
  generalize Rq.bLo r d = l1 at *
  generalize Rq.bHi r d = l2 at *
  generalize Rq.bok r d = bb at *
  obtain ⟨what, kp, kl, kc, data, lp, lo, lc, hp, hi, hc, ap, at_, ac, most, rp, rs, rc⟩ := r
  dsimp only [Rq.cells] at HC ⊢
  have HB0 := hid (below_alloc w (.cells #[.int .i64 what, .slice kp kl.length kc, .string data, .slice lp lo.length lc, .slice hp hi.length hc, .slice ap at_.length ac, .int .i64 most, .slice rp rs.length rc] 37))
  have HX := hid (heap_alloc_new w (.cells #[.int .i64 what, .slice kp kl.length kc, .string data, .slice lp lo.length lc, .slice hp hi.length hc, .slice ap at_.length ac, .int .i64 most, .slice rp rs.length rc] 37))
  have HL := hid (Array.getElem?_eq_some_iff.1 HX.out).1
  obtain ⟨V0, hV0⟩ : ∃ V0, w.alloc (.cells #[.int .i64 what, .slice kp kl.length kc, .string data, .slice lp lo.length lc, .slice hp hi.length hc, .slice ap at_.length ac, .int .i64 most, .slice rp rs.length rc] 37) = V0 := ⟨_, rfl⟩
  rw [hV0] at HB0 HX HL
  obtain ⟨V1, hV1⟩ : ∃ V1, V0.alloc (.cells #[Value.slice none 0 0, .slice none 0 0] 25) = V1 := ⟨_, rfl⟩
  have HBZ := hid (show Below w.heap.size w V1 by rw [← hV1]; exact HB0.out.alloc HB0.out.size _)
  have HXZ := hid (show V1.heap[w.heap.size]? = some (.cells #[.int .i64 what, .slice kp kl.length kc, .string data, .slice lp lo.length lc, .slice hp hi.length hc, .slice ap at_.length ac, .int .i64 most, .slice rp rs.length rc] 37 (0, 0)) by rw [← hV1]; exact (Below.heap_alloc _ _ _ HL.out).trans HX.out)
  have HZZ := hid (show V1.heap[V0.heap.size]? = some (.cells #[Value.slice none 0 0, .slice none 0 0] 25 (0, 0)) by rw [← hV1]; exact heap_alloc_new _ _)
  have HS0 := hid HB0.out.size
  have hx := HXZ.out
  have y0 : V1.cell? ⟨w.heap.size, 0, none⟩ = some (.int .i64 what) := by rw [cell_of_row _ _ _ _ _ _ hx]; rfl
  have y1 : V1.cell? ⟨w.heap.size, 1, none⟩ = some (.slice kp kl.length kc) := by rw [cell_of_row _ _ _ _ _ _ hx]; rfl
  have y2 : V1.cell? ⟨w.heap.size, 2, none⟩ = some (.string data) := by rw [cell_of_row _ _ _ _ _ _ hx]; rfl
  have y3 : V1.cell? ⟨w.heap.size, 3, none⟩ = some (.slice lp lo.length lc) := by rw [cell_of_row _ _ _ _ _ _ hx]; rfl
  have y4 : V1.cell? ⟨w.heap.size, 4, none⟩ = some (.slice hp hi.length hc) := by rw [cell_of_row _ _ _ _ _ _ hx]; rfl
  have y5 : V1.cell? ⟨w.heap.size, 5, none⟩ = some (.slice ap at_.length ac) := by rw [cell_of_row _ _ _ _ _ _ hx]; rfl
  have y6 : V1.cell? ⟨w.heap.size, 6, none⟩ = some (.int .i64 most) := by rw [cell_of_row _ _ _ _ _ _ hx]; rfl
  have y7 : V1.cell? ⟨w.heap.size, 7, none⟩ = some (.slice rp rs.length rc) := by rw [cell_of_row _ _ _ _ _ _ hx]; rfl
  clear hx

  go_enter Try.func8, Try.ntmps8
  go_wp2_with fail
  clear hV0 hV1
  refine (HC.out _ HBZ.out).mono ?_
  rintro e w2 ⟨rfl, hb⟩
  have HB2 := hid (HBZ.out.trans (hb.mono HBZ.out.size))
  have hz2 := (hb.block _ (Array.getElem?_eq_some_iff.1 HZZ.out).1).trans HZZ.out
  have HST := hid (store_no HB2.out HS0.out hz2)
  have z8 := zero_cells hz2
  clear hb hz2
  go_wp2_with fail
  have z9 := HST.out.2
  refine bodyPost_ret (v := .tuple #[.agg #[Value.slice none 0 0, .slice none 0 0], .int .i64 1]) (by simp [results, Try.results8, go_sem, z9]) rfl ?_
  exact HN.out _ HST.out.1
set_option maxRecDepth 100000 in
set_option maxHeartbeats 4000000 in
theorem pbox_other (r : Rq) (d : Int) (w : World) (h : r.At w) (hm : r.may d true false = true) (hw : r.what < 4 ∨ 6 < r.what) : Calls Try.prog 8 #[.agg r.cells, .int .i64 d] w (NewBox w (r.bLo d) (r.bHi d) (.int .i64 (err (r.bok d)))) := by
  have HN := hid fun (V : World) (hV : Below w.heap.size w V) => nobox (w := w) (w' := V) (r := r) (d := d) (by simp [Rq.bok]; omega) hV
  have HC := hid fun (V : World) (hV : Below w.heap.size w V) => check_any r d true false V (h.below hV)
  rw [hm, err_true true rfl] at HC
  have HA := hid fun (V : World) (hV : Below w.heap.size w V) => h.below hV
  clear h hm
  generalize Rq.bLo r d = l1 at *
  generalize Rq.bHi r d = l2 at *
  generalize Rq.bok r d = bb at *
  obtain ⟨what, kp, kl, kc, data, lp, lo, lc, hp, hi, hc, ap, at_, ac, most, rp, rs, rc⟩ := r
  dsimp only at hw
  dsimp only [Rq.cells] at HC ⊢
  have g0 : (what == 4) = false := by simp; omega
  have g1 : (what == 6) = false := by simp; omega
  have g2 : (what == 5) = false := by simp; omega
  clear hw
  have HB0 := hid (below_alloc w (.cells #[.int .i64 what, .slice kp kl.length kc, .string data, .slice lp lo.length lc, .slice hp hi.length hc, .slice ap at_.length ac, .int .i64 most, .slice rp rs.length rc] 37))
  have HX := hid (heap_alloc_new w (.cells #[.int .i64 what, .slice kp kl.length kc, .string data, .slice lp lo.length lc, .slice hp hi.length hc, .slice ap at_.length ac, .int .i64 most, .slice rp rs.length rc] 37))
  have HL := hid (Array.getElem?_eq_some_iff.1 HX.out).1
  obtain ⟨V0, hV0⟩ : ∃ V0, w.alloc (.cells #[.int .i64 what, .slice kp kl.length kc, .string data, .slice lp lo.length lc, .slice hp hi.length hc, .slice ap at_.length ac, .int .i64 most, .slice rp rs.length rc] 37) = V0 := ⟨_, rfl⟩
  rw [hV0] at HB0 HX HL
  obtain ⟨V1, hV1⟩ : ∃ V1, V0.alloc (.cells #[Value.slice none 0 0, .slice none 0 0] 25) = V1 := ⟨_, rfl⟩
  have HBZ := hid (show Below w.heap.size w V1 by rw [← hV1]; exact HB0.out.alloc HB0.out.size _)
  have HXZ := hid (show V1.heap[w.heap.size]? = some (.cells #[.int .i64 what, .slice kp kl.length kc, .string data, .slice lp lo.length lc, .slice hp hi.length hc, .slice ap at_.length ac, .int .i64 most, .slice rp rs.length rc] 37 (0, 0)) by rw [← hV1]; exact (Below.heap_alloc _ _ _ HL.out).trans HX.out)
  have HZZ := hid (show V1.heap[V0.heap.size]? = some (.cells #[Value.slice none 0 0, .slice none 0 0] 25 (0, 0)) by rw [← hV1]; exact heap_alloc_new _ _)
  have HS0 := hid HB0.out.size
  have hx := HXZ.out
  have y0 : V1.cell? ⟨w.heap.size, 0, none⟩ = some (.int .i64 what) := by rw [cell_of_row _ _ _ _ _ _ hx]; rfl
  have y1 : V1.cell? ⟨w.heap.size, 1, none⟩ = some (.slice kp kl.length kc) := by rw [cell_of_row _ _ _ _ _ _ hx]; rfl
  have y2 : V1.cell? ⟨w.heap.size, 2, none⟩ = some (.string data) := by rw [cell_of_row _ _ _ _ _ _ hx]; rfl
  have y3 : V1.cell? ⟨w.heap.size, 3, none⟩ = some (.slice lp lo.length lc) := by rw [cell_of_row _ _ _ _ _ _ hx]; rfl
  have y4 : V1.cell? ⟨w.heap.size, 4, none⟩ = some (.slice hp hi.length hc) := by rw [cell_of_row _ _ _ _ _ _ hx]; rfl
  have y5 : V1.cell? ⟨w.heap.size, 5, none⟩ = some (.slice ap at_.length ac) := by rw [cell_of_row _ _ _ _ _ _ hx]; rfl
  have y6 : V1.cell? ⟨w.heap.size, 6, none⟩ = some (.int .i64 most) := by rw [cell_of_row _ _ _ _ _ _ hx]; rfl
  have y7 : V1.cell? ⟨w.heap.size, 7, none⟩ = some (.slice rp rs.length rc) := by rw [cell_of_row _ _ _ _ _ _ hx]; rfl
  clear hx

  go_enter Try.func8, Try.ntmps8
  go_wp2_with fail
  clear hV0 hV1
  refine (HC.out _ HBZ.out).mono ?_
  rintro e w2 ⟨rfl, hb⟩
  have HB2 := hid (HBZ.out.trans (hb.mono HBZ.out.size))
  have hx2 := (hb.block _ (Array.getElem?_eq_some_iff.1 HXZ.out).1).trans HXZ.out
  have hz2 := (hb.block _ (Array.getElem?_eq_some_iff.1 HZZ.out).1).trans HZZ.out
  have z0 : w2.cell? ⟨w.heap.size, 0, none⟩ = some (.int .i64 what) := by rw [cell_of_row _ _ _ _ _ _ hx2]; rfl
  have z1 : w2.cell? ⟨w.heap.size, 1, none⟩ = some (.slice kp kl.length kc) := by rw [cell_of_row _ _ _ _ _ _ hx2]; rfl
  have z2 : w2.cell? ⟨w.heap.size, 2, none⟩ = some (.string data) := by rw [cell_of_row _ _ _ _ _ _ hx2]; rfl
  have z3 : w2.cell? ⟨w.heap.size, 3, none⟩ = some (.slice lp lo.length lc) := by rw [cell_of_row _ _ _ _ _ _ hx2]; rfl
  have z4 : w2.cell? ⟨w.heap.size, 4, none⟩ = some (.slice hp hi.length hc) := by rw [cell_of_row _ _ _ _ _ _ hx2]; rfl
  have z5 : w2.cell? ⟨w.heap.size, 5, none⟩ = some (.slice ap at_.length ac) := by rw [cell_of_row _ _ _ _ _ _ hx2]; rfl
  have z6 : w2.cell? ⟨w.heap.size, 6, none⟩ = some (.int .i64 most) := by rw [cell_of_row _ _ _ _ _ _ hx2]; rfl
  have z7 : w2.cell? ⟨w.heap.size, 7, none⟩ = some (.slice rp rs.length rc) := by rw [cell_of_row _ _ _ _ _ _ hx2]; rfl
  have HZ2 := hid hz2
  have HL2 := hid (Array.getElem?_eq_some_iff.1 hx2).1
  have z8 := zero_cells hz2
  clear hb hz2 hx2 y0 y1 y2 y3 y4 y5 y6 y7
  have HST := hid (store_no HB2.out HS0.out HZ2.out)
  go_wp2_with fail
  have z9 := HST.out.2
  refine bodyPost_ret (v := .tuple #[.agg #[Value.slice none 0 0, .slice none 0 0], .int .i64 1]) (by simp [results, Try.results8, go_sem, z9]) rfl ?_
  exact HN.out _ HST.out.1
set_option maxRecDepth 100000 in
set_option maxHeartbeats 4000000 in
theorem pbox_part (r : Rq) (d : Int) (w : World) (h : r.At w) (hm : r.may d true false = true) (hw : r.what = 5) : Calls Try.prog 8 #[.agg r.cells, .int .i64 d] w (NewBox w (r.bLo d) (r.bHi d) (.int .i64 (err (r.bok d)))) := by
  have hok : r.bok d = true := by simp [Rq.bok, hm, hw]
  have hpo : partOk d r.at_ r.kl = true := by
    have := hm
    unfold Rq.may Rq.must at this
    rw [if_neg (by omega), if_neg (by omega), if_neg (by omega), if_pos hw] at this
    simp at this; exact this.2
  have HO := hid (show r.bok d = true ∧ r.bLo d = partLo d r.at_ r.kl ∧ r.bHi d = partHi d r.at_ r.kl ∧ partOk d r.at_ r.kl = true from ⟨hok, by simp [Rq.bLo, hok, hw], by simp [Rq.bHi, hok, hw], hpo⟩)
  clear hok hpo
  have HC := hid fun (V : World) (hV : Below w.heap.size w V) => check_any r d true false V (h.below hV)
  rw [hm, err_true true rfl] at HC
  have HA := hid fun (V : World) (hV : Below w.heap.size w V) => h.below hV
  clear h hm
  generalize Rq.bLo r d = l1 at *
  generalize Rq.bHi r d = l2 at *
  generalize Rq.bok r d = bb at *
  obtain ⟨what, kp, kl, kc, data, lp, lo, lc, hp, hi, hc, ap, at_, ac, most, rp, rs, rc⟩ := r
  dsimp only at hw
  dsimp only [Rq.cells] at HC ⊢
  subst hw
  dsimp only at HO
  have HP := hid fun (V : World) (hV : Below w.heap.size w V) => partial_ok d at_ kl ap kp ac kc V (HA.out V hV).a (HA.out V hV).k (HA.out V hV).na
  rw [HO.out.2.2.2, err_true true rfl] at HP
  rw [HO.out.1, HO.out.2.1, HO.out.2.2.1, err_true true rfl]
  clear HO
  generalize partLo d at_ kl = lo1 at *
  generalize partHi d at_ kl = hi1 at *
  have HB0 := hid (below_alloc w (.cells #[.int .i64 5, .slice kp kl.length kc, .string data, .slice lp lo.length lc, .slice hp hi.length hc, .slice ap at_.length ac, .int .i64 most, .slice rp rs.length rc] 37))
  have HX := hid (heap_alloc_new w (.cells #[.int .i64 5, .slice kp kl.length kc, .string data, .slice lp lo.length lc, .slice hp hi.length hc, .slice ap at_.length ac, .int .i64 most, .slice rp rs.length rc] 37))
  have HL := hid (Array.getElem?_eq_some_iff.1 HX.out).1
  obtain ⟨V0, hV0⟩ : ∃ V0, w.alloc (.cells #[.int .i64 5, .slice kp kl.length kc, .string data, .slice lp lo.length lc, .slice hp hi.length hc, .slice ap at_.length ac, .int .i64 most, .slice rp rs.length rc] 37) = V0 := ⟨_, rfl⟩
  rw [hV0] at HB0 HX HL
  obtain ⟨V1, hV1⟩ : ∃ V1, V0.alloc (.cells #[Value.slice none 0 0, .slice none 0 0] 25) = V1 := ⟨_, rfl⟩
  have HBZ := hid (show Below w.heap.size w V1 by rw [← hV1]; exact HB0.out.alloc HB0.out.size _)
  have HXZ := hid (show V1.heap[w.heap.size]? = some (.cells #[.int .i64 5, .slice kp kl.length kc, .string data, .slice lp lo.length lc, .slice hp hi.length hc, .slice ap at_.length ac, .int .i64 most, .slice rp rs.length rc] 37 (0, 0)) by rw [← hV1]; exact (Below.heap_alloc _ _ _ HL.out).trans HX.out)
  have HZZ := hid (show V1.heap[V0.heap.size]? = some (.cells #[Value.slice none 0 0, .slice none 0 0] 25 (0, 0)) by rw [← hV1]; exact heap_alloc_new _ _)
  have HS0 := hid HB0.out.size
  have hx := HXZ.out
  have y0 : V1.cell? ⟨w.heap.size, 0, none⟩ = some (.int .i64 5) := by rw [cell_of_row _ _ _ _ _ _ hx]; rfl
  have y1 : V1.cell? ⟨w.heap.size, 1, none⟩ = some (.slice kp kl.length kc) := by rw [cell_of_row _ _ _ _ _ _ hx]; rfl
  have y2 : V1.cell? ⟨w.heap.size, 2, none⟩ = some (.string data) := by rw [cell_of_row _ _ _ _ _ _ hx]; rfl
  have y3 : V1.cell? ⟨w.heap.size, 3, none⟩ = some (.slice lp lo.length lc) := by rw [cell_of_row _ _ _ _ _ _ hx]; rfl
  have y4 : V1.cell? ⟨w.heap.size, 4, none⟩ = some (.slice hp hi.length hc) := by rw [cell_of_row _ _ _ _ _ _ hx]; rfl
  have y5 : V1.cell? ⟨w.heap.size, 5, none⟩ = some (.slice ap at_.length ac) := by rw [cell_of_row _ _ _ _ _ _ hx]; rfl
  have y6 : V1.cell? ⟨w.heap.size, 6, none⟩ = some (.int .i64 most) := by rw [cell_of_row _ _ _ _ _ _ hx]; rfl
  have y7 : V1.cell? ⟨w.heap.size, 7, none⟩ = some (.slice rp rs.length rc) := by rw [cell_of_row _ _ _ _ _ _ hx]; rfl
  clear hx

  go_enter Try.func8, Try.ntmps8
  go_wp2_with fail
  clear hV0 hV1
  refine (HC.out _ HBZ.out).mono ?_
  rintro e w2 ⟨rfl, hb⟩
  have HB2 := hid (HBZ.out.trans (hb.mono HBZ.out.size))
  have hx2 := (hb.block _ (Array.getElem?_eq_some_iff.1 HXZ.out).1).trans HXZ.out
  have hz2 := (hb.block _ (Array.getElem?_eq_some_iff.1 HZZ.out).1).trans HZZ.out
  have z0 : w2.cell? ⟨w.heap.size, 0, none⟩ = some (.int .i64 5) := by rw [cell_of_row _ _ _ _ _ _ hx2]; rfl
  have z1 : w2.cell? ⟨w.heap.size, 1, none⟩ = some (.slice kp kl.length kc) := by rw [cell_of_row _ _ _ _ _ _ hx2]; rfl
  have z2 : w2.cell? ⟨w.heap.size, 2, none⟩ = some (.string data) := by rw [cell_of_row _ _ _ _ _ _ hx2]; rfl
  have z3 : w2.cell? ⟨w.heap.size, 3, none⟩ = some (.slice lp lo.length lc) := by rw [cell_of_row _ _ _ _ _ _ hx2]; rfl
  have z4 : w2.cell? ⟨w.heap.size, 4, none⟩ = some (.slice hp hi.length hc) := by rw [cell_of_row _ _ _ _ _ _ hx2]; rfl
  have z5 : w2.cell? ⟨w.heap.size, 5, none⟩ = some (.slice ap at_.length ac) := by rw [cell_of_row _ _ _ _ _ _ hx2]; rfl
  have z6 : w2.cell? ⟨w.heap.size, 6, none⟩ = some (.int .i64 most) := by rw [cell_of_row _ _ _ _ _ _ hx2]; rfl
  have z7 : w2.cell? ⟨w.heap.size, 7, none⟩ = some (.slice rp rs.length rc) := by rw [cell_of_row _ _ _ _ _ _ hx2]; rfl
  have HZ2 := hid hz2
  have HL2 := hid (Array.getElem?_eq_some_iff.1 hx2).1
  have z8 := zero_cells hz2
  clear hb hz2 hx2 y0 y1 y2 y3 y4 y5 y6 y7
  clear z8
  go_wp2_with fail
  refine (HP.out _ HB2.out).mono ?_
  rintro e w3 ⟨p1, c1, p2, c2, rfl, k1, k2, hb⟩
  have HB3 := hid (HB2.out.trans (hb.mono HB2.out.size))
  have hz3 := (hb.block _ (Array.getElem?_eq_some_iff.1 HZ2.out).1).trans HZ2.out
  have HST := hid (store_out HB3.out HS0.out hz3 k1 k2 (.slice p1 lo1.length c1) (.slice p2 hi1.length c2) (by simp))
  have z8 := zero_cells hz3
  clear hb hz3 k1 k2 z0 z1 z2 z3 z4 z5 z6 z7
  go_wp2_with fail
  have z9 := HST.out.2.2.2
  refine bodyPost_ret (v := .tuple #[.agg #[Value.slice p1 lo1.length c1, .slice p2 hi1.length c2], .int .i64 0]) (by simp [results, Try.results8, go_sem, z9]) rfl ?_
  exact ⟨p1, c1, p2, c2, rfl, HST.out.1, HST.out.2.1, HST.out.2.2.1⟩
set_option maxRecDepth 100000 in
set_option maxHeartbeats 4000000 in
theorem pbox_4 (r : Rq) (d : Int) (w : World) (h : r.At w) (hm : r.may d true false = true) (hw : r.what = 4) : Calls Try.prog 8 #[.agg r.cells, .int .i64 d] w (NewBox w (r.bLo d) (r.bHi d) (.int .i64 (err (r.bok d)))) := by
  have hok : r.bok d = true := by simp [Rq.bok, hm, hw]
  have HO := hid (show r.bok d = true ∧ r.bLo d = r.lo ∧ r.bHi d = r.hi from ⟨hok, by simp [Rq.bLo, hok, hw], by simp [Rq.bHi, hok, hw]⟩)
  clear hok
  have HC := hid fun (V : World) (hV : Below w.heap.size w V) => check_any r d true false V (h.below hV)
  rw [hm, err_true true rfl] at HC
  have HA := hid fun (V : World) (hV : Below w.heap.size w V) => h.below hV
  clear h hm
  generalize Rq.bLo r d = l1 at *
  generalize Rq.bHi r d = l2 at *
  generalize Rq.bok r d = bb at *
  obtain ⟨what, kp, kl, kc, data, lp, lo, lc, hp, hi, hc, ap, at_, ac, most, rp, rs, rc⟩ := r
  dsimp only at hw
  dsimp only [Rq.cells] at HC ⊢
  subst hw
  dsimp only at HO
  rw [HO.out.1, HO.out.2.1, HO.out.2.2, err_true true rfl]
  clear HO
  have HB0 := hid (below_alloc w (.cells #[.int .i64 4, .slice kp kl.length kc, .string data, .slice lp lo.length lc, .slice hp hi.length hc, .slice ap at_.length ac, .int .i64 most, .slice rp rs.length rc] 37))
  have HX := hid (heap_alloc_new w (.cells #[.int .i64 4, .slice kp kl.length kc, .string data, .slice lp lo.length lc, .slice hp hi.length hc, .slice ap at_.length ac, .int .i64 most, .slice rp rs.length rc] 37))
  have HL := hid (Array.getElem?_eq_some_iff.1 HX.out).1
  obtain ⟨V0, hV0⟩ : ∃ V0, w.alloc (.cells #[.int .i64 4, .slice kp kl.length kc, .string data, .slice lp lo.length lc, .slice hp hi.length hc, .slice ap at_.length ac, .int .i64 most, .slice rp rs.length rc] 37) = V0 := ⟨_, rfl⟩
  rw [hV0] at HB0 HX HL
  obtain ⟨V1, hV1⟩ : ∃ V1, V0.alloc (.cells #[Value.slice none 0 0, .slice none 0 0] 25) = V1 := ⟨_, rfl⟩
  have HBZ := hid (show Below w.heap.size w V1 by rw [← hV1]; exact HB0.out.alloc HB0.out.size _)
  have HXZ := hid (show V1.heap[w.heap.size]? = some (.cells #[.int .i64 4, .slice kp kl.length kc, .string data, .slice lp lo.length lc, .slice hp hi.length hc, .slice ap at_.length ac, .int .i64 most, .slice rp rs.length rc] 37 (0, 0)) by rw [← hV1]; exact (Below.heap_alloc _ _ _ HL.out).trans HX.out)
  have HZZ := hid (show V1.heap[V0.heap.size]? = some (.cells #[Value.slice none 0 0, .slice none 0 0] 25 (0, 0)) by rw [← hV1]; exact heap_alloc_new _ _)
  have HS0 := hid HB0.out.size
  have hx := HXZ.out
  have y0 : V1.cell? ⟨w.heap.size, 0, none⟩ = some (.int .i64 4) := by rw [cell_of_row _ _ _ _ _ _ hx]; rfl
  have y1 : V1.cell? ⟨w.heap.size, 1, none⟩ = some (.slice kp kl.length kc) := by rw [cell_of_row _ _ _ _ _ _ hx]; rfl
  have y2 : V1.cell? ⟨w.heap.size, 2, none⟩ = some (.string data) := by rw [cell_of_row _ _ _ _ _ _ hx]; rfl
  have y3 : V1.cell? ⟨w.heap.size, 3, none⟩ = some (.slice lp lo.length lc) := by rw [cell_of_row _ _ _ _ _ _ hx]; rfl
  have y4 : V1.cell? ⟨w.heap.size, 4, none⟩ = some (.slice hp hi.length hc) := by rw [cell_of_row _ _ _ _ _ _ hx]; rfl
  have y5 : V1.cell? ⟨w.heap.size, 5, none⟩ = some (.slice ap at_.length ac) := by rw [cell_of_row _ _ _ _ _ _ hx]; rfl
  have y6 : V1.cell? ⟨w.heap.size, 6, none⟩ = some (.int .i64 most) := by rw [cell_of_row _ _ _ _ _ _ hx]; rfl
  have y7 : V1.cell? ⟨w.heap.size, 7, none⟩ = some (.slice rp rs.length rc) := by rw [cell_of_row _ _ _ _ _ _ hx]; rfl
  clear hx

  go_enter Try.func8, Try.ntmps8
  go_wp2_with fail
  clear hV0 hV1
  refine (HC.out _ HBZ.out).mono ?_
  rintro e w2 ⟨rfl, hb⟩
  have HB2 := hid (HBZ.out.trans (hb.mono HBZ.out.size))
  have hx2 := (hb.block _ (Array.getElem?_eq_some_iff.1 HXZ.out).1).trans HXZ.out
  have hz2 := (hb.block _ (Array.getElem?_eq_some_iff.1 HZZ.out).1).trans HZZ.out
  have z0 : w2.cell? ⟨w.heap.size, 0, none⟩ = some (.int .i64 4) := by rw [cell_of_row _ _ _ _ _ _ hx2]; rfl
  have z1 : w2.cell? ⟨w.heap.size, 1, none⟩ = some (.slice kp kl.length kc) := by rw [cell_of_row _ _ _ _ _ _ hx2]; rfl
  have z2 : w2.cell? ⟨w.heap.size, 2, none⟩ = some (.string data) := by rw [cell_of_row _ _ _ _ _ _ hx2]; rfl
  have z3 : w2.cell? ⟨w.heap.size, 3, none⟩ = some (.slice lp lo.length lc) := by rw [cell_of_row _ _ _ _ _ _ hx2]; rfl
  have z4 : w2.cell? ⟨w.heap.size, 4, none⟩ = some (.slice hp hi.length hc) := by rw [cell_of_row _ _ _ _ _ _ hx2]; rfl
  have z5 : w2.cell? ⟨w.heap.size, 5, none⟩ = some (.slice ap at_.length ac) := by rw [cell_of_row _ _ _ _ _ _ hx2]; rfl
  have z6 : w2.cell? ⟨w.heap.size, 6, none⟩ = some (.int .i64 most) := by rw [cell_of_row _ _ _ _ _ _ hx2]; rfl
  have z7 : w2.cell? ⟨w.heap.size, 7, none⟩ = some (.slice rp rs.length rc) := by rw [cell_of_row _ _ _ _ _ _ hx2]; rfl
  have HZ2 := hid hz2
  have HL2 := hid (Array.getElem?_eq_some_iff.1 hx2).1
  have z8 := zero_cells hz2
  clear hb hz2 hx2 y0 y1 y2 y3 y4 y5 y6 y7
  have HNZ := hid (show w.heap.size ≠ V0.heap.size by have := HL.out; omega)
  have HCL := hid fun (V : World) (hV : Below w.heap.size w V) => clone_ok lo lp lc V (HA.out V hV).l (HA.out V hV).nl
  have HCH := hid fun (V : World) (hV : Below w.heap.size w V) => clone_ok hi hp hc V (HA.out V hV).h (HA.out V hV).nh
  have HCX := hid fun (V : World) (hV : Below w2.heap.size w2 V) => (show V.cell? ⟨w.heap.size, 3, none⟩ = some (.slice lp lo.length lc) ∧ V.cell? ⟨w.heap.size, 4, none⟩ = some (.slice hp hi.length hc) ∧ V.heap[V0.heap.size]? = some (.cells #[Value.slice none 0 0, .slice none 0 0] 25 (0, 0)) from ⟨(hV.cell (p := ⟨w.heap.size, 3, none⟩) HL2.out).trans z3, (hV.cell (p := ⟨w.heap.size, 4, none⟩) HL2.out).trans z4, (hV.block _ (Array.getElem?_eq_some_iff.1 HZ2.out).1).trans HZ2.out⟩)
  have x0 := (fun t => And.intro t.1 t.2.1) (HCX.out _ (Below.refl _ _))
  clear z1 z2 z3 z4 z5 z6 z7 z8
  go_wp2_with fail
  go_region_held3 (fun w' => w'.cell? ⟨w.heap.size, 3, none⟩ = some (.slice lp lo.length lc) ∧ w'.cell? ⟨w.heap.size, 4, none⟩ = some (.slice hp hi.length hc)) (first | exact x0 | exact x1 | exact x2 | exact x3 | go_keep)
    (first
      | (go_at_call 15; refine (HCL.out _ HB2.out.drew).mono ?_; rintro e w3 ⟨p1, c1, rfl, k1, hb⟩; have H3 := hid (show Below w2.heap.size w2 w3 from (Below.refl _ w2).drew.trans hb); have HB3 := hid (HB2.out.trans (H3.out.mono HB2.out.size)); have K1 := hid k1.pt; have x1 := (fun t => And.intro t.1 t.2.1) (HCX.out _ H3.out); clear hb k1)
      | (go_at_call 15; refine (HCH.out _ HB3.out).mono ?_; rintro e w4 ⟨p2, c2, rfl, k2, hb⟩; have H4 := hid (H3.out.trans (hb.mono H3.out.size)); have HB4 := hid (HB2.out.trans (H4.out.mono HB2.out.size)); have K2 := hid k2.pt; have K3 := hid (K1.out.below hb); have x2 := (fun t => And.intro t.1 t.2.1) (HCX.out _ H4.out); have z8 := zero_cells (HCX.out _ H4.out).2.2; have x3 := away2 HNZ.out x2 (.slice p1 lo.length c1) (.slice p2 hi.length c2); clear hb k2)
      | fail)
  have HST := hid (store_out HB4.out HS0.out (HCX.out _ H4.out).2.2 K3.out K2.out (.slice p1 lo.length c1) (.slice p2 hi.length c2) (by simp))
  go_wp2_with fail
  have z9 := HST.out.2.2.2
  refine bodyPost_ret (v := .tuple #[.agg #[Value.slice p1 lo.length c1, .slice p2 hi.length c2], .int .i64 0]) (by simp [results, Try.results8, go_sem, z9]) rfl ?_
  exact ⟨p1, c1, p2, c2, rfl, HST.out.1, HST.out.2.1, HST.out.2.2.1⟩
set_option maxRecDepth 100000 in
set_option maxHeartbeats 4000000 in
theorem pbox_6 (r : Rq) (d : Int) (w : World) (h : r.At w) (hm : r.may d true false = true) (hw : r.what = 6) : Calls Try.prog 8 #[.agg r.cells, .int .i64 d] w (NewBox w (r.bLo d) (r.bHi d) (.int .i64 (err (r.bok d)))) := by
  have hok : r.bok d = true := by simp [Rq.bok, hm, hw]
  have HO := hid (show r.bok d = true ∧ r.bLo d = r.lo ∧ r.bHi d = r.hi from ⟨hok, by simp [Rq.bLo, hok, hw], by simp [Rq.bHi, hok, hw]⟩)
  clear hok
  have HC := hid fun (V : World) (hV : Below w.heap.size w V) => check_any r d true false V (h.below hV)
  rw [hm, err_true true rfl] at HC
  have HA := hid fun (V : World) (hV : Below w.heap.size w V) => h.below hV
  clear h hm
  generalize Rq.bLo r d = l1 at *
  generalize Rq.bHi r d = l2 at *
  generalize Rq.bok r d = bb at *
  obtain ⟨what, kp, kl, kc, data, lp, lo, lc, hp, hi, hc, ap, at_, ac, most, rp, rs, rc⟩ := r
  dsimp only at hw
  dsimp only [Rq.cells] at HC ⊢
  subst hw
  dsimp only at HO
  rw [HO.out.1, HO.out.2.1, HO.out.2.2, err_true true rfl]
  clear HO
  have HB0 := hid (below_alloc w (.cells #[.int .i64 6, .slice kp kl.length kc, .string data, .slice lp lo.length lc, .slice hp hi.length hc, .slice ap at_.length ac, .int .i64 most, .slice rp rs.length rc] 37))
  have HX := hid (heap_alloc_new w (.cells #[.int .i64 6, .slice kp kl.length kc, .string data, .slice lp lo.length lc, .slice hp hi.length hc, .slice ap at_.length ac, .int .i64 most, .slice rp rs.length rc] 37))
  have HL := hid (Array.getElem?_eq_some_iff.1 HX.out).1
  obtain ⟨V0, hV0⟩ : ∃ V0, w.alloc (.cells #[.int .i64 6, .slice kp kl.length kc, .string data, .slice lp lo.length lc, .slice hp hi.length hc, .slice ap at_.length ac, .int .i64 most, .slice rp rs.length rc] 37) = V0 := ⟨_, rfl⟩
  rw [hV0] at HB0 HX HL
  obtain ⟨V1, hV1⟩ : ∃ V1, V0.alloc (.cells #[Value.slice none 0 0, .slice none 0 0] 25) = V1 := ⟨_, rfl⟩
  have HBZ := hid (show Below w.heap.size w V1 by rw [← hV1]; exact HB0.out.alloc HB0.out.size _)
  have HXZ := hid (show V1.heap[w.heap.size]? = some (.cells #[.int .i64 6, .slice kp kl.length kc, .string data, .slice lp lo.length lc, .slice hp hi.length hc, .slice ap at_.length ac, .int .i64 most, .slice rp rs.length rc] 37 (0, 0)) by rw [← hV1]; exact (Below.heap_alloc _ _ _ HL.out).trans HX.out)
  have HZZ := hid (show V1.heap[V0.heap.size]? = some (.cells #[Value.slice none 0 0, .slice none 0 0] 25 (0, 0)) by rw [← hV1]; exact heap_alloc_new _ _)
  have HS0 := hid HB0.out.size
  have hx := HXZ.out
  have y0 : V1.cell? ⟨w.heap.size, 0, none⟩ = some (.int .i64 6) := by rw [cell_of_row _ _ _ _ _ _ hx]; rfl
  have y1 : V1.cell? ⟨w.heap.size, 1, none⟩ = some (.slice kp kl.length kc) := by rw [cell_of_row _ _ _ _ _ _ hx]; rfl
  have y2 : V1.cell? ⟨w.heap.size, 2, none⟩ = some (.string data) := by rw [cell_of_row _ _ _ _ _ _ hx]; rfl
  have y3 : V1.cell? ⟨w.heap.size, 3, none⟩ = some (.slice lp lo.length lc) := by rw [cell_of_row _ _ _ _ _ _ hx]; rfl
  have y4 : V1.cell? ⟨w.heap.size, 4, none⟩ = some (.slice hp hi.length hc) := by rw [cell_of_row _ _ _ _ _ _ hx]; rfl
  have y5 : V1.cell? ⟨w.heap.size, 5, none⟩ = some (.slice ap at_.length ac) := by rw [cell_of_row _ _ _ _ _ _ hx]; rfl
  have y6 : V1.cell? ⟨w.heap.size, 6, none⟩ = some (.int .i64 most) := by rw [cell_of_row _ _ _ _ _ _ hx]; rfl
  have y7 : V1.cell? ⟨w.heap.size, 7, none⟩ = some (.slice rp rs.length rc) := by rw [cell_of_row _ _ _ _ _ _ hx]; rfl
  clear hx

  go_enter Try.func8, Try.ntmps8
  go_wp2_with fail
  clear hV0 hV1
  refine (HC.out _ HBZ.out).mono ?_
  rintro e w2 ⟨rfl, hb⟩
  have HB2 := hid (HBZ.out.trans (hb.mono HBZ.out.size))
  have hx2 := (hb.block _ (Array.getElem?_eq_some_iff.1 HXZ.out).1).trans HXZ.out
  have hz2 := (hb.block _ (Array.getElem?_eq_some_iff.1 HZZ.out).1).trans HZZ.out
  have z0 : w2.cell? ⟨w.heap.size, 0, none⟩ = some (.int .i64 6) := by rw [cell_of_row _ _ _ _ _ _ hx2]; rfl
  have z1 : w2.cell? ⟨w.heap.size, 1, none⟩ = some (.slice kp kl.length kc) := by rw [cell_of_row _ _ _ _ _ _ hx2]; rfl
  have z2 : w2.cell? ⟨w.heap.size, 2, none⟩ = some (.string data) := by rw [cell_of_row _ _ _ _ _ _ hx2]; rfl
  have z3 : w2.cell? ⟨w.heap.size, 3, none⟩ = some (.slice lp lo.length lc) := by rw [cell_of_row _ _ _ _ _ _ hx2]; rfl
  have z4 : w2.cell? ⟨w.heap.size, 4, none⟩ = some (.slice hp hi.length hc) := by rw [cell_of_row _ _ _ _ _ _ hx2]; rfl
  have z5 : w2.cell? ⟨w.heap.size, 5, none⟩ = some (.slice ap at_.length ac) := by rw [cell_of_row _ _ _ _ _ _ hx2]; rfl
  have z6 : w2.cell? ⟨w.heap.size, 6, none⟩ = some (.int .i64 most) := by rw [cell_of_row _ _ _ _ _ _ hx2]; rfl
  have z7 : w2.cell? ⟨w.heap.size, 7, none⟩ = some (.slice rp rs.length rc) := by rw [cell_of_row _ _ _ _ _ _ hx2]; rfl
  have HZ2 := hid hz2
  have HL2 := hid (Array.getElem?_eq_some_iff.1 hx2).1
  have z8 := zero_cells hz2
  clear hb hz2 hx2 y0 y1 y2 y3 y4 y5 y6 y7
  have HNZ := hid (show w.heap.size ≠ V0.heap.size by have := HL.out; omega)
  have HCL := hid fun (V : World) (hV : Below w.heap.size w V) => clone_ok lo lp lc V (HA.out V hV).l (HA.out V hV).nl
  have HCH := hid fun (V : World) (hV : Below w.heap.size w V) => clone_ok hi hp hc V (HA.out V hV).h (HA.out V hV).nh
  have HCX := hid fun (V : World) (hV : Below w2.heap.size w2 V) => (show V.cell? ⟨w.heap.size, 3, none⟩ = some (.slice lp lo.length lc) ∧ V.cell? ⟨w.heap.size, 4, none⟩ = some (.slice hp hi.length hc) ∧ V.heap[V0.heap.size]? = some (.cells #[Value.slice none 0 0, .slice none 0 0] 25 (0, 0)) from ⟨(hV.cell (p := ⟨w.heap.size, 3, none⟩) HL2.out).trans z3, (hV.cell (p := ⟨w.heap.size, 4, none⟩) HL2.out).trans z4, (hV.block _ (Array.getElem?_eq_some_iff.1 HZ2.out).1).trans HZ2.out⟩)
  have x0 := (fun t => And.intro t.1 t.2.1) (HCX.out _ (Below.refl _ _))
  clear z1 z2 z3 z4 z5 z6 z7 z8
  go_wp2_with fail
  go_region_held3 (fun w' => w'.cell? ⟨w.heap.size, 3, none⟩ = some (.slice lp lo.length lc) ∧ w'.cell? ⟨w.heap.size, 4, none⟩ = some (.slice hp hi.length hc)) (first | exact x0 | exact x1 | exact x2 | exact x3 | go_keep)
    (first
      | (go_at_call 15; refine (HCL.out _ HB2.out.drew).mono ?_; rintro e w3 ⟨p1, c1, rfl, k1, hb⟩; have H3 := hid (show Below w2.heap.size w2 w3 from (Below.refl _ w2).drew.trans hb); have HB3 := hid (HB2.out.trans (H3.out.mono HB2.out.size)); have K1 := hid k1.pt; have x1 := (fun t => And.intro t.1 t.2.1) (HCX.out _ H3.out); clear hb k1)
      | (go_at_call 15; refine (HCH.out _ HB3.out).mono ?_; rintro e w4 ⟨p2, c2, rfl, k2, hb⟩; have H4 := hid (H3.out.trans (hb.mono H3.out.size)); have HB4 := hid (HB2.out.trans (H4.out.mono HB2.out.size)); have K2 := hid k2.pt; have K3 := hid (K1.out.below hb); have x2 := (fun t => And.intro t.1 t.2.1) (HCX.out _ H4.out); have z8 := zero_cells (HCX.out _ H4.out).2.2; have x3 := away2 HNZ.out x2 (.slice p1 lo.length c1) (.slice p2 hi.length c2); clear hb k2)
      | fail)
  have HST := hid (store_out HB4.out HS0.out (HCX.out _ H4.out).2.2 K3.out K2.out (.slice p1 lo.length c1) (.slice p2 hi.length c2) (by simp))
  go_wp2_with fail
  have z9 := HST.out.2.2.2
  refine bodyPost_ret (v := .tuple #[.agg #[Value.slice p1 lo.length c1, .slice p2 hi.length c2], .int .i64 0]) (by simp [results, Try.results8, go_sem, z9]) rfl ?_
  exact ⟨p1, c1, p2, c2, rfl, HST.out.1, HST.out.2.1, HST.out.2.2.1⟩
/-- whatever is asked -/
theorem pbox_any (r : Rq) (d : Int) (w : World) (h : r.At w) : Calls Try.prog 8 #[.agg r.cells, .int .i64 d] w (NewBox w (r.bLo d) (r.bHi d) (.int .i64 (err (r.bok d)))) := by
  cases hm : r.may d true false with
  | false => exact pbox_no r d w h hm
  | true =>
    by_cases h4 : r.what = 4
    · exact pbox_4 r d w h hm h4
    · by_cases h5 : r.what = 5
      · exact pbox_part r d w h hm h5
      · by_cases h6 : r.what = 6
        · exact pbox_6 r d w h hm h6
        · exact pbox_other r d w h hm (by omega)
set_option maxRecDepth 100000 in
set_option maxHeartbeats 4000000 in
theorem rbox_no (r : Rq) (d : Int) (w : World) (h : r.At w) (hm : r.may d true false = false) : Calls Try.prog 10 #[.agg r.cells, .int .i64 d] w (NewBox w (r.bLo d) (r.bHi d) (.int .i64 (err (r.bok d)))) := by
  have HN := hid fun (V : World) (hV : Below w.heap.size w V) => nobox (w := w) (w' := V) (r := r) (d := d) (by simp [Rq.bok, hm]) hV
  have HC := hid fun (V : World) (hV : Below w.heap.size w V) => rcheck_any r d true false V (h.below hV)
  rw [hm, err_false false rfl] at HC
  clear h hm
  generalize Rq.bLo r d = l1 at *
  generalize Rq.bHi r d = l2 at *
  generalize Rq.bok r d = bb at *
  obtain ⟨what, kp, kl, kc, data, lp, lo, lc, hp, hi, hc, ap, at_, ac, most, rp, rs, rc⟩ := r
  dsimp only [Rq.cells] at HC ⊢
  have HB0 := hid (below_alloc w (.cells #[.int .i64 what, .slice kp kl.length kc, .string data, .slice lp lo.length lc, .slice hp hi.length hc, .slice ap at_.length ac, .int .i64 most, .slice rp rs.length rc] 29))
  have HX := hid (heap_alloc_new w (.cells #[.int .i64 what, .slice kp kl.length kc, .string data, .slice lp lo.length lc, .slice hp hi.length hc, .slice ap at_.length ac, .int .i64 most, .slice rp rs.length rc] 29))
  have HL := hid (Array.getElem?_eq_some_iff.1 HX.out).1
  obtain ⟨V0, hV0⟩ : ∃ V0, w.alloc (.cells #[.int .i64 what, .slice kp kl.length kc, .string data, .slice lp lo.length lc, .slice hp hi.length hc, .slice ap at_.length ac, .int .i64 most, .slice rp rs.length rc] 29) = V0 := ⟨_, rfl⟩
  rw [hV0] at HB0 HX HL
  obtain ⟨V1, hV1⟩ : ∃ V1, V0.alloc (.cells #[Value.slice none 0 0, .slice none 0 0] 25) = V1 := ⟨_, rfl⟩
  have HBZ := hid (show Below w.heap.size w V1 by rw [← hV1]; exact HB0.out.alloc HB0.out.size _)
  have HXZ := hid (show V1.heap[w.heap.size]? = some (.cells #[.int .i64 what, .slice kp kl.length kc, .string data, .slice lp lo.length lc, .slice hp hi.length hc, .slice ap at_.length ac, .int .i64 most, .slice rp rs.length rc] 29 (0, 0)) by rw [← hV1]; exact (Below.heap_alloc _ _ _ HL.out).trans HX.out)
  have HZZ := hid (show V1.heap[V0.heap.size]? = some (.cells #[Value.slice none 0 0, .slice none 0 0] 25 (0, 0)) by rw [← hV1]; exact heap_alloc_new _ _)
  have HS0 := hid HB0.out.size
  have hx := HXZ.out
  have y0 : V1.cell? ⟨w.heap.size, 0, none⟩ = some (.int .i64 what) := by rw [cell_of_row _ _ _ _ _ _ hx]; rfl
  have y1 : V1.cell? ⟨w.heap.size, 1, none⟩ = some (.slice kp kl.length kc) := by rw [cell_of_row _ _ _ _ _ _ hx]; rfl
  have y2 : V1.cell? ⟨w.heap.size, 2, none⟩ = some (.string data) := by rw [cell_of_row _ _ _ _ _ _ hx]; rfl
  have y3 : V1.cell? ⟨w.heap.size, 3, none⟩ = some (.slice lp lo.length lc) := by rw [cell_of_row _ _ _ _ _ _ hx]; rfl
  have y4 : V1.cell? ⟨w.heap.size, 4, none⟩ = some (.slice hp hi.length hc) := by rw [cell_of_row _ _ _ _ _ _ hx]; rfl
  have y5 : V1.cell? ⟨w.heap.size, 5, none⟩ = some (.slice ap at_.length ac) := by rw [cell_of_row _ _ _ _ _ _ hx]; rfl
  have y6 : V1.cell? ⟨w.heap.size, 6, none⟩ = some (.int .i64 most) := by rw [cell_of_row _ _ _ _ _ _ hx]; rfl
  have y7 : V1.cell? ⟨w.heap.size, 7, none⟩ = some (.slice rp rs.length rc) := by rw [cell_of_row _ _ _ _ _ _ hx]; rfl
  clear hx

  go_enter Try.func10, Try.ntmps10
  go_wp2_with fail
  clear hV0 hV1
  refine (HC.out _ HBZ.out).mono ?_
  rintro e w2 ⟨rfl, hb⟩
  have HB2 := hid (HBZ.out.trans (hb.mono HBZ.out.size))
  have hz2 := (hb.block _ (Array.getElem?_eq_some_iff.1 HZZ.out).1).trans HZZ.out
  have HST := hid (store_no HB2.out HS0.out hz2)
  have z8 := zero_cells hz2
  clear hb hz2
  go_wp2_with fail
  have z9 := HST.out.2
  refine bodyPost_ret (v := .tuple #[.agg #[Value.slice none 0 0, .slice none 0 0], .int .i64 1]) (by simp [results, Try.results10, go_sem, z9]) rfl ?_
  exact HN.out _ HST.out.1
set_option maxRecDepth 100000 in
set_option maxHeartbeats 4000000 in
theorem rbox_other (r : Rq) (d : Int) (w : World) (h : r.At w) (hm : r.may d true false = true) (hw : r.what < 4 ∨ 6 < r.what) : Calls Try.prog 10 #[.agg r.cells, .int .i64 d] w (NewBox w (r.bLo d) (r.bHi d) (.int .i64 (err (r.bok d)))) := by
  have HN := hid fun (V : World) (hV : Below w.heap.size w V) => nobox (w := w) (w' := V) (r := r) (d := d) (by simp [Rq.bok]; omega) hV
  have HC := hid fun (V : World) (hV : Below w.heap.size w V) => rcheck_any r d true false V (h.below hV)
  rw [hm, err_true true rfl] at HC
  have HA := hid fun (V : World) (hV : Below w.heap.size w V) => h.below hV
  clear h hm
  generalize Rq.bLo r d = l1 at *
  generalize Rq.bHi r d = l2 at *
  generalize Rq.bok r d = bb at *
  obtain ⟨what, kp, kl, kc, data, lp, lo, lc, hp, hi, hc, ap, at_, ac, most, rp, rs, rc⟩ := r
  dsimp only at hw
  dsimp only [Rq.cells] at HC ⊢
  by_cases h4 : what < 4
  · have g0 : decide (what < 4) = true := decide_eq_true h4
    clear hw h4
    have HB0 := hid (below_alloc w (.cells #[.int .i64 what, .slice kp kl.length kc, .string data, .slice lp lo.length lc, .slice hp hi.length hc, .slice ap at_.length ac, .int .i64 most, .slice rp rs.length rc] 29))
    have HX := hid (heap_alloc_new w (.cells #[.int .i64 what, .slice kp kl.length kc, .string data, .slice lp lo.length lc, .slice hp hi.length hc, .slice ap at_.length ac, .int .i64 most, .slice rp rs.length rc] 29))
    have HL := hid (Array.getElem?_eq_some_iff.1 HX.out).1
    obtain ⟨V0, hV0⟩ : ∃ V0, w.alloc (.cells #[.int .i64 what, .slice kp kl.length kc, .string data, .slice lp lo.length lc, .slice hp hi.length hc, .slice ap at_.length ac, .int .i64 most, .slice rp rs.length rc] 29) = V0 := ⟨_, rfl⟩
    rw [hV0] at HB0 HX HL
    obtain ⟨V1, hV1⟩ : ∃ V1, V0.alloc (.cells #[Value.slice none 0 0, .slice none 0 0] 25) = V1 := ⟨_, rfl⟩
    have HBZ := hid (show Below w.heap.size w V1 by rw [← hV1]; exact HB0.out.alloc HB0.out.size _)
    have HXZ := hid (show V1.heap[w.heap.size]? = some (.cells #[.int .i64 what, .slice kp kl.length kc, .string data, .slice lp lo.length lc, .slice hp hi.length hc, .slice ap at_.length ac, .int .i64 most, .slice rp rs.length rc] 29 (0, 0)) by rw [← hV1]; exact (Below.heap_alloc _ _ _ HL.out).trans HX.out)
    have HZZ := hid (show V1.heap[V0.heap.size]? = some (.cells #[Value.slice none 0 0, .slice none 0 0] 25 (0, 0)) by rw [← hV1]; exact heap_alloc_new _ _)
    have HS0 := hid HB0.out.size
    have hx := HXZ.out
    have y0 : V1.cell? ⟨w.heap.size, 0, none⟩ = some (.int .i64 what) := by rw [cell_of_row _ _ _ _ _ _ hx]; rfl
    have y1 : V1.cell? ⟨w.heap.size, 1, none⟩ = some (.slice kp kl.length kc) := by rw [cell_of_row _ _ _ _ _ _ hx]; rfl
    have y2 : V1.cell? ⟨w.heap.size, 2, none⟩ = some (.string data) := by rw [cell_of_row _ _ _ _ _ _ hx]; rfl
    have y3 : V1.cell? ⟨w.heap.size, 3, none⟩ = some (.slice lp lo.length lc) := by rw [cell_of_row _ _ _ _ _ _ hx]; rfl
    have y4 : V1.cell? ⟨w.heap.size, 4, none⟩ = some (.slice hp hi.length hc) := by rw [cell_of_row _ _ _ _ _ _ hx]; rfl
    have y5 : V1.cell? ⟨w.heap.size, 5, none⟩ = some (.slice ap at_.length ac) := by rw [cell_of_row _ _ _ _ _ _ hx]; rfl
    have y6 : V1.cell? ⟨w.heap.size, 6, none⟩ = some (.int .i64 most) := by rw [cell_of_row _ _ _ _ _ _ hx]; rfl
    have y7 : V1.cell? ⟨w.heap.size, 7, none⟩ = some (.slice rp rs.length rc) := by rw [cell_of_row _ _ _ _ _ _ hx]; rfl
    clear hx
  
    go_enter Try.func10, Try.ntmps10
    go_wp2_with fail
    clear hV0 hV1
    refine (HC.out _ HBZ.out).mono ?_
    rintro e w2 ⟨rfl, hb⟩
    have HB2 := hid (HBZ.out.trans (hb.mono HBZ.out.size))
    have hx2 := (hb.block _ (Array.getElem?_eq_some_iff.1 HXZ.out).1).trans HXZ.out
    have hz2 := (hb.block _ (Array.getElem?_eq_some_iff.1 HZZ.out).1).trans HZZ.out
    have z0 : w2.cell? ⟨w.heap.size, 0, none⟩ = some (.int .i64 what) := by rw [cell_of_row _ _ _ _ _ _ hx2]; rfl
    have z1 : w2.cell? ⟨w.heap.size, 1, none⟩ = some (.slice kp kl.length kc) := by rw [cell_of_row _ _ _ _ _ _ hx2]; rfl
    have z2 : w2.cell? ⟨w.heap.size, 2, none⟩ = some (.string data) := by rw [cell_of_row _ _ _ _ _ _ hx2]; rfl
    have z3 : w2.cell? ⟨w.heap.size, 3, none⟩ = some (.slice lp lo.length lc) := by rw [cell_of_row _ _ _ _ _ _ hx2]; rfl
    have z4 : w2.cell? ⟨w.heap.size, 4, none⟩ = some (.slice hp hi.length hc) := by rw [cell_of_row _ _ _ _ _ _ hx2]; rfl
    have z5 : w2.cell? ⟨w.heap.size, 5, none⟩ = some (.slice ap at_.length ac) := by rw [cell_of_row _ _ _ _ _ _ hx2]; rfl
    have z6 : w2.cell? ⟨w.heap.size, 6, none⟩ = some (.int .i64 most) := by rw [cell_of_row _ _ _ _ _ _ hx2]; rfl
    have z7 : w2.cell? ⟨w.heap.size, 7, none⟩ = some (.slice rp rs.length rc) := by rw [cell_of_row _ _ _ _ _ _ hx2]; rfl
    have HZ2 := hid hz2
    have HL2 := hid (Array.getElem?_eq_some_iff.1 hx2).1
    have z8 := zero_cells hz2
    clear hb hz2 hx2 y0 y1 y2 y3 y4 y5 y6 y7
    have HST := hid (store_no HB2.out HS0.out HZ2.out)
    go_wp2_with fail
    have z9 := HST.out.2
    refine bodyPost_ret (v := .tuple #[.agg #[Value.slice none 0 0, .slice none 0 0], .int .i64 1]) (by simp [results, Try.results10, go_sem, z9]) rfl ?_
    exact HN.out _ HST.out.1
  · have g0 : decide (what < 4) = false := decide_eq_false h4
    have g1 : decide (6 < what) = true := decide_eq_true (by omega)
    clear hw h4
    have HB0 := hid (below_alloc w (.cells #[.int .i64 what, .slice kp kl.length kc, .string data, .slice lp lo.length lc, .slice hp hi.length hc, .slice ap at_.length ac, .int .i64 most, .slice rp rs.length rc] 29))
    have HX := hid (heap_alloc_new w (.cells #[.int .i64 what, .slice kp kl.length kc, .string data, .slice lp lo.length lc, .slice hp hi.length hc, .slice ap at_.length ac, .int .i64 most, .slice rp rs.length rc] 29))
    have HL := hid (Array.getElem?_eq_some_iff.1 HX.out).1
    obtain ⟨V0, hV0⟩ : ∃ V0, w.alloc (.cells #[.int .i64 what, .slice kp kl.length kc, .string data, .slice lp lo.length lc, .slice hp hi.length hc, .slice ap at_.length ac, .int .i64 most, .slice rp rs.length rc] 29) = V0 := ⟨_, rfl⟩
    rw [hV0] at HB0 HX HL
    obtain ⟨V1, hV1⟩ : ∃ V1, V0.alloc (.cells #[Value.slice none 0 0, .slice none 0 0] 25) = V1 := ⟨_, rfl⟩
    have HBZ := hid (show Below w.heap.size w V1 by rw [← hV1]; exact HB0.out.alloc HB0.out.size _)
    have HXZ := hid (show V1.heap[w.heap.size]? = some (.cells #[.int .i64 what, .slice kp kl.length kc, .string data, .slice lp lo.length lc, .slice hp hi.length hc, .slice ap at_.length ac, .int .i64 most, .slice rp rs.length rc] 29 (0, 0)) by rw [← hV1]; exact (Below.heap_alloc _ _ _ HL.out).trans HX.out)
    have HZZ := hid (show V1.heap[V0.heap.size]? = some (.cells #[Value.slice none 0 0, .slice none 0 0] 25 (0, 0)) by rw [← hV1]; exact heap_alloc_new _ _)
    have HS0 := hid HB0.out.size
    have hx := HXZ.out
    have y0 : V1.cell? ⟨w.heap.size, 0, none⟩ = some (.int .i64 what) := by rw [cell_of_row _ _ _ _ _ _ hx]; rfl
    have y1 : V1.cell? ⟨w.heap.size, 1, none⟩ = some (.slice kp kl.length kc) := by rw [cell_of_row _ _ _ _ _ _ hx]; rfl
    have y2 : V1.cell? ⟨w.heap.size, 2, none⟩ = some (.string data) := by rw [cell_of_row _ _ _ _ _ _ hx]; rfl
    have y3 : V1.cell? ⟨w.heap.size, 3, none⟩ = some (.slice lp lo.length lc) := by rw [cell_of_row _ _ _ _ _ _ hx]; rfl
    have y4 : V1.cell? ⟨w.heap.size, 4, none⟩ = some (.slice hp hi.length hc) := by rw [cell_of_row _ _ _ _ _ _ hx]; rfl
    have y5 : V1.cell? ⟨w.heap.size, 5, none⟩ = some (.slice ap at_.length ac) := by rw [cell_of_row _ _ _ _ _ _ hx]; rfl
    have y6 : V1.cell? ⟨w.heap.size, 6, none⟩ = some (.int .i64 most) := by rw [cell_of_row _ _ _ _ _ _ hx]; rfl
    have y7 : V1.cell? ⟨w.heap.size, 7, none⟩ = some (.slice rp rs.length rc) := by rw [cell_of_row _ _ _ _ _ _ hx]; rfl
    clear hx
  
    go_enter Try.func10, Try.ntmps10
    go_wp2_with fail
    clear hV0 hV1
    refine (HC.out _ HBZ.out).mono ?_
    rintro e w2 ⟨rfl, hb⟩
    have HB2 := hid (HBZ.out.trans (hb.mono HBZ.out.size))
    have hx2 := (hb.block _ (Array.getElem?_eq_some_iff.1 HXZ.out).1).trans HXZ.out
    have hz2 := (hb.block _ (Array.getElem?_eq_some_iff.1 HZZ.out).1).trans HZZ.out
    have z0 : w2.cell? ⟨w.heap.size, 0, none⟩ = some (.int .i64 what) := by rw [cell_of_row _ _ _ _ _ _ hx2]; rfl
    have z1 : w2.cell? ⟨w.heap.size, 1, none⟩ = some (.slice kp kl.length kc) := by rw [cell_of_row _ _ _ _ _ _ hx2]; rfl
    have z2 : w2.cell? ⟨w.heap.size, 2, none⟩ = some (.string data) := by rw [cell_of_row _ _ _ _ _ _ hx2]; rfl
    have z3 : w2.cell? ⟨w.heap.size, 3, none⟩ = some (.slice lp lo.length lc) := by rw [cell_of_row _ _ _ _ _ _ hx2]; rfl
    have z4 : w2.cell? ⟨w.heap.size, 4, none⟩ = some (.slice hp hi.length hc) := by rw [cell_of_row _ _ _ _ _ _ hx2]; rfl
    have z5 : w2.cell? ⟨w.heap.size, 5, none⟩ = some (.slice ap at_.length ac) := by rw [cell_of_row _ _ _ _ _ _ hx2]; rfl
    have z6 : w2.cell? ⟨w.heap.size, 6, none⟩ = some (.int .i64 most) := by rw [cell_of_row _ _ _ _ _ _ hx2]; rfl
    have z7 : w2.cell? ⟨w.heap.size, 7, none⟩ = some (.slice rp rs.length rc) := by rw [cell_of_row _ _ _ _ _ _ hx2]; rfl
    have HZ2 := hid hz2
    have HL2 := hid (Array.getElem?_eq_some_iff.1 hx2).1
    have z8 := zero_cells hz2
    clear hb hz2 hx2 y0 y1 y2 y3 y4 y5 y6 y7
    have HST := hid (store_no HB2.out HS0.out HZ2.out)
    go_wp2_with fail
    have z9 := HST.out.2
    refine bodyPost_ret (v := .tuple #[.agg #[Value.slice none 0 0, .slice none 0 0], .int .i64 1]) (by simp [results, Try.results10, go_sem, z9]) rfl ?_
    exact HN.out _ HST.out.1
set_option maxRecDepth 100000 in
set_option maxHeartbeats 4000000 in
theorem rbox_part (r : Rq) (d : Int) (w : World) (h : r.At w) (hm : r.may d true false = true) (hw : r.what = 5) : Calls Try.prog 10 #[.agg r.cells, .int .i64 d] w (NewBox w (r.bLo d) (r.bHi d) (.int .i64 (err (r.bok d)))) := by
  have hok : r.bok d = true := by simp [Rq.bok, hm, hw]
  have hpo : partOk d r.at_ r.kl = true := by
    have := hm
    unfold Rq.may Rq.must at this
    rw [if_neg (by omega), if_neg (by omega), if_neg (by omega), if_pos hw] at this
    simp at this; exact this.2
  have HO := hid (show r.bok d = true ∧ r.bLo d = partLo d r.at_ r.kl ∧ r.bHi d = partHi d r.at_ r.kl ∧ partOk d r.at_ r.kl = true from ⟨hok, by simp [Rq.bLo, hok, hw], by simp [Rq.bHi, hok, hw], hpo⟩)
  clear hok hpo
  have HC := hid fun (V : World) (hV : Below w.heap.size w V) => rcheck_any r d true false V (h.below hV)
  rw [hm, err_true true rfl] at HC
  have HA := hid fun (V : World) (hV : Below w.heap.size w V) => h.below hV
  clear h hm
  generalize Rq.bLo r d = l1 at *
  generalize Rq.bHi r d = l2 at *
  generalize Rq.bok r d = bb at *
  obtain ⟨what, kp, kl, kc, data, lp, lo, lc, hp, hi, hc, ap, at_, ac, most, rp, rs, rc⟩ := r
  dsimp only at hw
  dsimp only [Rq.cells] at HC ⊢
  subst hw
  dsimp only at HO
  have HP := hid fun (V : World) (hV : Below w.heap.size w V) => refPartial_ok d at_ kl ap kp ac kc V (HA.out V hV).a (HA.out V hV).k (HA.out V hV).na
  rw [HO.out.2.2.2, err_true true rfl] at HP
  rw [HO.out.1, HO.out.2.1, HO.out.2.2.1, err_true true rfl]
  clear HO
  generalize partLo d at_ kl = lo1 at *
  generalize partHi d at_ kl = hi1 at *
  have HB0 := hid (below_alloc w (.cells #[.int .i64 5, .slice kp kl.length kc, .string data, .slice lp lo.length lc, .slice hp hi.length hc, .slice ap at_.length ac, .int .i64 most, .slice rp rs.length rc] 29))
  have HX := hid (heap_alloc_new w (.cells #[.int .i64 5, .slice kp kl.length kc, .string data, .slice lp lo.length lc, .slice hp hi.length hc, .slice ap at_.length ac, .int .i64 most, .slice rp rs.length rc] 29))
  have HL := hid (Array.getElem?_eq_some_iff.1 HX.out).1
  obtain ⟨V0, hV0⟩ : ∃ V0, w.alloc (.cells #[.int .i64 5, .slice kp kl.length kc, .string data, .slice lp lo.length lc, .slice hp hi.length hc, .slice ap at_.length ac, .int .i64 most, .slice rp rs.length rc] 29) = V0 := ⟨_, rfl⟩
  rw [hV0] at HB0 HX HL
  obtain ⟨V1, hV1⟩ : ∃ V1, V0.alloc (.cells #[Value.slice none 0 0, .slice none 0 0] 25) = V1 := ⟨_, rfl⟩
  have HBZ := hid (show Below w.heap.size w V1 by rw [← hV1]; exact HB0.out.alloc HB0.out.size _)
  have HXZ := hid (show V1.heap[w.heap.size]? = some (.cells #[.int .i64 5, .slice kp kl.length kc, .string data, .slice lp lo.length lc, .slice hp hi.length hc, .slice ap at_.length ac, .int .i64 most, .slice rp rs.length rc] 29 (0, 0)) by rw [← hV1]; exact (Below.heap_alloc _ _ _ HL.out).trans HX.out)
  have HZZ := hid (show V1.heap[V0.heap.size]? = some (.cells #[Value.slice none 0 0, .slice none 0 0] 25 (0, 0)) by rw [← hV1]; exact heap_alloc_new _ _)
  have HS0 := hid HB0.out.size
  have hx := HXZ.out
  have y0 : V1.cell? ⟨w.heap.size, 0, none⟩ = some (.int .i64 5) := by rw [cell_of_row _ _ _ _ _ _ hx]; rfl
  have y1 : V1.cell? ⟨w.heap.size, 1, none⟩ = some (.slice kp kl.length kc) := by rw [cell_of_row _ _ _ _ _ _ hx]; rfl
  have y2 : V1.cell? ⟨w.heap.size, 2, none⟩ = some (.string data) := by rw [cell_of_row _ _ _ _ _ _ hx]; rfl
  have y3 : V1.cell? ⟨w.heap.size, 3, none⟩ = some (.slice lp lo.length lc) := by rw [cell_of_row _ _ _ _ _ _ hx]; rfl
  have y4 : V1.cell? ⟨w.heap.size, 4, none⟩ = some (.slice hp hi.length hc) := by rw [cell_of_row _ _ _ _ _ _ hx]; rfl
  have y5 : V1.cell? ⟨w.heap.size, 5, none⟩ = some (.slice ap at_.length ac) := by rw [cell_of_row _ _ _ _ _ _ hx]; rfl
  have y6 : V1.cell? ⟨w.heap.size, 6, none⟩ = some (.int .i64 most) := by rw [cell_of_row _ _ _ _ _ _ hx]; rfl
  have y7 : V1.cell? ⟨w.heap.size, 7, none⟩ = some (.slice rp rs.length rc) := by rw [cell_of_row _ _ _ _ _ _ hx]; rfl
  clear hx

  go_enter Try.func10, Try.ntmps10
  go_wp2_with fail
  clear hV0 hV1
  refine (HC.out _ HBZ.out).mono ?_
  rintro e w2 ⟨rfl, hb⟩
  have HB2 := hid (HBZ.out.trans (hb.mono HBZ.out.size))
  have hx2 := (hb.block _ (Array.getElem?_eq_some_iff.1 HXZ.out).1).trans HXZ.out
  have hz2 := (hb.block _ (Array.getElem?_eq_some_iff.1 HZZ.out).1).trans HZZ.out
  have z0 : w2.cell? ⟨w.heap.size, 0, none⟩ = some (.int .i64 5) := by rw [cell_of_row _ _ _ _ _ _ hx2]; rfl
  have z1 : w2.cell? ⟨w.heap.size, 1, none⟩ = some (.slice kp kl.length kc) := by rw [cell_of_row _ _ _ _ _ _ hx2]; rfl
  have z2 : w2.cell? ⟨w.heap.size, 2, none⟩ = some (.string data) := by rw [cell_of_row _ _ _ _ _ _ hx2]; rfl
  have z3 : w2.cell? ⟨w.heap.size, 3, none⟩ = some (.slice lp lo.length lc) := by rw [cell_of_row _ _ _ _ _ _ hx2]; rfl
  have z4 : w2.cell? ⟨w.heap.size, 4, none⟩ = some (.slice hp hi.length hc) := by rw [cell_of_row _ _ _ _ _ _ hx2]; rfl
  have z5 : w2.cell? ⟨w.heap.size, 5, none⟩ = some (.slice ap at_.length ac) := by rw [cell_of_row _ _ _ _ _ _ hx2]; rfl
  have z6 : w2.cell? ⟨w.heap.size, 6, none⟩ = some (.int .i64 most) := by rw [cell_of_row _ _ _ _ _ _ hx2]; rfl
  have z7 : w2.cell? ⟨w.heap.size, 7, none⟩ = some (.slice rp rs.length rc) := by rw [cell_of_row _ _ _ _ _ _ hx2]; rfl
  have HZ2 := hid hz2
  have HL2 := hid (Array.getElem?_eq_some_iff.1 hx2).1
  have z8 := zero_cells hz2
  clear hb hz2 hx2 y0 y1 y2 y3 y4 y5 y6 y7
  clear z8
  go_wp2_with fail
  refine (HP.out _ HB2.out).mono ?_
  rintro e w3 ⟨p1, c1, p2, c2, rfl, k1, k2, hb⟩
  have HB3 := hid (HB2.out.trans (hb.mono HB2.out.size))
  have hz3 := (hb.block _ (Array.getElem?_eq_some_iff.1 HZ2.out).1).trans HZ2.out
  have HST := hid (store_out HB3.out HS0.out hz3 k1 k2 (.slice p1 lo1.length c1) (.slice p2 hi1.length c2) (by simp))
  have z8 := zero_cells hz3
  clear hb hz3 k1 k2 z0 z1 z2 z3 z4 z5 z6 z7
  go_wp2_with fail
  have z9 := HST.out.2.2.2
  refine bodyPost_ret (v := .tuple #[.agg #[Value.slice p1 lo1.length c1, .slice p2 hi1.length c2], .int .i64 0]) (by simp [results, Try.results10, go_sem, z9]) rfl ?_
  exact ⟨p1, c1, p2, c2, rfl, HST.out.1, HST.out.2.1, HST.out.2.2.1⟩
set_option maxRecDepth 100000 in
set_option maxHeartbeats 4000000 in
theorem rbox_4 (r : Rq) (d : Int) (w : World) (h : r.At w) (hm : r.may d true false = true) (hw : r.what = 4) : Calls Try.prog 10 #[.agg r.cells, .int .i64 d] w (NewBox w (r.bLo d) (r.bHi d) (.int .i64 (err (r.bok d)))) := by
  have hok : r.bok d = true := by simp [Rq.bok, hm, hw]
  have HO := hid (show r.bok d = true ∧ r.bLo d = r.lo ∧ r.bHi d = r.hi from ⟨hok, by simp [Rq.bLo, hok, hw], by simp [Rq.bHi, hok, hw]⟩)
  clear hok
  have HC := hid fun (V : World) (hV : Below w.heap.size w V) => rcheck_any r d true false V (h.below hV)
  rw [hm, err_true true rfl] at HC
  have HA := hid fun (V : World) (hV : Below w.heap.size w V) => h.below hV
  clear h hm
  generalize Rq.bLo r d = l1 at *
  generalize Rq.bHi r d = l2 at *
  generalize Rq.bok r d = bb at *
  obtain ⟨what, kp, kl, kc, data, lp, lo, lc, hp, hi, hc, ap, at_, ac, most, rp, rs, rc⟩ := r
  dsimp only at hw
  dsimp only [Rq.cells] at HC ⊢
  subst hw
  dsimp only at HO
  rw [HO.out.1, HO.out.2.1, HO.out.2.2, err_true true rfl]
  clear HO
  have HB0 := hid (below_alloc w (.cells #[.int .i64 4, .slice kp kl.length kc, .string data, .slice lp lo.length lc, .slice hp hi.length hc, .slice ap at_.length ac, .int .i64 most, .slice rp rs.length rc] 29))
  have HX := hid (heap_alloc_new w (.cells #[.int .i64 4, .slice kp kl.length kc, .string data, .slice lp lo.length lc, .slice hp hi.length hc, .slice ap at_.length ac, .int .i64 most, .slice rp rs.length rc] 29))
  have HL := hid (Array.getElem?_eq_some_iff.1 HX.out).1
  obtain ⟨V0, hV0⟩ : ∃ V0, w.alloc (.cells #[.int .i64 4, .slice kp kl.length kc, .string data, .slice lp lo.length lc, .slice hp hi.length hc, .slice ap at_.length ac, .int .i64 most, .slice rp rs.length rc] 29) = V0 := ⟨_, rfl⟩
  rw [hV0] at HB0 HX HL
  obtain ⟨V1, hV1⟩ : ∃ V1, V0.alloc (.cells #[Value.slice none 0 0, .slice none 0 0] 25) = V1 := ⟨_, rfl⟩
  have HBZ := hid (show Below w.heap.size w V1 by rw [← hV1]; exact HB0.out.alloc HB0.out.size _)
  have HXZ := hid (show V1.heap[w.heap.size]? = some (.cells #[.int .i64 4, .slice kp kl.length kc, .string data, .slice lp lo.length lc, .slice hp hi.length hc, .slice ap at_.length ac, .int .i64 most, .slice rp rs.length rc] 29 (0, 0)) by rw [← hV1]; exact (Below.heap_alloc _ _ _ HL.out).trans HX.out)
  have HZZ := hid (show V1.heap[V0.heap.size]? = some (.cells #[Value.slice none 0 0, .slice none 0 0] 25 (0, 0)) by rw [← hV1]; exact heap_alloc_new _ _)
  have HS0 := hid HB0.out.size
  have hx := HXZ.out
  have y0 : V1.cell? ⟨w.heap.size, 0, none⟩ = some (.int .i64 4) := by rw [cell_of_row _ _ _ _ _ _ hx]; rfl
  have y1 : V1.cell? ⟨w.heap.size, 1, none⟩ = some (.slice kp kl.length kc) := by rw [cell_of_row _ _ _ _ _ _ hx]; rfl
  have y2 : V1.cell? ⟨w.heap.size, 2, none⟩ = some (.string data) := by rw [cell_of_row _ _ _ _ _ _ hx]; rfl
  have y3 : V1.cell? ⟨w.heap.size, 3, none⟩ = some (.slice lp lo.length lc) := by rw [cell_of_row _ _ _ _ _ _ hx]; rfl
  have y4 : V1.cell? ⟨w.heap.size, 4, none⟩ = some (.slice hp hi.length hc) := by rw [cell_of_row _ _ _ _ _ _ hx]; rfl
  have y5 : V1.cell? ⟨w.heap.size, 5, none⟩ = some (.slice ap at_.length ac) := by rw [cell_of_row _ _ _ _ _ _ hx]; rfl
  have y6 : V1.cell? ⟨w.heap.size, 6, none⟩ = some (.int .i64 most) := by rw [cell_of_row _ _ _ _ _ _ hx]; rfl
  have y7 : V1.cell? ⟨w.heap.size, 7, none⟩ = some (.slice rp rs.length rc) := by rw [cell_of_row _ _ _ _ _ _ hx]; rfl
  clear hx

  go_enter Try.func10, Try.ntmps10
  go_wp2_with fail
  clear hV0 hV1
  refine (HC.out _ HBZ.out).mono ?_
  rintro e w2 ⟨rfl, hb⟩
  have HB2 := hid (HBZ.out.trans (hb.mono HBZ.out.size))
  have hx2 := (hb.block _ (Array.getElem?_eq_some_iff.1 HXZ.out).1).trans HXZ.out
  have hz2 := (hb.block _ (Array.getElem?_eq_some_iff.1 HZZ.out).1).trans HZZ.out
  have z0 : w2.cell? ⟨w.heap.size, 0, none⟩ = some (.int .i64 4) := by rw [cell_of_row _ _ _ _ _ _ hx2]; rfl
  have z1 : w2.cell? ⟨w.heap.size, 1, none⟩ = some (.slice kp kl.length kc) := by rw [cell_of_row _ _ _ _ _ _ hx2]; rfl
  have z2 : w2.cell? ⟨w.heap.size, 2, none⟩ = some (.string data) := by rw [cell_of_row _ _ _ _ _ _ hx2]; rfl
  have z3 : w2.cell? ⟨w.heap.size, 3, none⟩ = some (.slice lp lo.length lc) := by rw [cell_of_row _ _ _ _ _ _ hx2]; rfl
  have z4 : w2.cell? ⟨w.heap.size, 4, none⟩ = some (.slice hp hi.length hc) := by rw [cell_of_row _ _ _ _ _ _ hx2]; rfl
  have z5 : w2.cell? ⟨w.heap.size, 5, none⟩ = some (.slice ap at_.length ac) := by rw [cell_of_row _ _ _ _ _ _ hx2]; rfl
  have z6 : w2.cell? ⟨w.heap.size, 6, none⟩ = some (.int .i64 most) := by rw [cell_of_row _ _ _ _ _ _ hx2]; rfl
  have z7 : w2.cell? ⟨w.heap.size, 7, none⟩ = some (.slice rp rs.length rc) := by rw [cell_of_row _ _ _ _ _ _ hx2]; rfl
  have HZ2 := hid hz2
  have HL2 := hid (Array.getElem?_eq_some_iff.1 hx2).1
  have z8 := zero_cells hz2
  clear hb hz2 hx2 y0 y1 y2 y3 y4 y5 y6 y7
  have HST := hid (store_out HB2.out HS0.out HZ2.out (HA.out _ HB2.out).l (HA.out _ HB2.out).h (.slice lp lo.length lc) (.slice hp hi.length hc) (by simp))
  go_wp2_with fail
  have z9 := HST.out.2.2.2
  refine bodyPost_ret (v := .tuple #[.agg #[Value.slice lp lo.length lc, .slice hp hi.length hc], .int .i64 0]) (by simp [results, Try.results10, go_sem, z9]) rfl ?_
  exact ⟨lp, lc, hp, hc, rfl, HST.out.1, HST.out.2.1, HST.out.2.2.1⟩
set_option maxRecDepth 100000 in
set_option maxHeartbeats 4000000 in
theorem rbox_6 (r : Rq) (d : Int) (w : World) (h : r.At w) (hm : r.may d true false = true) (hw : r.what = 6) : Calls Try.prog 10 #[.agg r.cells, .int .i64 d] w (NewBox w (r.bLo d) (r.bHi d) (.int .i64 (err (r.bok d)))) := by
  have hok : r.bok d = true := by simp [Rq.bok, hm, hw]
  have HO := hid (show r.bok d = true ∧ r.bLo d = r.lo ∧ r.bHi d = r.hi from ⟨hok, by simp [Rq.bLo, hok, hw], by simp [Rq.bHi, hok, hw]⟩)
  clear hok
  have HC := hid fun (V : World) (hV : Below w.heap.size w V) => rcheck_any r d true false V (h.below hV)
  rw [hm, err_true true rfl] at HC
  have HA := hid fun (V : World) (hV : Below w.heap.size w V) => h.below hV
  clear h hm
  generalize Rq.bLo r d = l1 at *
  generalize Rq.bHi r d = l2 at *
  generalize Rq.bok r d = bb at *
  obtain ⟨what, kp, kl, kc, data, lp, lo, lc, hp, hi, hc, ap, at_, ac, most, rp, rs, rc⟩ := r
  dsimp only at hw
  dsimp only [Rq.cells] at HC ⊢
  subst hw
  dsimp only at HO
  rw [HO.out.1, HO.out.2.1, HO.out.2.2, err_true true rfl]
  clear HO
  have HB0 := hid (below_alloc w (.cells #[.int .i64 6, .slice kp kl.length kc, .string data, .slice lp lo.length lc, .slice hp hi.length hc, .slice ap at_.length ac, .int .i64 most, .slice rp rs.length rc] 29))
  have HX := hid (heap_alloc_new w (.cells #[.int .i64 6, .slice kp kl.length kc, .string data, .slice lp lo.length lc, .slice hp hi.length hc, .slice ap at_.length ac, .int .i64 most, .slice rp rs.length rc] 29))
  have HL := hid (Array.getElem?_eq_some_iff.1 HX.out).1
  obtain ⟨V0, hV0⟩ : ∃ V0, w.alloc (.cells #[.int .i64 6, .slice kp kl.length kc, .string data, .slice lp lo.length lc, .slice hp hi.length hc, .slice ap at_.length ac, .int .i64 most, .slice rp rs.length rc] 29) = V0 := ⟨_, rfl⟩
  rw [hV0] at HB0 HX HL
  obtain ⟨V1, hV1⟩ : ∃ V1, V0.alloc (.cells #[Value.slice none 0 0, .slice none 0 0] 25) = V1 := ⟨_, rfl⟩
  have HBZ := hid (show Below w.heap.size w V1 by rw [← hV1]; exact HB0.out.alloc HB0.out.size _)
  have HXZ := hid (show V1.heap[w.heap.size]? = some (.cells #[.int .i64 6, .slice kp kl.length kc, .string data, .slice lp lo.length lc, .slice hp hi.length hc, .slice ap at_.length ac, .int .i64 most, .slice rp rs.length rc] 29 (0, 0)) by rw [← hV1]; exact (Below.heap_alloc _ _ _ HL.out).trans HX.out)
  have HZZ := hid (show V1.heap[V0.heap.size]? = some (.cells #[Value.slice none 0 0, .slice none 0 0] 25 (0, 0)) by rw [← hV1]; exact heap_alloc_new _ _)
  have HS0 := hid HB0.out.size
  have hx := HXZ.out
  have y0 : V1.cell? ⟨w.heap.size, 0, none⟩ = some (.int .i64 6) := by rw [cell_of_row _ _ _ _ _ _ hx]; rfl
  have y1 : V1.cell? ⟨w.heap.size, 1, none⟩ = some (.slice kp kl.length kc) := by rw [cell_of_row _ _ _ _ _ _ hx]; rfl
  have y2 : V1.cell? ⟨w.heap.size, 2, none⟩ = some (.string data) := by rw [cell_of_row _ _ _ _ _ _ hx]; rfl
  have y3 : V1.cell? ⟨w.heap.size, 3, none⟩ = some (.slice lp lo.length lc) := by rw [cell_of_row _ _ _ _ _ _ hx]; rfl
  have y4 : V1.cell? ⟨w.heap.size, 4, none⟩ = some (.slice hp hi.length hc) := by rw [cell_of_row _ _ _ _ _ _ hx]; rfl
  have y5 : V1.cell? ⟨w.heap.size, 5, none⟩ = some (.slice ap at_.length ac) := by rw [cell_of_row _ _ _ _ _ _ hx]; rfl
  have y6 : V1.cell? ⟨w.heap.size, 6, none⟩ = some (.int .i64 most) := by rw [cell_of_row _ _ _ _ _ _ hx]; rfl
  have y7 : V1.cell? ⟨w.heap.size, 7, none⟩ = some (.slice rp rs.length rc) := by rw [cell_of_row _ _ _ _ _ _ hx]; rfl
  clear hx

  go_enter Try.func10, Try.ntmps10
  go_wp2_with fail
  clear hV0 hV1
  refine (HC.out _ HBZ.out).mono ?_
  rintro e w2 ⟨rfl, hb⟩
  have HB2 := hid (HBZ.out.trans (hb.mono HBZ.out.size))
  have hx2 := (hb.block _ (Array.getElem?_eq_some_iff.1 HXZ.out).1).trans HXZ.out
  have hz2 := (hb.block _ (Array.getElem?_eq_some_iff.1 HZZ.out).1).trans HZZ.out
  have z0 : w2.cell? ⟨w.heap.size, 0, none⟩ = some (.int .i64 6) := by rw [cell_of_row _ _ _ _ _ _ hx2]; rfl
  have z1 : w2.cell? ⟨w.heap.size, 1, none⟩ = some (.slice kp kl.length kc) := by rw [cell_of_row _ _ _ _ _ _ hx2]; rfl
  have z2 : w2.cell? ⟨w.heap.size, 2, none⟩ = some (.string data) := by rw [cell_of_row _ _ _ _ _ _ hx2]; rfl
  have z3 : w2.cell? ⟨w.heap.size, 3, none⟩ = some (.slice lp lo.length lc) := by rw [cell_of_row _ _ _ _ _ _ hx2]; rfl
  have z4 : w2.cell? ⟨w.heap.size, 4, none⟩ = some (.slice hp hi.length hc) := by rw [cell_of_row _ _ _ _ _ _ hx2]; rfl
  have z5 : w2.cell? ⟨w.heap.size, 5, none⟩ = some (.slice ap at_.length ac) := by rw [cell_of_row _ _ _ _ _ _ hx2]; rfl
  have z6 : w2.cell? ⟨w.heap.size, 6, none⟩ = some (.int .i64 most) := by rw [cell_of_row _ _ _ _ _ _ hx2]; rfl
  have z7 : w2.cell? ⟨w.heap.size, 7, none⟩ = some (.slice rp rs.length rc) := by rw [cell_of_row _ _ _ _ _ _ hx2]; rfl
  have HZ2 := hid hz2
  have HL2 := hid (Array.getElem?_eq_some_iff.1 hx2).1
  have z8 := zero_cells hz2
  clear hb hz2 hx2 y0 y1 y2 y3 y4 y5 y6 y7
  have HST := hid (store_out HB2.out HS0.out HZ2.out (HA.out _ HB2.out).l (HA.out _ HB2.out).h (.slice lp lo.length lc) (.slice hp hi.length hc) (by simp))
  go_wp2_with fail
  have z9 := HST.out.2.2.2
  refine bodyPost_ret (v := .tuple #[.agg #[Value.slice lp lo.length lc, .slice hp hi.length hc], .int .i64 0]) (by simp [results, Try.results10, go_sem, z9]) rfl ?_
  exact ⟨lp, lc, hp, hc, rfl, HST.out.1, HST.out.2.1, HST.out.2.2.1⟩
/-- whatever is asked -/
theorem rbox_any (r : Rq) (d : Int) (w : World) (h : r.At w) : Calls Try.prog 10 #[.agg r.cells, .int .i64 d] w (NewBox w (r.bLo d) (r.bHi d) (.int .i64 (err (r.bok d)))) := by
  cases hm : r.may d true false with
  | false => exact rbox_no r d w h hm
  | true =>
    by_cases h4 : r.what = 4
    · exact rbox_4 r d w h hm h4
    · by_cases h5 : r.what = 5
      · exact rbox_part r d w h hm h5
      · by_cases h6 : r.what = 6
        · exact rbox_6 r d w h hm h6
        · exact rbox_other r d w h hm (by omega)
end Go.Proofs.Ytolnbamdddiifaa.Rq
