/- What must be so of the other kinds of request. -/
import Derived.Test.YtolnbamdddiifaaRqBase
namespace Go.Proofs.Ytolnbamdddiifaa.Rq
open Go.RowKit
open Go.Lib (hid)
open Go.Proofs.Ytolnbamdddiifaa.Ky
open Go.Proofs.Ytolnbamdddiifaa.Bk
section
variable (r : Rq) (d : Int) (inside : Bool) (w : World)
set_option maxHeartbeats 1000000 in
theorem parted_ok (h : r.At w) : Calls Try.prog 29 #[.agg r.cells, .int .i64 d, .bool inside] w (Bl w (partOk d r.at_ r.kl)) := by
  obtain ⟨what, kp, kl, kc, data, lp, lo, lc, hp, hi, hc, ap, at_, ac, most, rp, rs, rc⟩ := r
  dsimp only [Rq.cells] at h ⊢
  have HB0 := hid (below_alloc w (.cells #[.int .i64 what, .slice kp kl.length kc, .string data, .slice lp lo.length lc, .slice hp hi.length hc, .slice ap at_.length ac, .int .i64 most, .slice rp rs.length rc] 37))
  have HC := hid fun (V : World) (hV : Below w.heap.size w V) => partial_ok d at_ kl ap kp ac kc V (h.a.below hV) (h.k.below hV) (by have := h.na; dsimp only at this; omega)
  clear h
  generalize partLo d at_ kl = lo1 at *
  generalize partHi d at_ kl = hi1 at *
  generalize partOk d at_ kl = b at *
  cases b
  all_goals
    first | rw [err_true true rfl] at HC | rw [err_false false rfl] at HC
    go_enter Try.func29, Try.ntmps29
    go_wp2_with (go_at_call 16; refine (HC.out _ HB0.out).mono ?_; rintro e w2 ⟨p1, c1, p2, c2, rfl, _, _, hb⟩; have HB := hid (HB0.out.trans (hb.mono HB0.out.size)); clear hb)
    have HB2 := hid (HB.out.alloc HB.out.size (.cells #[.slice p1 lo1.length c1, .slice p2 hi1.length c2] 25))
    go_ret
    exact ⟨rfl, HB2.out⟩
set_option maxHeartbeats 2000000 in
theorem near_ok : Calls Try.prog 30 #[.agg r.cells, .int .i64 d, .bool inside] w (Bl w (checkB r.kl.length d && (decide (0 ≤ r.most) && decide (r.most ≤ 1000)))) := by
  have HC := hid fun V => pointed_ok r d inside V
  obtain ⟨what, kp, kl, kc, data, lp, lo, lc, hp, hi, hc, ap, at_, ac, most, rp, rs, rc⟩ := r
  dsimp only [Rq.cells] at HC ⊢
  have HB0 := hid (below_alloc w (.cells #[.int .i64 what, .slice kp kl.length kc, .string data, .slice lp lo.length lc, .slice hp hi.length hc, .slice ap at_.length ac, .int .i64 most, .slice rp rs.length rc] 37))
  have HX := hid (heap_alloc_new w (.cells #[.int .i64 what, .slice kp kl.length kc, .string data, .slice lp lo.length lc, .slice hp hi.length hc, .slice ap at_.length ac, .int .i64 most, .slice rp rs.length rc] 37))
  generalize checkB kl.length d = b at *
  cases b
  · go_enter Try.func30, Try.ntmps30
    go_wp2_with (go_at_call 27; refine (HC.out _).mono ?_; rintro e w2 ⟨rfl, hb⟩; have HB := hid (HB0.out.trans (hb.mono HB0.out.size)); clear hb)
    go_ret
    exact ⟨rfl, HB.out⟩
  · by_cases h0 : 0 ≤ most
    · have e0 : decide (0 ≤ most) = true := decide_eq_true h0
      by_cases h1 : most ≤ 1000
      all_goals
        first
          | have e1 : decide (most ≤ 1000) = true := decide_eq_true h1
          | have e1 : decide (most ≤ 1000) = false := decide_eq_false h1
        rw [e0, e1]
        clear h0 h1
        go_enter Try.func30, Try.ntmps30
        go_wp2_with fail
        refine (HC.out _).mono ?_
        rintro e w2 ⟨rfl, hb⟩
        have HB := hid (HB0.out.trans (hb.mono HB0.out.size))
        have hx := (hb.block _ (Array.getElem?_eq_some_iff.1 HX.out).1).trans HX.out
        have x6 : w2.cell? ⟨w.heap.size, 6, none⟩ = some (.int .i64 most) := by rw [cell_of_row _ _ _ _ _ _ hx]; rfl
        clear hb hx
        go_wp2_with fail
        go_ret
        exact ⟨rfl, HB.out⟩
    · have e0 : decide (0 ≤ most) = false := decide_eq_false h0
      rw [e0]
      clear h0
      go_enter Try.func30, Try.ntmps30
      go_wp2_with fail
      refine (HC.out _).mono ?_
      rintro e w2 ⟨rfl, hb⟩
      have HB := hid (HB0.out.trans (hb.mono HB0.out.size))
      have hx := (hb.block _ (Array.getElem?_eq_some_iff.1 HX.out).1).trans HX.out
      have x6 : w2.cell? ⟨w.heap.size, 6, none⟩ = some (.int .i64 most) := by rw [cell_of_row _ _ _ _ _ _ hx]; rfl
      clear hb hx
      go_wp2_with fail
      go_ret
      exact ⟨rfl, HB.out⟩
set_option maxHeartbeats 1000000 in
theorem begin_ok : Calls Try.prog 32 #[.agg r.cells, .int .i64 d, .bool inside] w (Bl w (!inside)) := by
  have HB0 := hid (below_alloc w (.cells r.cells 37))
  obtain ⟨what, kp, kl, kc, data, lp, lo, lc, hp, hi, hc, ap, at_, ac, most, rp, rs, rc⟩ := r
  dsimp only [Rq.cells] at HB0 ⊢
  go_enter Try.func32, Try.ntmps32
  go_wp2_with fail
  go_ret
  exact ⟨rfl, HB0.out⟩
set_option maxHeartbeats 1000000 in
theorem within_ok : Calls Try.prog 33 #[.agg r.cells, .int .i64 d, .bool inside] w (Bl w inside) := by
  have HB0 := hid (below_alloc w (.cells r.cells 37))
  obtain ⟨what, kp, kl, kc, data, lp, lo, lc, hp, hi, hc, ap, at_, ac, most, rp, rs, rc⟩ := r
  dsimp only [Rq.cells] at HB0 ⊢
  go_enter Try.func33, Try.ntmps33
  go_wp2_with fail
  go_ret
  exact ⟨rfl, HB0.out⟩
set_option maxHeartbeats 1000000 in
theorem close_ok : Calls Try.prog 34 #[.agg r.cells, .int .i64 d, .bool inside] w (Bl w true) := by
  have HB0 := hid (below_alloc w (.cells r.cells 37))
  obtain ⟨what, kp, kl, kc, data, lp, lo, lc, hp, hi, hc, ap, at_, ac, most, rp, rs, rc⟩ := r
  dsimp only [Rq.cells] at HB0 ⊢
  go_enter Try.func34, Try.ntmps34
  go_wp2_with fail
  go_ret
  exact ⟨rfl, HB0.out⟩
end
end Go.Proofs.Ytolnbamdddiifaa.Rq
