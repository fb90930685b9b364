/- The laws on requests, walked. -/
import Derived.Test.YtolnbamdddiifaaRqLawA
namespace Go.Proofs.Ytolnbamdddiifaa.Rq
open Go.RowKit
open Go.Lib (hid)
open Go.Proofs.Ytolnbamdddiifaa.Ky
open Go.Proofs.Ytolnbamdddiifaa.Bk
set_option maxRecDepth 100000 in
set_option maxHeartbeats 8000000 in
theorem one_big (r : Rq) (a b : Int) (w : World) (h : r.Raw w) (hs : r.small = false) : Calls Try.prog 5 #[.agg r.cells, .int .i64 a, .int .i64 b] w fun e w' => e = .returned (.bool true) ∧ Below w.heap.size w w' := by
  have HSM := hid fun (V : World) (hV : Below w.heap.size w V) => small_ok r V (h.below hV)
  have HR := hid fun (V : World) (hV : Below w.heap.size w V) => h.below hV
  obtain ⟨V0, hV0⟩ : ∃ V0, w.alloc (.cells r.cells 29) = V0 := ⟨_, rfl⟩
  have HB0 := hid (show Below w.heap.size w V0 by rw [← hV0]; exact below_alloc _ _)
  have HX0 := hid (show Rc8 V0 w.heap.size r from ⟨by rw [← hV0]; exact heap_alloc_new _ _⟩)
  clear h
  obtain ⟨what, kp, kl, kc, data, lp, lo, lc, hp, hi, hc, ap, at_, ac, most, rp, rs, rc⟩ := r
  dsimp only [Rq.cells] at *
  go_enter Try.func5, Try.ntmps5
  have hxx := HX0.out
  obtain ⟨y0, y1, y2, y3, y4, y5, y6, y7⟩ := hxx.cells
  clear hxx
  rw [hs] at HSM
  clear hs
  go_wp2_with fail
  clear hV0
  refine (HSM.out _ HB0.out).mono ?_
  rintro e w1 ⟨rfl, hb⟩
  have HB1 := hid (HB0.out.trans (hb.mono HB0.out.size))
  have HX1 := hid (HX0.out.below hb)
  clear hb y0 y1 y2 y3 y4 y5 y6 y7
  obtain ⟨y0, y1, y2, y3, y4, y5, y6, y7⟩ := HX1.out.cells
  go_wp2_with fail
  refine (live_any _).mono ?_
  rintro e w99 ⟨rfl, hb⟩
  have HB99 := hid (HB1.out.trans (hb.mono HB1.out.size))
  clear hb
  go_wp2_with fail
  go_ret
  exact ⟨rfl, HB99.out⟩
set_option maxRecDepth 100000 in
set_option maxHeartbeats 8000000 in
theorem one_same (r : Rq) (a b : Int) (w : World) (h : r.Raw w) (hs : r.small = true) (he : a = b) : Calls Try.prog 5 #[.agg r.cells, .int .i64 a, .int .i64 b] w fun e w' => e = .returned (.bool true) ∧ Below w.heap.size w w' := by
  have ge : (a == b) = true := by simpa using he
  have HSM := hid fun (V : World) (hV : Below w.heap.size w V) => small_ok r V (h.below hV)
  have HR := hid fun (V : World) (hV : Below w.heap.size w V) => h.below hV
  obtain ⟨V0, hV0⟩ : ∃ V0, w.alloc (.cells r.cells 29) = V0 := ⟨_, rfl⟩
  have HB0 := hid (show Below w.heap.size w V0 by rw [← hV0]; exact below_alloc _ _)
  have HX0 := hid (show Rc8 V0 w.heap.size r from ⟨by rw [← hV0]; exact heap_alloc_new _ _⟩)
  clear h he
  obtain ⟨what, kp, kl, kc, data, lp, lo, lc, hp, hi, hc, ap, at_, ac, most, rp, rs, rc⟩ := r
  dsimp only [Rq.cells] at *
  go_enter Try.func5, Try.ntmps5
  have hxx := HX0.out
  obtain ⟨y0, y1, y2, y3, y4, y5, y6, y7⟩ := hxx.cells
  clear hxx
  rw [hs] at HSM
  clear hs
  go_wp2_with fail
  clear hV0
  refine (HSM.out _ HB0.out).mono ?_
  rintro e w1 ⟨rfl, hb⟩
  have HB1 := hid (HB0.out.trans (hb.mono HB0.out.size))
  have HX1 := hid (HX0.out.below hb)
  clear hb y0 y1 y2 y3 y4 y5 y6 y7
  obtain ⟨y0, y1, y2, y3, y4, y5, y6, y7⟩ := HX1.out.cells
  go_wp2_with fail
  refine (live_any _).mono ?_
  rintro e w99 ⟨rfl, hb⟩
  have HB99 := hid (HB1.out.trans (hb.mono HB1.out.size))
  clear hb
  go_wp2_with fail
  go_ret
  exact ⟨rfl, HB99.out⟩
set_option maxRecDepth 100000 in
set_option maxHeartbeats 8000000 in
theorem one_low (r : Rq) (a b : Int) (w : World) (h : r.Raw w) (hs : r.small = true) (he : a ≠ b) (hw : r.what < 1) : Calls Try.prog 5 #[.agg r.cells, .int .i64 a, .int .i64 b] w fun e w' => e = .returned (.bool true) ∧ Below w.heap.size w w' := by
  have ge : (a == b) = false := by simpa using he
  have HSM := hid fun (V : World) (hV : Below w.heap.size w V) => small_ok r V (h.below hV)
  have HR := hid fun (V : World) (hV : Below w.heap.size w V) => h.below hV
  obtain ⟨V0, hV0⟩ : ∃ V0, w.alloc (.cells r.cells 29) = V0 := ⟨_, rfl⟩
  have HB0 := hid (show Below w.heap.size w V0 by rw [← hV0]; exact below_alloc _ _)
  have HX0 := hid (show Rc8 V0 w.heap.size r from ⟨by rw [← hV0]; exact heap_alloc_new _ _⟩)
  clear h he
  obtain ⟨what, kp, kl, kc, data, lp, lo, lc, hp, hi, hc, ap, at_, ac, most, rp, rs, rc⟩ := r
  dsimp only [Rq.cells] at *
  have gw : decide (what < 1) = true := decide_eq_true hw
  clear hw
  go_enter Try.func5, Try.ntmps5
  have hxx := HX0.out
  obtain ⟨y0, y1, y2, y3, y4, y5, y6, y7⟩ := hxx.cells
  clear hxx
  rw [hs] at HSM
  clear hs
  go_wp2_with fail
  clear hV0
  refine (HSM.out _ HB0.out).mono ?_
  rintro e w1 ⟨rfl, hb⟩
  have HB1 := hid (HB0.out.trans (hb.mono HB0.out.size))
  have HX1 := hid (HX0.out.below hb)
  clear hb y0 y1 y2 y3 y4 y5 y6 y7
  obtain ⟨y0, y1, y2, y3, y4, y5, y6, y7⟩ := HX1.out.cells
  go_wp2_with fail
  refine (live_any _).mono ?_
  rintro e w99 ⟨rfl, hb⟩
  have HB99 := hid (HB1.out.trans (hb.mono HB1.out.size))
  clear hb
  go_wp2_with fail
  go_ret
  exact ⟨rfl, HB99.out⟩
set_option maxRecDepth 100000 in
set_option maxHeartbeats 8000000 in
theorem one_high (r : Rq) (a b : Int) (w : World) (h : r.Raw w) (hs : r.small = true) (he : a ≠ b) (hw : 7 < r.what) : Calls Try.prog 5 #[.agg r.cells, .int .i64 a, .int .i64 b] w fun e w' => e = .returned (.bool true) ∧ Below w.heap.size w w' := by
  have ge : (a == b) = false := by simpa using he
  have HSM := hid fun (V : World) (hV : Below w.heap.size w V) => small_ok r V (h.below hV)
  have HR := hid fun (V : World) (hV : Below w.heap.size w V) => h.below hV
  obtain ⟨V0, hV0⟩ : ∃ V0, w.alloc (.cells r.cells 29) = V0 := ⟨_, rfl⟩
  have HB0 := hid (show Below w.heap.size w V0 by rw [← hV0]; exact below_alloc _ _)
  have HX0 := hid (show Rc8 V0 w.heap.size r from ⟨by rw [← hV0]; exact heap_alloc_new _ _⟩)
  clear h he
  obtain ⟨what, kp, kl, kc, data, lp, lo, lc, hp, hi, hc, ap, at_, ac, most, rp, rs, rc⟩ := r
  dsimp only [Rq.cells] at *
  have gw : decide (what < 1) = false := decide_eq_false (by omega)
  have gx : decide (7 < what) = true := decide_eq_true hw
  clear hw
  go_enter Try.func5, Try.ntmps5
  have hxx := HX0.out
  obtain ⟨y0, y1, y2, y3, y4, y5, y6, y7⟩ := hxx.cells
  clear hxx
  rw [hs] at HSM
  clear hs
  go_wp2_with fail
  clear hV0
  refine (HSM.out _ HB0.out).mono ?_
  rintro e w1 ⟨rfl, hb⟩
  have HB1 := hid (HB0.out.trans (hb.mono HB0.out.size))
  have HX1 := hid (HX0.out.below hb)
  clear hb y0 y1 y2 y3 y4 y5 y6 y7
  obtain ⟨y0, y1, y2, y3, y4, y5, y6, y7⟩ := HX1.out.cells
  go_wp2_with fail
  refine (live_any _).mono ?_
  rintro e w99 ⟨rfl, hb⟩
  have HB99 := hid (HB1.out.trans (hb.mono HB1.out.size))
  clear hb
  go_wp2_with fail
  go_ret
  exact ⟨rfl, HB99.out⟩
set_option maxRecDepth 100000 in
set_option maxHeartbeats 8000000 in
theorem one_part (r : Rq) (a b : Int) (w : World) (h : r.Raw w) (hs : r.small = true) (he : a ≠ b) (hw : r.what = 5) : Calls Try.prog 5 #[.agg r.cells, .int .i64 a, .int .i64 b] w fun e w' => e = .returned (.bool true) ∧ Below w.heap.size w w' := by
  have ge : (a == b) = false := by simpa using he
  have HSM := hid fun (V : World) (hV : Below w.heap.size w V) => small_ok r V (h.below hV)
  have HR := hid fun (V : World) (hV : Below w.heap.size w V) => h.below hV
  obtain ⟨V0, hV0⟩ : ∃ V0, w.alloc (.cells r.cells 29) = V0 := ⟨_, rfl⟩
  have HB0 := hid (show Below w.heap.size w V0 by rw [← hV0]; exact below_alloc _ _)
  have HX0 := hid (show Rc8 V0 w.heap.size r from ⟨by rw [← hV0]; exact heap_alloc_new _ _⟩)
  clear h he
  obtain ⟨what, kp, kl, kc, data, lp, lo, lc, hp, hi, hc, ap, at_, ac, most, rp, rs, rc⟩ := r
  dsimp only at hw
  subst hw
  dsimp only [Rq.cells] at *
  go_enter Try.func5, Try.ntmps5
  have hxx := HX0.out
  obtain ⟨y0, y1, y2, y3, y4, y5, y6, y7⟩ := hxx.cells
  clear hxx
  rw [hs] at HSM
  clear hs
  go_wp2_with fail
  clear hV0
  refine (HSM.out _ HB0.out).mono ?_
  rintro e w1 ⟨rfl, hb⟩
  have HB1 := hid (HB0.out.trans (hb.mono HB0.out.size))
  have HX1 := hid (HX0.out.below hb)
  clear hb y0 y1 y2 y3 y4 y5 y6 y7
  obtain ⟨y0, y1, y2, y3, y4, y5, y6, y7⟩ := HX1.out.cells
  go_wp2_with fail
  refine (live_any _).mono ?_
  rintro e w99 ⟨rfl, hb⟩
  have HB99 := hid (HB1.out.trans (hb.mono HB1.out.size))
  clear hb
  go_wp2_with fail
  go_ret
  exact ⟨rfl, HB99.out⟩
theorem may_dim {r : Rq} {d : Int} (hw : r.what = 1 ∨ r.what = 2 ∨ r.what = 3 ∨ r.what = 4 ∨ r.what = 6 ∨ r.what = 7) (h : r.may d true false = true) : (r.kl.length : Int) = d ∧ ¬ (r.what = 4 ∨ r.what = 6) ∨ (r.lo.length : Int) = d ∧ (r.what = 4 ∨ r.what = 6) := by
  unfold Rq.may Rq.must at h
  rcases hw with hw | hw | hw | hw | hw | hw <;> simp [hw, checkB, boxB] at h ⊢ <;> simp [h]
theorem one_dim {r : Rq} {a b : Int} (hw : r.what = 1 ∨ r.what = 2 ∨ r.what = 3 ∨ r.what = 4 ∨ r.what = 6 ∨ r.what = 7) (hne : a ≠ b) (h : r.may a true false = true) : r.may b true false = false := by
  cases h2 : r.may b true false with
  | false => rfl
  | true =>
    have e1 := may_dim hw h
    have e2 := may_dim hw h2
    omega
set_option maxRecDepth 100000 in
set_option maxHeartbeats 8000000 in
theorem one_two (r : Rq) (a b : Int) (w : World) (h : r.Raw w) (hs : r.small = true) (he : a ≠ b) (hw1 : 1 ≤ r.what) (hw7 : r.what ≤ 7) (hw5 : r.what ≠ 5) : Calls Try.prog 5 #[.agg r.cells, .int .i64 a, .int .i64 b] w fun e w' => e = .returned (.bool true) ∧ Below w.heap.size w w' := by
  have ge : (a == b) = false := by simpa using he
  have hat := h.at hs
  have HCA := hid fun (V : World) (hV : Below w.heap.size w V) => check_any r a true false V (hat.below hV)
  have HCB := hid fun (V : World) (hV : Below w.heap.size w V) => check_any r b true false V (hat.below hV)
  have HOW := hid fun (V : World) => own_ok r V
  have hk : r.what = 1 ∨ r.what = 2 ∨ r.what = 3 ∨ r.what = 4 ∨ r.what = 6 ∨ r.what = 7 := by omega
  have hd := fun (x : r.may a true false = true) => one_dim hk he x
  clear hk
  have HSM := hid fun (V : World) (hV : Below w.heap.size w V) => small_ok r V (h.below hV)
  obtain ⟨V0, hV0⟩ : ∃ V0, w.alloc (.cells r.cells 29) = V0 := ⟨_, rfl⟩
  have HB0 := hid (show Below w.heap.size w V0 by rw [← hV0]; exact below_alloc _ _)
  have HX0 := hid (show Rc8 V0 w.heap.size r from ⟨by rw [← hV0]; exact heap_alloc_new _ _⟩)
  clear h he hat
  cases hm : r.may a true false
  case false =>
    rw [hm, err_false false rfl] at HCA
    clear hd hm
    obtain ⟨what, kp, kl, kc, data, lp, lo, lc, hp, hi, hc, ap, at_, ac, most, rp, rs, rc⟩ := r
    dsimp only [Rq.cells] at *
    have gw : decide (what < 1) = false := decide_eq_false (by omega)
    have gx : decide (7 < what) = false := decide_eq_false (by omega)
    have gy : (what == 5) = false := by simpa using hw5
    clear hw1 hw7 hw5
    go_enter Try.func5, Try.ntmps5
    have hxx := HX0.out
    obtain ⟨y0, y1, y2, y3, y4, y5, y6, y7⟩ := hxx.cells
    clear hxx
    rw [hs] at HSM
    clear hs
    go_wp2_with fail
    clear hV0
    refine (HSM.out _ HB0.out).mono ?_
    rintro e w1 ⟨rfl, hb⟩
    have HB1 := hid (HB0.out.trans (hb.mono HB0.out.size))
    have HX1 := hid (HX0.out.below hb)
    clear hb y0 y1 y2 y3 y4 y5 y6 y7
    obtain ⟨y0, y1, y2, y3, y4, y5, y6, y7⟩ := HX1.out.cells
    go_wp2_with fail
    refine (HOW.out _).mono ?_
    rintro e w2 ⟨rfl, hb⟩
    have HB2 := hid (HB1.out.trans (hb.mono HB1.out.size))
    have HX2 := hid (HX1.out.below hb)
    clear hb y0 y1 y2 y3 y4 y5 y6 y7
    obtain ⟨y0, y1, y2, y3, y4, y5, y6, y7⟩ := HX2.out.cells
    go_wp2_with fail
    refine (HCA.out _ HB2.out).mono ?_
    rintro e w3 ⟨rfl, hb⟩
    have HB3 := hid (HB2.out.trans (hb.mono HB2.out.size))
    have HX3 := hid (HX2.out.below hb)
    clear hb y0 y1 y2 y3 y4 y5 y6 y7
    obtain ⟨y0, y1, y2, y3, y4, y5, y6, y7⟩ := HX3.out.cells
    go_wp2_with fail
    refine (live_any _).mono ?_
    rintro e w99 ⟨rfl, hb⟩
    have HB99 := hid (HB3.out.trans (hb.mono HB3.out.size))
    clear hb
    go_wp2_with fail
    go_ret
    exact ⟨rfl, HB99.out⟩
  case true =>
    rw [hm, err_true true rfl] at HCA
    rw [hd hm, err_false false rfl] at HCB
    clear hd hm
    obtain ⟨what, kp, kl, kc, data, lp, lo, lc, hp, hi, hc, ap, at_, ac, most, rp, rs, rc⟩ := r
    dsimp only [Rq.cells] at *
    have gw : decide (what < 1) = false := decide_eq_false (by omega)
    have gx : decide (7 < what) = false := decide_eq_false (by omega)
    have gy : (what == 5) = false := by simpa using hw5
    clear hw1 hw7 hw5
    go_enter Try.func5, Try.ntmps5
    have hxx := HX0.out
    obtain ⟨y0, y1, y2, y3, y4, y5, y6, y7⟩ := hxx.cells
    clear hxx
    rw [hs] at HSM
    clear hs
    go_wp2_with fail
    clear hV0
    refine (HSM.out _ HB0.out).mono ?_
    rintro e w1 ⟨rfl, hb⟩
    have HB1 := hid (HB0.out.trans (hb.mono HB0.out.size))
    have HX1 := hid (HX0.out.below hb)
    clear hb y0 y1 y2 y3 y4 y5 y6 y7
    obtain ⟨y0, y1, y2, y3, y4, y5, y6, y7⟩ := HX1.out.cells
    go_wp2_with fail
    refine (HOW.out _).mono ?_
    rintro e w2 ⟨rfl, hb⟩
    have HB2 := hid (HB1.out.trans (hb.mono HB1.out.size))
    have HX2 := hid (HX1.out.below hb)
    clear hb y0 y1 y2 y3 y4 y5 y6 y7
    obtain ⟨y0, y1, y2, y3, y4, y5, y6, y7⟩ := HX2.out.cells
    go_wp2_with fail
    refine (HCA.out _ HB2.out).mono ?_
    rintro e w3 ⟨rfl, hb⟩
    have HB3 := hid (HB2.out.trans (hb.mono HB2.out.size))
    have HX3 := hid (HX2.out.below hb)
    clear hb y0 y1 y2 y3 y4 y5 y6 y7
    obtain ⟨y0, y1, y2, y3, y4, y5, y6, y7⟩ := HX3.out.cells
    go_wp2_with fail
    refine (HOW.out _).mono ?_
    rintro e w4 ⟨rfl, hb⟩
    have HB4 := hid (HB3.out.trans (hb.mono HB3.out.size))
    have HX4 := hid (HX3.out.below hb)
    clear hb y0 y1 y2 y3 y4 y5 y6 y7
    obtain ⟨y0, y1, y2, y3, y4, y5, y6, y7⟩ := HX4.out.cells
    go_wp2_with fail
    refine (HCB.out _ HB4.out).mono ?_
    rintro e w5 ⟨rfl, hb⟩
    have HB5 := hid (HB4.out.trans (hb.mono HB4.out.size))
    have HX5 := hid (HX4.out.below hb)
    clear hb y0 y1 y2 y3 y4 y5 y6 y7
    obtain ⟨y0, y1, y2, y3, y4, y5, y6, y7⟩ := HX5.out.cells
    go_wp2_with fail
    refine (live_any _).mono ?_
    rintro e w99 ⟨rfl, hb⟩
    have HB99 := hid (HB5.out.trans (hb.mono HB5.out.size))
    clear hb
    go_wp2_with fail
    go_ret
    exact ⟨rfl, HB99.out⟩
theorem one_any (r : Rq) (a b : Int) (w : World) (h : r.Raw w) : Calls Try.prog 5 #[.agg r.cells, .int .i64 a, .int .i64 b] w fun e w' => e = .returned (.bool true) ∧ Below w.heap.size w w' := by
  cases hs : r.small with
  | false => exact one_big r a b w h hs
  | true =>
    by_cases he : a = b
    · exact one_same r a b w h hs he
    · by_cases h1 : r.what < 1
      · exact one_low r a b w h hs he h1
      · by_cases h7 : 7 < r.what
        · exact one_high r a b w h hs he h7
        · by_cases h5 : r.what = 5
          · exact one_part r a b w h hs he h5
          · exact one_two r a b w h hs he (by omega) (by omega) h5
end Go.Proofs.Ytolnbamdddiifaa.Rq
