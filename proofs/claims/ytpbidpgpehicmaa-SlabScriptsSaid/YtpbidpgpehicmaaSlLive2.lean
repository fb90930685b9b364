/- live of slab's law: the walk. -/
import Derived.Test.YtpbidpgpehicmaaSlLive
namespace Go.Proofs.Ytpbidpgpehicmaa.Sl
open Go.RowKit Go.Shelf
open Go.Lib (hid)

theorem of_lit (w : World) : Calls Try.prog 27 #[.slice (some ⟨w.heap.size, 0, none⟩) 2 2, .slice (some ⟨w.heap.size + 1, 0, none⟩) 4 4] ((w.alloc (obj [2, 2])).alloc (obj [1, 2, 3, 4])) fun e V' => ∃ b, e = .returned (.tuple #[.pointer (some ⟨b, 0, none⟩), .int .i64 0]) ∧ Lv (fun j => j < w.heap.size) V' b [2, 2] [1, 2, 3, 4] ∧ Below w.heap.size w V' := by
  have hb := below_two w (obj [2, 2]) (obj [1, 2, 3, 4])
  have c2 := cells_obj (w.alloc (obj [2, 2])) [1, 2, 3, 4]
  rw [World.size_alloc] at c2
  refine (lv_of (K := fun j => j < w.heap.size) (fun j hj => Nat.lt_of_lt_of_le hj hb.size) [2, 2] [1, 2, 3, 4] _ _ 2 4 (cells_obj2 w [2, 2] [1, 2, 3, 4]) c2 (by decide) (by decide) (by decide) (by decide)).mono ?_
  rintro e V' ⟨b, rfl, ⟨S, hS, hl⟩, hv⟩
  refine ⟨b, rfl, ?_, hb.trans (hv.mono hb.size)⟩
  have : S = [2, 2] := by
    match S, hS with
    | [x, y], h =>
      simp only [zs, List.map_cons, List.map_nil, List.cons.injEq, and_true] at h
      rw [show x = 2 by omega, show y = 2 by omega]
  rw [← this]; exact hl
theorem of_lit_bad (w : World) : Calls Try.prog 27 #[.slice (some ⟨w.heap.size, 0, none⟩) 2 2, .slice (some ⟨w.heap.size + 1, 0, none⟩) 3 3] ((w.alloc (obj [2, 2])).alloc (obj [1, 2, 3])) fun e V' => e = .returned (.tuple #[.pointer none, .int .i64 1]) ∧ Below w.heap.size w V' := by
  have hb := below_two w (obj [2, 2]) (obj [1, 2, 3])
  refine (of_bad [2, 2] [1, 2, 3] _ _ 2 3 _ (cells_obj2 w [2, 2] [1, 2, 3]) (by decide) (by decide)).mono ?_
  rintro e V' ⟨rfl, rfl⟩
  exact ⟨rfl, hb⟩
set_option maxRecDepth 100000 in
set_option maxHeartbeats 8000000 in
theorem live_any (w : World) : Calls Try.prog 11 #[] w fun e w' => e = .returned (.bool true) ∧ Below w.heap.size w w' := by
  go_enter Try.func11, Try.ntmps11
  go_wp2_with fail
  refine (of_lit w).mono ?_
  rintro e w1 ⟨b, rfl, hx, hb⟩
  have HX := hid hx; have HB := hid hb
  clear hx hb
  go_wp2_with fail
  refine (of_lit_bad w1).mono ?_
  rintro e w2 ⟨rfl, hb⟩
  have HV := hid hb
  clear hb
  go_wp2_with fail
  refine (new_ok 3 7 w2 (by decide) (by decide)).mono ?_
  rintro e w3 ⟨z, g, k, rfl, hs, hge, hb⟩
  have HW := hid (lw_begin HX.out HB.out HV.out hs hge hb)
  clear HX HB HV hs hge hb
  go_wp2_with fail
  refine (lw_grow HW.out 1 0 0 m_grow).mono ?_
  rintro e w4 ⟨rfl, hw⟩
  replace HW := hid hw; clear hw
  go_wp2_with fail
  refine (lw_cells HW.out).mono ?_
  rintro e w5 ⟨p1, c1, rfl, hc, hw, _⟩
  replace HW := hid hw; have HC := hid hc; clear hw hc
  go_wp2_with fail
  refine (ints_lit w5 [1, 1, 2, 3, 3, 4] [1, 1, 2, 3, 3, 4] p1 c1 HC.out (by decide) true (by decide)).mono ?_
  rintro e w6 ⟨rfl, hb⟩
  replace HW := hid (HW.out.next hb); clear hb HC
  go_wp2_with fail
  refine (lw_get HW.out [1, 2] 4 0 (by decide) m_get).mono ?_
  rintro e w7 ⟨rfl, hw, _⟩
  replace HW := hid hw; clear hw
  go_wp2_with fail
  refine (lw_shrink HW.out 1 1 1 m_shr1).mono ?_
  rintro e w8 ⟨rfl, hw⟩
  replace HW := hid hw; clear hw
  go_wp2_with fail
  refine (lw_shrink HW.out 1 0 0 m_shr2).mono ?_
  rintro e w9 ⟨rfl, hw⟩
  replace HW := hid hw; clear hw
  go_wp2_with fail
  refine (lw_fill HW.out [0, 0] [1, 0] 9 0 (by decide) (by decide) (by decide) m_fill).mono ?_
  rintro e w10 ⟨rfl, hw⟩
  replace HW := hid hw; clear hw
  go_wp2_with fail
  refine (lw_seen HW.out [0, 0] [1, 1] [9, 2, 4] 0 (by decide) (by decide) m_seen).mono ?_
  rintro e w11 ⟨r, c, rfl, hc, hw⟩
  replace HW := hid hw; have HR := hid hc; clear hw hc
  go_wp2_with fail
  refine (lw_place HW.out [1, 0] 2 0 (by decide) m_place).mono ?_
  rintro e w12 ⟨rfl, hw, hb⟩
  replace HW := hid hw; replace HR := hid (HR.out.below hb); clear hw hb
  go_wp2_with fail
  refine (ints_lit w12 [9, 2, 4] [9, 2, 4] r c HR.out (by decide) true (by decide)).mono ?_
  rintro e w13 ⟨rfl, hb⟩
  replace HW := hid (HW.out.next hb); clear hb HR
  go_wp2_with fail
  refine (lw_sizes HW.out).mono ?_
  rintro e w14 ⟨p2, c2, rfl, hc, hw, _⟩
  replace HW := hid hw; have HC := hid hc; clear hw hc
  go_wp2_with fail
  refine (ints_lit w14 [2, 2] [2, 2] p2 c2 HC.out (by decide) true (by decide)).mono ?_
  rintro e w15 ⟨rfl, hb⟩
  replace HW := hid (HW.out.next hb); clear hb HC
  go_wp2_with fail
  refine (lw_seven HW.out).mono ?_
  rintro e w16 ⟨p3, c3, rfl, hc, hw, _⟩
  have HC := hid hc; replace HW := hid hw; clear hc hw
  go_wp2_with fail
  refine (ints_lit w16 [7] [7] p3 c3 HC.out (by decide) true (by decide)).mono ?_
  rintro e w17 ⟨rfl, hb⟩
  replace HW := hid (HW.out.trans (hb.mono HW.out.size)); clear hb HC
  go_wp2_with fail
  go_ret
  exact ⟨rfl, HW.out⟩
end Go.Proofs.Ytpbidpgpehicmaa.Sl
