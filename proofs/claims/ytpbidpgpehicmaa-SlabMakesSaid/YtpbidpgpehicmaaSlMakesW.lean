/- SlabMakes walked. -/
import Derived.Test.YtpbidpgpehicmaaSlLive2
import Derived.Test.YtpbidpgpehicmaaSlOpen
import Derived.Test.YtpbidpgpehicmaaSlRMake
namespace Go.Proofs.Ytpbidpgpehicmaa
open Go.RowKit Go.Shelf
open Go.Lib (hid)
open Go.ChangeShapes Go.WideShapes Go.Joins
open Go.Proofs.Ytpbidpgpehicmaa.Sl

theorem ints_same (l : List Int) (p q : Option Addr) (c c' : Nat) (w : World) (hp : CellsAt w p (iv l)) (hq : CellsAt w q (iv l)) (hl : l.length ≤ 1000000) :
    Calls Try.prog 24 #[.slice p l.length c, .slice q l.length c'] w fun e w' => e = .returned (.bool true) ∧ ∃ n, w' = w.drewN n := by
  have h := ints_ok l l p q c c' w hp hq hl
  rw [decide_eq_true (rfl : l = l)] at h
  exact h
set_option maxRecDepth 100000 in
theorem SlabMakes_open0 {H : Type} {enc : TypeId × Value → H} {W : World} {base : Nat} {v : Value} {d : DataW H} {p : List MemPlace} (hv : Value.okWide Try.prog W .any base 30 v) (h : DataW.Trod enc Try.prog W 0 (fun _ => true) true 30 v d p) : IntsV W v := open_ints_v hv h
set_option maxRecDepth 100000 in
theorem SlabMakes_open1 {H : Type} {enc : TypeId × Value → H} {W : World} {base : Nat} {v : Value} {d : DataW H} {p : List MemPlace} (hv : Value.okWide Try.prog W .any base 30 v) (h : DataW.Trod enc Try.prog W 0 (fun _ => true) true 30 v d p) : IntsV W v := open_ints_v hv h
set_option maxRecDepth 100000 in
set_option maxHeartbeats 8000000 in
theorem SlabMakes_walk (v1 v2 : Value) (w : World) (h1 : IntsV w v1) (h2 : IntsV w v2) :
    Calls Try.prog 4 #[v1, v2] w fun e w' => e = .returned (.bool true) ∧ Below w.heap.size w w' := by
  obtain ⟨p, l, c, rfl, hp, _⟩ := h1
  obtain ⟨q, C, c', rfl, hq, _⟩ := h2
  by_cases h4 : l.length ≤ 20
  · have e1 : decide ((20 : Int) < (l.length : Int)) = false := decide_eq_false (by omega)
    by_cases h5 : C.length ≤ 5000
    · have e2 : decide ((5000 : Int) < (C.length : Int)) = false := decide_eq_false (by omega)
      by_cases hn : prodAns l = some C.length
      · have HA := hid (of_ok l C p q c c' w hp.cells hq.cells (by omega) (by omega) hn)
        have HR := hid fun (V : World) (hV : Below w.heap.size w V) => rof_ok l C p q c c' V (hp.below hV).cells (hq.below hV).cells (by omega) (by omega) hn
        have HI := hid fun (V : World) (hV : Below w.heap.size w V) (r : Option Addr) (k : Nat) (hr : CellsAt V r (iv l)) => ints_same l r p k c V hr (hp.below hV).cells (by omega)
        have HJ := hid fun (V : World) (hV : Below w.heap.size w V) (r : Option Addr) (k : Nat) (hr : CellsAt V r (iv C)) => ints_same C r q k c' V hr (hq.below hV).cells (by omega)
        have HL := hid (And.intro h4 h5)
        clear hp hq hn h4 h5
        go_enter Try.func4, Try.ntmps4
        go_wp2_with fail
        refine HA.out.mono ?_
        rintro e w1 ⟨b, g, h, rfl, hs, _, hb⟩
        have HS := hid hs; have HB := hid hb
        clear hs hb HA
        go_wp2_with fail
        refine (HR.out _ HB.out).mono ?_
        rintro e w2 ⟨b2, g2, k2, rfl, _, _, hb⟩
        replace HS := hid (HS.out.below hb)
        replace HB := hid (HB.out.trans (hb.mono HB.out.size))
        clear hb HR
        go_wp2_with fail
        refine (sizes_ok HS.out (by have := HL.out; omega)).mono ?_
        rintro e w3 ⟨r, k, rfl, _, hr, hb, _⟩
        replace HS := hid (HS.out.below hb)
        replace HB := hid (HB.out.trans (hb.mono HB.out.size))
        have HC := hid hr
        clear hb hr
        go_wp2_with fail
        refine (HI.out _ HB.out r k HC.out).mono ?_
        rintro e w4 ⟨rfl, n, rfl⟩
        have hb := below_drewN (Below.refl w3.heap.size w3) n
        replace HS := hid (HS.out.below hb)
        replace HB := hid (HB.out.trans (hb.mono HB.out.size))
        clear hb HC HI
        generalize w3.drewN n = w5 at *
        go_wp2_with fail
        refine (cells_ok HS.out (by have := HL.out; omega)).mono ?_
        rintro e w6 ⟨r, k, rfl, _, hr, hb, _⟩
        replace HB := hid (HB.out.trans (hb.mono HB.out.size))
        have HC := hid hr
        clear hb hr HS
        go_wp2_with fail
        refine (HJ.out _ HB.out r k HC.out).mono ?_
        rintro e w7 ⟨rfl, n, rfl⟩
        have hb := below_drewN (Below.refl w6.heap.size w6) n
        replace HB := hid (HB.out.trans (hb.mono HB.out.size))
        clear hb HC HJ
        generalize w6.drewN n = w8 at *
        go_wp2_with fail
        refine (live_any _).mono ?_
        rintro e w9 ⟨rfl, hb⟩
        replace HB := hid (HB.out.trans (hb.mono HB.out.size))
        clear hb
        go_wp2_with fail
        go_ret
        exact ⟨rfl, HB.out⟩
      · have HA := hid (of_bad l C p q c c' w hp.cells (by omega) hn)
        have HR := hid (rof_bad l C p q c c' w hp.cells (by omega) hn)
        clear hp hq hn h4 h5
        go_enter Try.func4, Try.ntmps4
        go_wp2_with fail
        refine HA.out.mono ?_
        rintro e w1 ⟨rfl, rfl⟩
        go_wp2_with fail
        refine HR.out.mono ?_
        rintro e w1 ⟨rfl, rfl⟩
        go_wp2_with fail
        refine (live_any _).mono ?_
        rintro e w9 ⟨rfl, hb⟩
        have HB := hid hb
        clear hb
        go_wp2_with fail
        go_ret
        exact ⟨rfl, HB.out⟩
    · have e2 : decide ((5000 : Int) < (C.length : Int)) = true := decide_eq_true (by omega)
      clear hp hq h4 h5
      go_enter Try.func4, Try.ntmps4
      go_wp2_with fail
      refine (live_any _).mono ?_
      rintro e w9 ⟨rfl, hb⟩
      have HB := hid hb
      clear hb
      go_wp2_with fail
      go_ret
      exact ⟨rfl, HB.out⟩
  · have e1 : decide ((20 : Int) < (l.length : Int)) = true := decide_eq_true (by omega)
    clear hp hq h4
    go_enter Try.func4, Try.ntmps4
    go_wp2_with fail
    refine (live_any _).mono ?_
    rintro e w9 ⟨rfl, hb⟩
    have HB := hid hb
    clear hb
    go_wp2_with fail
    go_ret
    exact ⟨rfl, HB.out⟩
end Go.Proofs.Ytpbidpgpehicmaa
