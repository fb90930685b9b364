/- hasRange of slab: are two cells a range? -/
import Derived.Test.YtnmhdlincgefeaaSlBase
namespace Go.Proofs.Ytnmhdlincgefeaa.Sl
open Go.RowKit
open Go.Lib (hid)

/-- are two cells a range? -/
def rangeB (S l h : List Int) : Bool := cellB S l && cellB S h && (List.range l.length).all fun j => decide (l.getD j 0 ≤ h.getD j 0)
theorem cellB_len {S c : List Int} (h : cellB S c = true) : c.length = S.length := by
  unfold cellB at h; simp only [Bool.and_eq_true, decide_eq_true_eq] at h; exact h.1.1
set_option maxRecDepth 100000 in
set_option maxHeartbeats 2000000 in
theorem range_ok (b : Nat) (p q : Option Addr) (k m : Nat) (S C : List Int) (w : World) (h : Sb w b p q k m S C) (lo hi : List Int) (r r' : Option Addr) (cc cc' : Nat) (hr : CellsAt w r (iv lo)) (hr' : CellsAt w r' (iv hi)) (hl : lo.length ≤ 1000000) (hl' : hi.length ≤ 1000000) :
    Calls Try.prog 38 #[.pointer (some ⟨b, 0, none⟩), .slice r lo.length cc, .slice r' hi.length cc'] w fun e w' => e = .returned (.bool (rangeB S lo hi)) ∧ ∃ n, w' = w.drewN n := by
  have HL := hid (cell_ok b p q k m S C w h lo r cc hr hl)
  have HH := hid fun (n : Nat) => cell_ok b p q k m S C (w.drewN n) (h.drewN n) hi r' cc' (hr'.drewN n) hl'
  have HR := hid hr
  have HR' := hid hr'
  clear h hr hr'
  cases h1 : cellB S lo with
  | false =>
    rw [h1] at HL
    have HE : Hid (rangeB S lo hi = false) := hid (by unfold rangeB; rw [h1]; rfl)
    clear h1
    go_enter Try.func38, Try.ntmps38
    go_wp2_with fail
    refine HL.out.mono ?_
    rintro e w1 ⟨rfl, n1, rfl⟩
    go_wp2_with fail
    go_ret
    exact ⟨by rw [HE.out]; rfl, _, rfl⟩
  | true =>
    rw [h1] at HL
    cases h2 : cellB S hi with
    | false =>
      rw [h2] at HH
      have HE : Hid (rangeB S lo hi = false) := hid (by unfold rangeB; rw [h1, h2]; rfl)
      clear h1 h2
      go_enter Try.func38, Try.ntmps38
      go_wp2_with fail
      refine HL.out.mono ?_
      rintro e w1 ⟨rfl, n1, rfl⟩
      go_wp2_with fail
      refine (HH.out n1).mono ?_
      rintro e w1 ⟨rfl, n2, rfl⟩
      go_wp2_with fail
      go_ret
      exact ⟨by rw [HE.out]; rfl, _, rfl⟩
    | true =>
      rw [h2] at HH
      have HE : Hid (rangeB S lo hi = (List.range lo.length).all fun j => decide (lo.getD j 0 ≤ hi.getD j 0)) := hid (by unfold rangeB; rw [h1, h2]; simp)
      have HLEN := hid ((cellB_len h1).trans (cellB_len h2).symm)
      clear h1 h2
      go_enter Try.func38, Try.ntmps38
      go_wp2_with fail
      refine HL.out.mono ?_
      rintro e w1 ⟨rfl, n1, rfl⟩
      go_wp2_with fail
      refine (HH.out n1).mono ?_
      rintro e w1 ⟨rfl, n2, rfl⟩
      go_wp2_with fail
      go_loopw [21] (fun i wr => ∃ k : Nat, k ≤ lo.length ∧ i = .int .i64 k ∧ ((List.range k).all fun j => decide (lo.getD j 0 ≤ hi.getD j 0)) = true ∧ ∃ n, wr = w.drewN n) (fun i _ => lo.length - (intOf i).toNat)
      case atStart => exact ⟨0, by omega, rfl, rfl, _, rfl⟩
      case round =>
        obtain ⟨K, hk, rfl, htk, n, rfl⟩ := hrel
        have HTK := hid htk; clear htk
        by_cases hlt : K < lo.length
        · have hlm : K < hi.length := by have := HLEN.out; omega
          obtain ⟨b1, o1, rfl, lt1, c1⟩ := HR.out K (by rw [iv_length]; exact hlt)
          obtain ⟨b2, o2, rfl, lt2, c2⟩ := HR'.out K (by rw [iv_length]; exact hlm)
          have d1 : w.cell? ⟨b1, o1 + K, none⟩ = some (.int .i64 lo[K]) := by have := c1; simp [iv] at this; exact this
          have d2 : w.cell? ⟨b2, o2 + K, none⟩ = some (.int .i64 hi[K]) := by have := c2; simp [iv] at this; exact this
          clear c1 c2
          have HG := hid (show lo.getD K 0 = lo[K] by rw [List.getD_eq_getElem?_getD, List.getElem?_eq_getElem hlt]; rfl)
          have HG' := hid (show hi.getD K 0 = hi[K] by rw [List.getD_eq_getElem?_getD, List.getElem?_eq_getElem hlm]; rfl)
          generalize lo[K] = y at d1 HG
          generalize hi[K] = z at d2 HG'
          by_cases hyz : y ≤ z
          · have HB := hid hyz
            have e1 : decide (z < y) = false := decide_eq_false (by omega)
            clear hyz
            go_wp2_with fail
            go_roundw
            case rel => exact ⟨K + 1, by omega, by go_num, by rw [all_more, HTK.out, HG.out, HG'.out, decide_eq_true HB.out]; rfl, _, rfl⟩
            case measure => simp [intOf]; omega
          · have e1 : decide (z < y) = true := decide_eq_true (by omega)
            have HF := hid (all_stop lo.length K (fun j => decide (lo.getD j 0 ≤ hi.getD j 0)) hlt (by show decide (lo.getD K 0 ≤ hi.getD K 0) = false; rw [HG.out, HG'.out]; exact decide_eq_false hyz))
            clear hyz
            go_wp2_with fail
            go_ret
            exact ⟨by rw [HE.out, HF.out]; rfl, _, rfl⟩
        · obtain rfl : K = lo.length := by omega
          go_wp2_with fail
          go_ret
          exact ⟨by rw [HE.out, HTK.out]; rfl, n, rfl⟩
end Go.Proofs.Ytnmhdlincgefeaa.Sl
