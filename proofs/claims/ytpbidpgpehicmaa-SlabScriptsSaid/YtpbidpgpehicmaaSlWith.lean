/- within of the document: is a cell in a range? -/
import Derived.Test.YtpbidpgpehicmaaSlRange
namespace Go.Proofs.Ytpbidpgpehicmaa.Sl
open Go.RowKit
open Go.Lib (hid)

/-- is a cell in a range? -/
def withB (c lo hi : List Int) : Bool := (List.range c.length).all fun j => decide (lo.getD j 0 ≤ c.getD j 0) && decide (c.getD j 0 ≤ hi.getD j 0)
set_option maxRecDepth 100000 in
set_option maxHeartbeats 2000000 in
theorem within_ok (w : World) (c lo hi : List Int) (r r1 r2 : Option Addr) (cc c1 c2 : Nat) (hc : CellsAt w r (iv c)) (hr : CellsAt w r1 (iv lo)) (hr' : CellsAt w r2 (iv hi)) (hl : c.length ≤ 1000000) (h1 : c.length = lo.length) (h2 : c.length = hi.length) :
    Calls Try.prog 39 #[.slice r c.length cc, .slice r1 lo.length c1, .slice r2 hi.length c2] w fun e w' => e = .returned (.bool (withB c lo hi)) ∧ ∃ n, w' = w.drewN n := by
  have HC := hid hc
  have HR := hid hr
  have HR' := hid hr'
  have HLEN := hid h1
  have HLEN' := hid h2
  clear hc hr hr' h1 h2
  unfold withB
  go_enter Try.func39, Try.ntmps39
  go_wp2_with fail
  go_loopw [7] (fun i wr => ∃ k : Nat, k ≤ c.length ∧ i = .int .i64 k ∧ ((List.range k).all fun j => decide (lo.getD j 0 ≤ c.getD j 0) && decide (c.getD j 0 ≤ hi.getD j 0)) = true ∧ ∃ n, wr = w.drewN n) (fun i _ => c.length - (intOf i).toNat)
  case atStart => exact ⟨0, by omega, rfl, rfl, 0, rfl⟩
  case round =>
    obtain ⟨K, hk, rfl, htk, n, rfl⟩ := hrel
    have HTK := hid htk; clear htk
    by_cases hlt : K < c.length
    · have hlo : K < lo.length := by have := HLEN.out; omega
      have hhi : K < hi.length := by have := HLEN'.out; omega
      obtain ⟨b0, o0, rfl, lt0, a0⟩ := HC.out K (by rw [iv_length]; exact hlt)
      obtain ⟨b1, o1, rfl, lt1, a1⟩ := HR.out K (by rw [iv_length]; exact hlo)
      obtain ⟨b2, o2, rfl, lt2, a2⟩ := HR'.out K (by rw [iv_length]; exact hhi)
      have d0 : w.cell? ⟨b0, o0 + K, none⟩ = some (.int .i64 c[K]) := by have := a0; simp [iv] at this; exact this
      have d1 : w.cell? ⟨b1, o1 + K, none⟩ = some (.int .i64 lo[K]) := by have := a1; simp [iv] at this; exact this
      have d2 : w.cell? ⟨b2, o2 + K, none⟩ = some (.int .i64 hi[K]) := by have := a2; simp [iv] at this; exact this
      clear a0 a1 a2
      have G0 := hid (show c.getD K 0 = c[K] by rw [List.getD_eq_getElem?_getD, List.getElem?_eq_getElem hlt]; rfl)
      have G1 := hid (show lo.getD K 0 = lo[K] by rw [List.getD_eq_getElem?_getD, List.getElem?_eq_getElem hlo]; rfl)
      have G2 := hid (show hi.getD K 0 = hi[K] by rw [List.getD_eq_getElem?_getD, List.getElem?_eq_getElem hhi]; rfl)
      generalize c[K] = x at d0 G0
      generalize lo[K] = y at d1 G1
      generalize hi[K] = z at d2 G2
      by_cases hxy : y ≤ x
      · have e1 : decide (x < y) = false := decide_eq_false (by omega)
        by_cases hxz : x ≤ z
        · have e2 : decide (z < x) = false := decide_eq_false (by omega)
          have HB := hid (And.intro hxy hxz)
          clear hxy hxz
          go_wp2_with fail
          go_quiet (fail)
          go_wp2_with fail
          go_roundw
          case rel => exact ⟨K + 1, by omega, by go_num, by rw [all_more, HTK.out, G0.out, G1.out, G2.out, decide_eq_true HB.out.1, decide_eq_true HB.out.2]; rfl, _, rfl⟩
          case measure => simp [intOf]; omega
        · have e2 : decide (z < x) = true := decide_eq_true (by omega)
          have HF := hid (all_stop c.length K (fun j => decide (lo.getD j 0 ≤ c.getD j 0) && decide (c.getD j 0 ≤ hi.getD j 0)) hlt (by show (decide (lo.getD K 0 ≤ c.getD K 0) && decide (c.getD K 0 ≤ hi.getD K 0)) = false; rw [G0.out, G1.out, G2.out, decide_eq_false hxz, Bool.and_false]))
          clear hxy hxz
          go_wp2_with fail
          go_quiet (fail)
          go_wp2_with fail
          go_ret
          exact ⟨by rw [HF.out]; rfl, _, World.drewN_drewN _ _ _⟩
      · have e1 : decide (x < y) = true := decide_eq_true (by omega)
        have HF := hid (all_stop c.length K (fun j => decide (lo.getD j 0 ≤ c.getD j 0) && decide (c.getD j 0 ≤ hi.getD j 0)) hlt (by show (decide (lo.getD K 0 ≤ c.getD K 0) && decide (c.getD K 0 ≤ hi.getD K 0)) = false; rw [G0.out, G1.out, G2.out, decide_eq_false hxy, Bool.false_and]))
        clear hxy
        go_wp2_with fail
        go_quiet (fail)
        go_wp2_with fail
        go_ret
        exact ⟨by rw [HF.out]; rfl, _, World.drewN_drewN _ _ _⟩
    · obtain rfl : K = c.length := by omega
      go_wp2_with fail
      go_ret
      exact ⟨by rw [HTK.out]; rfl, n, rfl⟩
end Go.Proofs.Ytpbidpgpehicmaa.Sl
