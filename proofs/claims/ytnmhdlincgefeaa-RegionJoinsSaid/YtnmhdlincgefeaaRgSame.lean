/- Equal of slices over points; same of region. -/
import Derived.Test.YtnmhdlincgefeaaKyBox
import Derived.Test.YtnmhdlincgefeaaSlEq
namespace Go.Proofs.Ytnmhdlincgefeaa.Rg
open Go.RowKit
open Go.Lib (hid)
open Go.Proofs.Ytnmhdlincgefeaa.Ky
open Go.Proofs.Ytnmhdlincgefeaa.Sl (take_more_eq take_stop_ne)

set_option maxRecDepth 100000 in
set_option maxHeartbeats 1000000 in
theorem equalK_ok (l m : List Nat) (p q : Option Addr) (c c' : Nat) (w : World) (hp : Pt w p l) (hq : Pt w q m) (hl : l.length ≤ 1000000) :
    Calls Try.prog 50 #[.slice p l.length c, .slice q m.length c'] w fun e w' => e = .returned (.bool (decide (l = m))) ∧ ∃ n, w' = w.drewN n := by
  have HP := hid hp; have HQ := hid hq; clear hp hq
  by_cases hlen : l.length = m.length
  · have e1 : ((l.length : Int) != (m.length : Int)) = false := by simp [hlen]
    have HLEN := hid hlen
    clear hlen
    go_enter Try.func50, Try.ntmps50
    go_wp2_with fail
    clear e1
    go_loopw [13] (fun i wr => ∃ k : Nat, k ≤ l.length ∧ i = .int .i64 k ∧ l.take k = m.take k ∧ ∃ n, wr = w.drewN n) (fun i _ => l.length - (intOf i).toNat)
    case atStart => exact ⟨0, by omega, rfl, rfl, 0, rfl⟩
    case round =>
      obtain ⟨k, hk, rfl, htk, n, rfl⟩ := hrel
      have HTK := hid htk; clear htk
      by_cases hlt : k < l.length
      · have hlm : k < m.length := by have := HLEN.out; omega
        obtain ⟨b1, o1, rfl, -, c1⟩ := HP.out.cells k hlt
        obtain ⟨b2, o2, rfl, -, c2⟩ := HQ.out.cells k hlm
        have d1 : w.cell? ⟨b1, o1 + k, none⟩ = some (.int .u32 ((l[k] : Nat) : Int)) := c1
        have d2 : w.cell? ⟨b2, o2 + k, none⟩ = some (.int .u32 ((m[k] : Nat) : Int)) := c2
        clear c1 c2
        by_cases he : l[k] = m[k]
        · have HM := hid (take_more_eq l m k hlt hlm HTK.out he)
          rw [he] at d1
          generalize m[k] = t at d1 d2
          clear he
          go_wp2_with fail
          go_quiet (fail)
          go_wp2_with fail
          go_roundw
          case rel => exact ⟨k + 1, by omega, by go_num, HM.out, _, rfl⟩
          case measure => simp [intOf]; omega
        · have HN : Hid (decide (l = m) = false) := hid (by simpa using take_stop_ne l m k hlt hlm he)
          generalize l[k] = t at d1 he
          generalize m[k] = u at d2 he
          have e2 : ((t : Int) == (u : Int)) = false := by simp; omega
          have e3 : (t == u) = false := by simpa using he
          clear he
          go_wp2_with fail
          go_quiet (fail)
          go_wp2_with fail
          go_ret
          rw [HN.out]
          exact ⟨rfl, _, World.drewN_drewN _ _ _⟩
      · obtain rfl : k = l.length := by omega
        have HE : Hid (decide (l = m) = true) := hid (by
          have := HTK.out
          rw [List.take_length, HLEN.out, List.take_length] at this
          simpa using this)
        go_wp2_with fail
        go_ret
        rw [HE.out]
        exact ⟨rfl, n, rfl⟩
  · have e1 : ((l.length : Int) != (m.length : Int)) = true := by simp; omega
    have HE : Hid (decide (l = m) = false) := hid (by simp; intro e; exact hlen (by rw [e]))
    clear hlen
    go_enter Try.func50, Try.ntmps50
    go_wp2_with fail
    go_ret
    rw [HE.out]
    exact ⟨rfl, 0, rfl⟩
set_option maxRecDepth 100000 in
set_option maxHeartbeats 2000000 in
theorem sameC_ok (al ah bl bh : List Nat) (p q r s : Option Addr) (c1 c2 c3 c4 : Nat) (w : World) (h1 : Pt w p al) (h2 : Pt w q ah) (h3 : Pt w r bl) (h4 : Pt w s bh) (g1 : al.length ≤ 1000000) (g2 : ah.length ≤ 1000000) :
    Calls Try.prog 34 #[.agg #[.slice p al.length c1, .slice q ah.length c2], .agg #[.slice r bl.length c3, .slice s bh.length c4]] w fun e w' => e = .returned (.bool (sameBoxB al ah bl bh)) ∧ Below w.heap.size w w' := by
  have HW := hid ((below_alloc w (.cells #[Value.slice p al.length c1, .slice q ah.length c2] 43)).alloc (below_alloc w (.cells #[Value.slice p al.length c1, .slice q ah.length c2] 43)).size (.cells #[Value.slice r bl.length c3, .slice s bh.length c4] 43))
  have HA := hid (show Calls Try.prog 50 #[.slice p al.length c1, .slice r bl.length c3] _ (fun e w' => e = .returned (.bool (sameB al bl)) ∧ ∃ n, w' = World.drewN _ n) from equalK_ok al bl p r c1 c3 _ (h1.below HW.out) (h3.below HW.out) g1)
  have HC := hid fun n => (show Calls Try.prog 50 #[.slice q ah.length c2, .slice s bh.length c4] _ (fun e w' => e = .returned (.bool (sameB ah bh)) ∧ ∃ n, w' = World.drewN _ n) from equalK_ok ah bh q s c2 c4 _ ((h2.below HW.out).drewN n) ((h4.below HW.out).drewN n) g2)
  clear h1 h2 h3 h4 g1 g2
  cases e : sameB al bl with
  | false =>
    have HM : Hid (sameBoxB al ah bl bh = false) := hid (by simp [sameBoxB, e])
    rw [e] at HA; clear e
    go_enter Try.func34, Try.ntmps34
    go_wp2_with (go_at_call 50; refine HA.out.mono ?_; rintro e w1 ⟨rfl, n, rfl⟩)
    go_ret
    rw [HM.out]
    exact ⟨rfl, below_drewN HW.out _⟩
  | true =>
    have HM : Hid (sameBoxB al ah bl bh = sameB ah bh) := hid (by simp [sameBoxB, e])
    rw [e] at HA; clear e
    generalize sameB ah bh = b at HM HC
    go_enter Try.func34, Try.ntmps34
    go_wp2_with (go_at_call 50; first | ((with_reducible refine HA.out.mono ?_); rintro e w1 ⟨rfl, n, rfl⟩) | ((with_reducible refine (HC.out _).mono ?_); rintro e w1 ⟨rfl, n2, rfl⟩))
    go_ret
    rw [HM.out]
    exact ⟨rfl, below_drewN HW.out _⟩
end Go.Proofs.Ytnmhdlincgefeaa.Rg
