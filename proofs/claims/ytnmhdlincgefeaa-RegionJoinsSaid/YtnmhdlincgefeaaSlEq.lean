/- Ints of the reference, and Equal of slices: are two lists of numbers the same? -/
import Derived.Test.YtnmhdlincgefeaaSlRow
namespace Go.Proofs.Ytnmhdlincgefeaa.Sl
open Go.RowKit
open Go.Lib (hid)

theorem take_more_eq {α : Type} (l m : List α) (k : Nat) (hl : k < l.length) (hm : k < m.length) (h : l.take k = m.take k) (he : l[k] = m[k]) : l.take (k + 1) = m.take (k + 1) := by
  rw [List.take_succ_eq_append_getElem hl, List.take_succ_eq_append_getElem hm, h, he]
theorem take_stop_ne {α : Type} (l m : List α) (k : Nat) (hl : k < l.length) (hm : k < m.length) (he : l[k] ≠ m[k]) : l ≠ m := by
  intro e; subst e; exact he rfl

set_option maxRecDepth 100000 in
set_option maxHeartbeats 1000000 in
theorem ints_ok (l m : List Int) (p q : Option Addr) (c c' : Nat) (w : World) (hp : CellsAt w p (iv l)) (hq : CellsAt w q (iv m)) (hl : l.length ≤ 1000000) :
    Calls Try.prog 15 #[.slice p l.length c, .slice q m.length c'] w fun e w' => e = .returned (.bool (decide (l = m))) ∧ ∃ n, w' = w.drewN n := by
  have HP := hid hp; have HQ := hid hq; clear hp hq
  by_cases hlen : l.length = m.length
  · have e1 : ((l.length : Int) != (m.length : Int)) = false := by simp [hlen]
    have HLEN := hid hlen
    clear hlen
    go_enter Try.func15, Try.ntmps15
    go_wp2_with fail
    clear e1
    go_loopw [5] (fun i wr => ∃ k : Nat, k ≤ l.length ∧ i = .int .i64 k ∧ l.take k = m.take k ∧ ∃ n, wr = w.drewN n) (fun i _ => l.length - (intOf i).toNat)
    case atStart => exact ⟨0, by omega, rfl, rfl, 0, rfl⟩
    case round =>
      obtain ⟨k, hk, rfl, htk, n, rfl⟩ := hrel
      have HTK := hid htk; clear htk
      by_cases hlt : k < l.length
      · have hlm : k < m.length := by have := HLEN.out; omega
        obtain ⟨b1, o1, rfl, -, c1⟩ := HP.out k (by rw [iv_length]; exact hlt)
        obtain ⟨b2, o2, rfl, -, c2⟩ := HQ.out k (by rw [iv_length]; exact hlm)
        have d1 : w.cell? ⟨b1, o1 + k, none⟩ = some (.int .i64 l[k]) := by have := c1; simp [iv] at this; exact this
        have d2 : w.cell? ⟨b2, o2 + k, none⟩ = some (.int .i64 m[k]) := by have := c2; simp [iv] at this; exact this
        clear c1 c2
        by_cases he : l[k] = m[k]
        · have HM := hid (take_more_eq l m k hlt hlm HTK.out he)
          rw [he] at d1
          generalize m[k] = t at d1 d2
          clear he
          go_wp2_with fail
          go_quiet (fail)
          go_wp2_with fail
          go_roundw
          case rel => exact ⟨k + 1, by omega, by go_num, HM.out, _, rfl⟩
          case measure => simp [intOf]; omega
        · have HN : Hid (decide (l = m) = false) := hid (by simpa using take_stop_ne l m k hlt hlm he)
          generalize l[k] = t at d1 he
          generalize m[k] = u at d2 he
          have e2 : (t == u) = false := by simpa using he
          clear he
          go_wp2_with fail
          go_quiet (fail)
          go_wp2_with fail
          go_ret
          rw [HN.out]
          exact ⟨rfl, _, World.drewN_drewN _ _ _⟩
      · obtain rfl : k = l.length := by omega
        have HE : Hid (decide (l = m) = true) := hid (by
          have := HTK.out
          rw [List.take_length, HLEN.out, List.take_length] at this
          simpa using this)
        go_wp2_with fail
        go_ret
        rw [HE.out]
        exact ⟨rfl, n, rfl⟩
  · have e1 : ((l.length : Int) != (m.length : Int)) = true := by simp; omega
    have HE : Hid (decide (l = m) = false) := hid (by simp; intro e; exact hlen (by rw [e]))
    clear hlen
    go_enter Try.func15, Try.ntmps15
    go_wp2_with fail
    go_ret
    rw [HE.out]
    exact ⟨rfl, 0, rfl⟩
end Go.Proofs.Ytnmhdlincgefeaa.Sl
