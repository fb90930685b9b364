/- Compare of both sides. -/
import Derived.Test.YtnmhdlincgefeaaKyBase
namespace Go.Proofs.Ytnmhdlincgefeaa.Ky
open Go.RowKit
open Go.Lib (hid)

theorem cmp_step (l m : List Nat) (k : Nat) (h : k < l.length) (h' : k < m.length) (he : cmp1 l[k] m[k] = 0) : cmp (l.drop (k + 1)) (m.drop (k + 1)) = cmp (l.drop k) (m.drop k) := by
  rw [cmp_drop l m k h h']
  unfold cmp1 at he
  split at he
  · simp at he
  · split at he
    · simp at he
    · rw [if_neg (by assumption), if_neg (by assumption)]
theorem cmp_stop (l m : List Nat) (k : Nat) (h : k < l.length) (h' : k < m.length) (he : cmp1 l[k] m[k] ≠ 0) : cmp (l.drop k) (m.drop k) = cmp1 l[k] m[k] := by
  rw [cmp_drop l m k h h']
  unfold cmp1 at he ⊢
  split
  · rfl
  · split
    · rfl
    · simp_all
set_option maxRecDepth 100000 in
set_option maxHeartbeats 1000000 in
theorem refCompare_ok (l m : List Nat) (p q : Option Addr) (c c' : Nat) (w : World) (hp : Pt w p l) (hq : Pt w q m) (hl : l.length ≤ 1000000) :
    Calls Try.prog 51 #[.slice p l.length c, .slice q m.length c'] w fun e w' => e = .returned (.int .i64 (cmp l m)) ∧ ∃ n, w' = w.drewN n := by
  have HP := hid hp; have HQ := hid hq; clear hp hq
  go_enter Try.func51, Try.ntmps51
  go_wp2_with fail
  go_loopw [5] (fun i wr => ∃ k : Nat, k ≤ l.length ∧ k ≤ m.length ∧ i = .int .i64 k ∧ cmp (l.drop k) (m.drop k) = cmp l m ∧ ∃ n, wr = w.drewN n) (fun i _ => l.length - (intOf i).toNat)
  case atStart => exact ⟨0, by omega, by omega, rfl, rfl, 0, rfl⟩
  case round =>
    obtain ⟨k, hk, hk2, rfl, hcm, n, rfl⟩ := hrel
    have HC := hid hcm; clear hcm
    by_cases hlt : k < l.length
    · by_cases hlm : k < m.length
      · obtain ⟨b1, o1, rfl, _, d1⟩ := HP.out.cells k hlt
        obtain ⟨b2, o2, rfl, _, d2⟩ := HQ.out.cells k hlm
        have e0 : decide (k < l.length) = true := by simpa using hlt
        have e1 : decide (k < m.length) = true := by simpa using hlm
        have HD := hid (cmp_drop l m k hlt hlm)
        by_cases h1 : l[k] < m[k]
        · have HM : Hid (-1 = cmp l m) := hid (by rw [← HC.out, HD.out, if_pos h1])
          clear HD
          have e2 : decide (l[k] < m[k]) = true := by simpa using h1
          clear h1
          generalize l[k] = x at d1 e2
          generalize m[k] = y at d2 e2
          go_wp2_with fail
          go_quiet (fail)
          go_wp2_with fail
          go_ret
          exact ⟨ret_int HM.out, _, World.drewN_drewN _ _ _⟩
        · have e2 : decide (l[k] < m[k]) = false := by simpa using h1
          by_cases h2 : m[k] < l[k]
          · have HM : Hid (1 = cmp l m) := hid (by rw [← HC.out, HD.out, if_neg h1, if_pos h2])
            clear HD
            have e3 : decide (m[k] < l[k]) = true := by simpa using h2
            clear h1 h2
            generalize l[k] = x at d1 e2 e3
            generalize m[k] = y at d2 e2 e3
            go_wp2_with fail
            go_quiet (fail)
            go_wp2_with fail
            go_quiet (fail)
            go_wp2_with fail
            go_ret
            exact ⟨ret_int HM.out, _, by first | exact World.drewN_drewN _ _ _ | rfl | exact (congrArg (World.drewN · _) (World.drewN_drewN _ _ _)).trans (World.drewN_drewN _ _ _)⟩
          · have HM : Hid (cmp (l.drop (k + 1)) (m.drop (k + 1)) = cmp l m) := hid (by rw [← HC.out, HD.out, if_neg h1, if_neg h2])
            clear HD
            have e3 : decide (m[k] < l[k]) = false := by simpa using h2
            clear h1 h2
            generalize l[k] = x at d1 e2 e3
            generalize m[k] = y at d2 e2 e3
            go_wp2_with fail
            go_quiet (fail)
            go_wp2_with fail
            go_quiet (fail)
            go_wp2_with fail
            go_roundw
            case rel => exact ⟨k + 1, by omega, by omega, by go_num, HM.out, _, by first | exact World.drewN_drewN _ _ _ | rfl | exact (congrArg (World.drewN · _) (World.drewN_drewN _ _ _)).trans (World.drewN_drewN _ _ _)⟩
            case measure => simp [intOf]; omega
      · have HM := hid ((cmp_left l m k hlt (by omega)).symm.trans HC.out)
        obtain rfl : k = m.length := by omega
        have e2 : decide (l.length < m.length) = false := by simp; omega
        clear hlm
        go_wp2_with fail
        go_ret
        exact ⟨ret_int HM.out, _, rfl⟩
    · obtain rfl : k = l.length := by omega
      clear hlt hk
      by_cases hlm : l.length < m.length
      · have HM := hid ((cmp_right l m _ (Nat.le_refl _) hlm).symm.trans HC.out)
        go_wp2_with fail
        go_ret
        exact ⟨ret_int HM.out, _, rfl⟩
      · have HM := hid ((cmp_end l m _ (Nat.le_refl _) (by omega)).symm.trans HC.out)
        have e1 : decide (l.length < m.length) = false := by simpa using hlm
        have e2 : decide (m.length < l.length) = false := by simp; omega
        go_wp2_with fail
        go_ret
        exact ⟨ret_int HM.out, _, rfl⟩
def sameB (l m : List Nat) : Bool := decide (l = m)
theorem same_cmp (l m : List Nat) : (cmp l m == 0) = sameB l m := by
  unfold sameB
  by_cases h : l = m
  · subst h; simp [cmp_self]
  · have : cmp l m ≠ 0 := fun e => h (cmp_zero e)
    simp [h, this]
set_option maxHeartbeats 400000 in
theorem same_ok (l m : List Nat) (p q : Option Addr) (c c' : Nat) (w : World) (hp : Pt w p l) (hq : Pt w q m) (hl : l.length ≤ 1000000) :
    Calls Try.prog 36 #[.slice p l.length c, .slice q m.length c'] w fun e w' => e = .returned (.bool (sameB l m)) ∧ ∃ n, w' = w.drewN n := by
  have HH := hid (refCompare_ok l m p q c c' w hp hq hl)
  have HE := hid (same_cmp l m)
  clear hp hq
  go_enter Try.func36, Try.ntmps36
  go_wp2_with (go_at_call 51; refine HH.out.mono ?_; rintro e w' ⟨rfl, n, rfl⟩)
  rw [HE.out]
  go_ret
  exact ⟨rfl, n, rfl⟩
end Go.Proofs.Ytnmhdlincgefeaa.Ky
