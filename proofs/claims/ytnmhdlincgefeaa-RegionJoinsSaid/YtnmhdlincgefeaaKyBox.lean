/- Points in boxes, boxes that may be, on both sides. -/
import Derived.Test.YtnmhdlincgefeaaKyCmp
namespace Go.Proofs.Ytnmhdlincgefeaa.Ky
open Go.RowKit
open Go.Lib (hid)

theorem leAll_step (l m : List Nat) (k : Nat) (h : k < l.length) (h' : k < m.length) (hn : ¬ m[k] < l[k]) : leAll (l.drop (k + 1)) (m.drop (k + 1)) = leAll (l.drop k) (m.drop k) := by
  rw [leAll_drop l m k h h']
  have : decide (l[k] ≤ m[k]) = true := by simpa using hn
  rw [this, Bool.true_and]
set_option maxRecDepth 100000 in
set_option maxHeartbeats 1000000 in
theorem none_ok (l m : List Nat) (p q : Option Addr) (c c' : Nat) (w : World) (hp : Pt w p l) (hq : Pt w q m) (hl : l.length ≤ 9223372036854775807) :
    Calls Try.prog 47 #[.slice p l.length c, .slice q m.length c'] w fun e w' => e = .returned (.bool (leAll l m)) ∧ w = w' := by
  have HP := hid hp; have HQ := hid hq; clear hp hq
  by_cases hlen : l.length = m.length
  · have e1 : ((l.length : Int) != (m.length : Int)) = false := by simp [hlen]
    have HLEN := hid hlen
    clear hlen
    go_enter Try.func47, Try.ntmps47
    go_wp2_with fail
    clear e1
    go_loopw [14] (fun i wr => ∃ k : Nat, k ≤ l.length ∧ i = .int .i64 k ∧ leAll (l.drop k) (m.drop k) = leAll l m ∧ wr = w) (fun i _ => l.length - (intOf i).toNat)
    case atStart => exact ⟨0, by omega, rfl, rfl, rfl⟩
    case round =>
      obtain ⟨k, hk, rfl, hcm, rfl⟩ := hrel
      have HC := hid hcm; clear hcm
      by_cases hlt : k < l.length
      · have hlm : k < m.length := by have := HLEN.out; omega
        obtain ⟨b1, o1, rfl, _, d1⟩ := HP.out.cells k hlt
        obtain ⟨b2, o2, rfl, _, d2⟩ := HQ.out.cells k hlm
        have HD := hid (leAll_drop l m k hlt hlm)
        by_cases h1 : m[k] < l[k]
        · have HM : Hid (leAll l m = false) := hid (leAll_no k hlt hlm h1)
          have e2 : decide (m[k] < l[k]) = true := by simpa using h1
          clear h1 HD
          generalize l[k] = x at d1 e2
          generalize m[k] = y at d2 e2
          go_wp2_with fail
          go_ret
          rw [HM.out]
          exact ⟨rfl, rfl⟩
        · have HM : Hid (leAll (l.drop (k + 1)) (m.drop (k + 1)) = leAll l m) := hid ((leAll_step l m k hlt hlm h1).trans HC.out)
          have e2 : decide (m[k] < l[k]) = false := by simpa using h1
          clear h1 HD
          generalize l[k] = x at d1 e2
          generalize m[k] = y at d2 e2
          go_wp2_with fail
          go_roundw
          case rel => exact ⟨k + 1, by omega, by go_num, HM.out, trivial⟩
          case measure => simp [intOf]; omega
      · obtain rfl : k = l.length := by omega
        have HM : Hid (leAll l m = true) := hid (by rw [← HC.out]; exact leAll_end l m _ (Nat.le_refl _) (by have := HLEN.out; omega))
        go_wp2_with fail
        go_ret
        rw [HM.out]
        exact ⟨rfl, rfl⟩
  · have e1 : ((l.length : Int) != (m.length : Int)) = true := by simp; omega
    have HE : Hid (leAll l m = false) := hid (leAll_ne hlen)
    clear hlen
    go_enter Try.func47, Try.ntmps47
    go_wp2_with fail
    go_ret
    rw [HE.out]
    exact ⟨rfl, rfl⟩
/-- may a box be, of d coordinates? -/
def boxB (lo hi : List Nat) (d : Int) : Bool := checkB lo.length d && leAll lo hi
set_option maxRecDepth 100000 in
set_option maxHeartbeats 1000000 in
theorem checkBox_ok (lo hi : List Nat) (q r : Option Addr) (c' c'' : Nat) (d : Int) (w : World) (hlo : Pt w q lo) (hhi : Pt w r hi) (h2 : lo.length ≤ 9223372036854775807) :
    Calls Try.prog 30 #[.agg #[.slice q lo.length c', .slice r hi.length c''], .int .i64 d] w fun e w' => e = .returned (.int .i64 (err (boxB lo hi d))) ∧ Below w.heap.size w w' := by
  obtain ⟨o, ho⟩ : ∃ o, o = Obj.cells #[Value.slice q lo.length c', .slice r hi.length c''] 43 := ⟨_, rfl⟩
  have H1 := hid (check_ok q lo.length c' d (w.alloc o))
  have H2 := hid (none_ok lo hi q r c' c'' _ (hlo.alloc o) (hhi.alloc o) h2)
  have HB := hid (below_alloc w o)
  clear hlo hhi
  subst ho
  cases e1 : checkB lo.length d with
  | false =>
    have HE : Hid (err (boxB lo hi d) = 1) := hid (by simp [boxB, e1, err])
    rw [e1] at H1
    clear e1
    go_enter Try.func30, Try.ntmps30
    go_wp2_with (go_at_call 46; refine H1.out.mono ?_; rintro e w' ⟨rfl, rfl⟩; rw [err_false false rfl])
    go_ret
    rw [HE.out]
    exact ⟨rfl, HB.out⟩
  | true =>
    have HE : Hid (err (boxB lo hi d) = err (leAll lo hi)) := hid (by simp [boxB, e1])
    rw [e1] at H1
    clear e1
    cases e2 : leAll lo hi
    all_goals
      rw [e2] at H2 HE
      clear e2
      go_enter Try.func30, Try.ntmps30
      go_wp2_with (first | (go_at_call 46; refine H1.out.mono ?_; rintro e w' ⟨rfl, rfl⟩; rw [err_true true rfl]) | (go_at_call 47; refine H2.out.mono ?_; rintro e w' ⟨rfl, rfl⟩))
      go_ret
      rw [HE.out]
      exact ⟨rfl, HB.out⟩
theorem inB_step {k lo hi : List Nat} (j : Nat) (h : j < k.length) (hl : j < lo.length) (hh : j < hi.length) (h1 : ¬ k[j] < lo[j]) (h2 : ¬ hi[j] < k[j]) :
    (leAll (lo.drop (j + 1)) (k.drop (j + 1)) && leAll (k.drop (j + 1)) (hi.drop (j + 1))) = (leAll (lo.drop j) (k.drop j) && leAll (k.drop j) (hi.drop j)) := by
  rw [leAll_step lo k j hl h h1, leAll_step k hi j h hh h2]
/-- a box of which both are known, and where it lies -/
def BoxObj (q : Option Addr) (n c : Nat) (r : Option Addr) (n' c' : Nat) : Obj := .cells #[Value.slice q n c, .slice r n' c'] 43
set_option maxRecDepth 100000 in
set_option maxHeartbeats 2000000 in
theorem refCheckBox_ok (lo hi : List Nat) (q r : Option Addr) (c' c'' : Nat) (d : Int) (w : World) (hlo : Pt w q lo) (hhi : Pt w r hi) (hl : lo.length ≤ 9223372036854775807) :
    Calls Try.prog 37 #[.agg #[.slice q lo.length c', .slice r hi.length c''], .int .i64 d] w fun e w' => e = .returned (.int .i64 (err (boxB lo hi d))) ∧ Below w.heap.size w w' := by
  have HB := hid (below_alloc w (.cells #[Value.slice q lo.length c', .slice r hi.length c''] 43))
  have HA := hid (refCheck_ok q lo.length c' d (w.alloc (.cells #[Value.slice q lo.length c', .slice r hi.length c''] 43)))
  have HC := hid (refCheck_ok r hi.length c'' d (w.alloc (.cells #[Value.slice q lo.length c', .slice r hi.length c''] 43)))
  cases g1 : checkB lo.length d with
  | false =>
    have HM : Hid (err (boxB lo hi d) = 1) := hid (by simp [boxB, g1, err])
    rw [g1] at HA
    clear g1 hlo hhi
    go_enter Try.func37, Try.ntmps37
    go_wp2_with (go_at_call 52; refine HA.out.mono ?_; rintro e w' ⟨rfl, rfl⟩; rw [err_false false rfl])
    go_ret
    rw [HM.out]
    exact ⟨rfl, HB.out⟩
  | true =>
    have hd : (lo.length : Int) = d ∧ lo.length ≤ 6 := by simp [checkB, mayB] at g1; omega
    cases g2 : checkB hi.length d with
    | false =>
      have HM : Hid (err (boxB lo hi d) = 1) := hid (by
        have : lo.length ≠ hi.length := by
          intro e; rw [e] at g1; rw [g1] at g2; simp at g2
        simp [boxB, leAll_ne this, err])
      rw [g1] at HA; rw [g2] at HC
      clear g1 g2 hlo hhi hd
      go_enter Try.func37, Try.ntmps37
      go_wp2_with (go_at_call 52; first | ((with_reducible refine HA.out.mono ?_); rintro e w1 ⟨rfl, rfl⟩; rw [err_true true rfl]) | ((with_reducible refine HC.out.mono ?_); rintro e w1 ⟨rfl, rfl⟩; rw [err_false false rfl]))
      go_ret
      rw [HM.out]
      exact ⟨rfl, HB.out⟩
    | true =>
      have hd2 : (hi.length : Int) = d := by simp [checkB, mayB] at g2; omega
      have HM : Hid (boxB lo hi d = leAll lo hi) := hid (by simp [boxB, g1])
      rw [g1] at HA; rw [g2] at HC
      have HG : Hid (lo.length = hi.length ∧ lo.length ≤ 6) := hid (by omega)
      obtain ⟨hd, _⟩ := hd
      subst hd
      have HQA := hid (hlo.alloc (.cells #[Value.slice q lo.length c', .slice r hi.length c''] 43))
      have HRA := hid (hhi.alloc (.cells #[Value.slice q lo.length c', .slice r hi.length c''] 43))
      have HC0 : Hid ((w.alloc (.cells #[Value.slice q lo.length c', .slice r hi.length c''] 43)).cell? ⟨w.heap.size, 0, none⟩ = some (.slice q lo.length c')) := hid (by simp)
      have HC1 : Hid ((w.alloc (.cells #[Value.slice q lo.length c', .slice r hi.length c''] 43)).cell? ⟨w.heap.size, 1, none⟩ = some (.slice r hi.length c'')) := hid (by simp)
      clear g1 g2 hlo hhi hd2
      go_enter Try.func37, Try.ntmps37
      go_wp2_with (go_at_call 52; first | ((with_reducible refine HA.out.mono ?_); rintro e w1 ⟨rfl, rfl⟩; rw [err_true true rfl]) | ((with_reducible refine HC.out.mono ?_); rintro e w1 ⟨rfl, rfl⟩; rw [err_true true rfl]))
      clear HA HC
      go_loopw [5] (fun i wr => ∃ j : Nat, j ≤ lo.length ∧ i = .int .i64 j ∧ leAll (lo.drop j) (hi.drop j) = leAll lo hi ∧ ∃ n, wr = (w.alloc (.cells #[Value.slice q lo.length c', .slice r hi.length c''] 43)).drewN n) (fun i _ => lo.length - (intOf i).toNat)
      case atStart => exact ⟨0, by omega, rfl, rfl, 0, rfl⟩
      case round =>
        obtain ⟨j, hj, rfl, hcm, n, rfl⟩ := hrel
        have HS := hid hcm; clear hcm
        generalize hW : w.alloc (.cells #[Value.slice q lo.length c', .slice r hi.length c''] 43) = W at HQA HRA HC0 HC1 HB
        clear hW
        have hc0 := HC0.out
        have hc1 := HC1.out
        by_cases hlt : j < lo.length
        · have hh : j < hi.length := by have := HG.out.1; omega
          obtain ⟨b2, o2, rfl, _, d2⟩ := HQA.out.cells j hlt
          obtain ⟨b3, o3, rfl, _, d3⟩ := HRA.out.cells j hh
          by_cases h3 : hi[j] < lo[j]
          · have HE : Hid (err (boxB lo hi (lo.length : Int)) = 1) := hid (by rw [HM.out, leAll_no j hlt hh h3]; rfl)
            have e3 : decide (hi[j] < lo[j]) = true := by simpa using h3
            clear h3
            generalize lo[j] = y at d2 e3
            generalize hi[j] = z at d3 e3
            go_wp2_with fail
            go_quiet (fail)
            go_wp2_with fail
            go_ret
            rw [HE.out]
            exact ⟨rfl, by first | exact below_drewN HB.out _ | exact below_drewN (below_drewN HB.out _) _⟩
          · have e3 : decide (hi[j] < lo[j]) = false := by simpa using h3
            have HE := hid ((leAll_step lo hi j hlt hh h3).trans HS.out)
            clear h3
            generalize lo[j] = y at d2 e3
            generalize hi[j] = z at d3 e3
            go_wp2_with fail
            go_quiet (fail)
            go_wp2_with fail
            go_roundw
            case rel => exact ⟨j + 1, by omega, by go_num, HE.out, _, by first | exact World.drewN_drewN _ _ _ | rfl⟩
            case measure => simp [intOf]; omega
        · obtain rfl : j = lo.length := by omega
          have HE : Hid (err (boxB lo hi (lo.length : Int)) = 0) := hid (by rw [HM.out, ← HS.out, leAll_end lo hi _ (Nat.le_refl _) (by have := HG.out.1; omega)]; rfl)
          go_wp2_with fail
          go_ret
          rw [HE.out]
          exact ⟨rfl, by first | exact below_drewN HB.out _ | exact below_drewN (below_drewN HB.out _) _⟩
def sameBoxB (al ah bl bh : List Nat) : Bool := sameB al bl && sameB ah bh
set_option maxRecDepth 100000 in
set_option maxHeartbeats 2000000 in
theorem sameBox_ok (al ah bl bh : List Nat) (p q r s : Option Addr) (c1 c2 c3 c4 : Nat) (w : World) (h1 : Pt w p al) (h2 : Pt w q ah) (h3 : Pt w r bl) (h4 : Pt w s bh) (g1 : al.length ≤ 1000000) (g2 : ah.length ≤ 1000000) :
    Calls Try.prog 19 #[.agg #[.slice p al.length c1, .slice q ah.length c2], .agg #[.slice r bl.length c3, .slice s bh.length c4]] w fun e w' => e = .returned (.bool (sameBoxB al ah bl bh)) ∧ Below w.heap.size w w' := by
  have HW := hid ((below_alloc w (.cells #[Value.slice p al.length c1, .slice q ah.length c2] 43)).alloc (below_alloc w (.cells #[Value.slice p al.length c1, .slice q ah.length c2] 43)).size (.cells #[Value.slice r bl.length c3, .slice s bh.length c4] 43))
  have HA := hid (same_ok al bl p r c1 c3 _ (h1.below HW.out) (h3.below HW.out) g1)
  have HC := hid fun n => (same_ok ah bh q s c2 c4 _ ((h2.below HW.out).drewN n) ((h4.below HW.out).drewN n) g2)
  clear h1 h2 h3 h4 g1 g2
  cases e : sameB al bl with
  | false =>
    have HM : Hid (sameBoxB al ah bl bh = false) := hid (by simp [sameBoxB, e])
    rw [e] at HA; clear e
    go_enter Try.func19, Try.ntmps19
    go_wp2_with (go_at_call 36; refine HA.out.mono ?_; rintro e w1 ⟨rfl, n, rfl⟩)
    go_ret
    rw [HM.out]
    exact ⟨rfl, below_drewN HW.out _⟩
  | true =>
    have HM : Hid (sameBoxB al ah bl bh = sameB ah bh) := hid (by simp [sameBoxB, e])
    rw [e] at HA; clear e
    generalize sameB ah bh = b at HM HC
    go_enter Try.func19, Try.ntmps19
    go_wp2_with (go_at_call 36; first | ((with_reducible refine HA.out.mono ?_); rintro e w1 ⟨rfl, n, rfl⟩) | ((with_reducible refine (HC.out _).mono ?_); rintro e w1 ⟨rfl, n2, rfl⟩))
    go_ret
    rw [HM.out]
    exact ⟨rfl, below_drewN HW.out _⟩
end Go.Proofs.Ytnmhdlincgefeaa.Ky
