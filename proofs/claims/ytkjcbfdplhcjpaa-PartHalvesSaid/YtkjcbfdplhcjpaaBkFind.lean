/- Search of sort, Find of both sides. -/
import Derived.Test.YtkjcbfdplhcjpaaBkList
namespace Go.Proofs.Ytkjcbfdplhcjpaa.Bk
open Go.RowKit
open Go.Lib (hid)
open Go.Proofs.Ytkjcbfdplhcjpaa.Ky

set_option maxRecDepth 100000 in
set_option maxHeartbeats 1000000 in
theorem search_ok (n : Nat) (p : Nat → Bool) (x y : Value) (w : World) (hn : n ≤ 1000000)
    (hf : ∀ (m i : Nat), i < n → Calls Try.prog 104 #[.int .i64 (i : Int), x, y] (w.drewN m) fun e w' => e = .returned (.bool (p i)) ∧ ∃ q, w' = (w.drewN m).drewN q)
    (hm : ∀ a b, a ≤ b → b < n → p a = true → p b = true) :
    Calls Try.prog 91 #[.int .i64 (n : Int), .func (.func 104) #[] #[x, y]] w fun e w' => ∃ r : Nat, e = .returned (.int .i64 (r : Int)) ∧ r ≤ n ∧ ((∀ t, t < r → p t = false) ∧ ∀ t, r ≤ t → t < n → p t = true) ∧ ∃ q, w' = w.drewN q := by
  have HF := hid hf; have M := hid hm; clear hf hm
  go_enter Try.func91, Try.ntmps91
  go_wp2_with fail
  go_loopw [5, 6] (fun s5 s6 wr => ∃ lo hi q : Nat, s5 = .int .i64 lo ∧ s6 = .int .i64 hi ∧ lo ≤ hi ∧ hi ≤ n ∧ wr = w.drewN q ∧ Hid ((∀ t, t < lo → p t = false) ∧ ∀ t, hi ≤ t → t < n → p t = true)) (fun s5 s6 _ => (intOf s6).toNat - (intOf s5).toNat)
  case atStart => exact ⟨0, n, 0, rfl, rfl, by omega, by omega, rfl, hid ⟨fun t h => absurd h (by omega), fun t h h' => absurd h (by omega)⟩⟩
  case round =>
    obtain ⟨lo, hi, q, rfl, rfl, hlh, hin, hwr, I⟩ := hrel
    have HW := hid hwr; clear hwr
    by_cases hlt : lo < hi
    · have hc := HF.out q ((lo + hi) / 2) (by omega)
      rw [← HW.out, show (((lo + hi) / 2 : Nat) : Int) = ((lo : Int) + (hi : Int)) / 2 by omega] at hc
      have HC := hid hc
      clear hc
      cases hp : p ((lo + hi) / 2) with
      | false =>
        rw [hp] at HC
        have HN : Hid ((∀ t, t < (lo + hi) / 2 + 1 → p t = false) ∧ ∀ t, hi ≤ t → t < n → p t = true) := hid ⟨fun t ht => (by
          cases h : p t with
          | false => rfl
          | true =>
            have := M.out t ((lo + hi) / 2) (by omega) (by omega) h
            rw [hp] at this
            cases this), I.out.2⟩
        clear hp I
        go_wp2_with (go_at_call 104; refine HC.out.mono ?_; rintro e w' ⟨rfl, nq, hw'⟩; have HW2 := hid (show w' = w.drewN (q + nq) by rw [hw', HW.out, World.drewN_drewN]); clear hw')
        go_roundw
        case rel => exact ⟨(lo + hi) / 2 + 1, hi, q + nq, by rw [show ((lo : Int) + (hi : Int)) / 2 + 1 = (((lo + hi) / 2 + 1 : Nat) : Int) by omega], rfl, by omega, hin, HW2.out, HN⟩
        case measure => simp [intOf]; omega
      | true =>
        rw [hp] at HC
        have HN : Hid ((∀ t, t < lo → p t = false) ∧ ∀ t, (lo + hi) / 2 ≤ t → t < n → p t = true) := hid ⟨I.out.1, fun t ht htn => M.out ((lo + hi) / 2) t ht htn hp⟩
        clear hp I
        go_wp2_with (go_at_call 104; refine HC.out.mono ?_; rintro e w' ⟨rfl, nq, hw'⟩; have HW2 := hid (show w' = w.drewN (q + nq) by rw [hw', HW.out, World.drewN_drewN]); clear hw')
        go_roundw
        case rel => exact ⟨lo, (lo + hi) / 2, q + nq, rfl, by rw [show ((lo : Int) + (hi : Int)) / 2 = (((lo + hi) / 2 : Nat) : Int) by omega], by omega, by omega, HW2.out, HN⟩
        case measure => simp [intOf]; omega
    · obtain rfl : hi = lo := by omega
      go_wp2_with fail
      go_ret
      exact ⟨hi, rfl, hin, I.out, q, HW.out⟩
set_option maxRecDepth 100000 in
set_option maxHeartbeats 1000000 in
/-- the closure: a list and a point in their boxes -/
theorem findcl_ok {D : Nat → Prop} (L : List Rec) (k : List Nat) (p q : Option Addr) (c c' A B i : Nat) (w : World) (hp : Rs D w p L) (hq : Pt w q k) (hl : bigR L) (hi : i < L.length)
    (hA : w.cell? ⟨A, 0, none⟩ = some (.slice p L.length c)) (hB : w.cell? ⟨B, 0, none⟩ = some (.slice q k.length c')) :
    Calls Try.prog 104 #[.int .i64 (i : Int), .pointer (some ⟨A, 0, none⟩), .pointer (some ⟨B, 0, none⟩)] w fun e w' => e = .returned (.bool (decide (0 ≤ cmp L[i].1 k))) ∧ ∃ m, w' = w.drewN m := by
  obtain ⟨b, off, q1, c1, rfl, _, d1, _, hp1⟩ := hp.at i hi
  have hb := hl.2 _ (List.getElem_mem hi)
  have HS := hid fun (m : Nat) => compare_ok L[i].1 k q1 q c1 c' (w.drewN m) (hp1.pt.drewN m) (hq.drewN m) (by omega)
  have hlen := hl.1
  clear hp hq hb hp1 hl
  generalize L[i].1.length = x at d1 HS
  generalize cmp L[i].1 k = r at HS
  go_enter Try.func104, Try.ntmps104
  go_wp2_with fail
  go_quiet ((go_at_call 89; exact quiet_eq (HS.out _)))
  go_wp2_with fail
  go_ret
  exact ⟨rfl, _, rfl⟩
theorem ret_two {a a' : Nat} {b b' : Bool} (h1 : a = a') (h2 : b' = b) : Ending.returned (.tuple #[.int .i64 (a : Int), .bool b]) = .returned (.tuple #[.int .i64 (a' : Int), .bool b']) := by rw [h1, h2]
theorem less_of {L : List Rec} {k : List Nat} {r : Nat} (hr : r ≤ L.length) (h1 : ∀ t, (h : t < L.length) → t < r → cmp L[t].1 k < 0) (h2 : ∀ t, (h : t < L.length) → r ≤ t → ¬ cmp L[t].1 k < 0) : r = lessN L k :=
  (lessN_at r hr (fun i h hi => h1 i h hi) (fun h => h2 r h (Nat.le_refl _))).symm
theorem has_at {L : List Rec} {k : List Nat} (h : lessN L k < L.length) : hasN L k = (cmp L[lessN L k].1 k == 0) := by
  unfold hasN; rw [List.getElem?_eq_getElem h]
theorem has_none {L : List Rec} {k : List Nat} (h : ¬ lessN L k < L.length) : hasN L k = false := by
  unfold hasN; rw [List.getElem?_eq_none (by omega)]
set_option maxRecDepth 100000 in
set_option maxHeartbeats 2000000 in
theorem find_ok {D : Nat → Prop} (L : List Rec) (k : List Nat) (p q : Option Addr) (c c' : Nat) (w : World) (hp : Rs D w p L) (hq : Pt w q k) (hl : bigR L) (hu : upL L) :
    Calls Try.prog 75 #[.slice p L.length c, .slice q k.length c'] w fun e w' => e = .returned (.tuple #[.int .i64 (lessN L k : Int), .bool (hasN L k)]) ∧ Below w.heap.size w w' := by
  obtain ⟨oa, hoa⟩ : ∃ o, o = Obj.cells #[Value.slice p L.length c] 40 := ⟨_, rfl⟩
  obtain ⟨ob, hob⟩ : ∃ o, o = Obj.cells #[Value.slice q k.length c'] 31 := ⟨_, rfl⟩
  obtain ⟨W, hW⟩ : ∃ W, W = (w.alloc oa).alloc ob := ⟨_, rfl⟩
  have hB0 : Below w.heap.size w W := by rw [hW]; exact (below_alloc w oa).alloc (below_alloc w oa).size ob
  have hA : W.cell? ⟨w.heap.size, 0, none⟩ = some (.slice p L.length c) := by rw [hW, cell_of_row _ _ _ _ _ _ ((two_new w oa ob).1.trans (by rw [hoa]))]; rfl
  have hB : W.cell? ⟨w.heap.size + 1, 0, none⟩ = some (.slice q k.length c') := by rw [hW, cell_of_row _ _ _ _ _ _ ((two_new w oa ob).2.1.trans (by rw [hob]))]; rfl
  have hPW := hp.below hB0
  have hQW := hq.below hB0
  have HSE := hid (search_ok L.length (fun i => if h : i < L.length then decide (0 ≤ cmp L[i].1 k) else true) (.pointer (some ⟨w.heap.size, 0, none⟩)) (.pointer (some ⟨w.heap.size + 1, 0, none⟩)) W (by have := hl.1; omega)
    (fun m i hi => by
      simp only [dif_pos hi]
      exact findcl_ok L k p q c c' _ _ i (W.drewN m) (hPW.drewN m) (hQW.drewN m) hl hi hA hB)
    (fun a b hab hb ha => by
      have hal : a < L.length := by omega
      simp only [dif_pos hb, dif_pos hal, decide_eq_true_eq] at ha ⊢
      by_cases e : a = b
      · subst e; exact ha
      · have h1 := List.pairwise_iff_getElem.1 hu a b hal hb (by omega)
        have h2 := cmp_flip k L[a].1
        have h3 := cmp_flip k L[b].1
        have := cmp_le_lt (a := k) (b := L[a].1) (c := L[b].1) (by omega) h1
        omega))
  have HB0 := hid hB0
  have HA := hid hA
  have HBB := hid hB
  have HPW := hid hPW
  have HQW := hid hQW
  have HL := hid hl
  have hlen := hl.1
  clear hp hq hl hu hB0 hA hB hPW hQW
  go_enter Try.func75, Try.ntmps75
  subst hoa hob
  go_wp2_with fail
  rw [← hW]
  clear hW
  have a1 := HA.out
  have b1 := HBB.out
  go_wp2_with (go_at_call 91; refine HSE.out.mono ?_; rintro e w2 ⟨r, rfl, hr, hs, m, hw2⟩; have HS := hid hs; have HW := hid hw2; clear hs hw2)
  clear HSE
  have a2 : w2.cell? ⟨w.heap.size, 0, none⟩ = some (.slice p L.length c) := by rw [HW.out]; exact HA.out
  have b2 : w2.cell? ⟨w.heap.size + 1, 0, none⟩ = some (.slice q k.length c') := by rw [HW.out]; exact HBB.out
  have HP2 := hid (show Rs D w2 p L by rw [HW.out]; exact HPW.out.drewN m)
  have HQ2 := hid (show Pt w2 q k by rw [HW.out]; exact HQW.out.drewN m)
  have HB2 := hid (show Below w.heap.size w w2 by rw [HW.out]; exact below_drewN HB0.out m)
  have HS1 : ∀ t, (h : t < L.length) → t < r → cmp L[t].1 k < 0 := fun t h ht => by
    have h1 := HS.out.1 t ht
    simp only [dif_pos h, decide_eq_false_iff_not] at h1
    omega
  have HS2 : ∀ t, (h : t < L.length) → r ≤ t → ¬ cmp L[t].1 k < 0 := fun t h ht => by
    have h1 := HS.out.2 t ht h
    simp only [dif_pos h, decide_eq_true_eq] at h1
    omega
  have HR := hid (less_of hr HS1 HS2)
  clear HS1 HS2
  clear a1 b1 HS HW HA HBB HPW HQW
  by_cases hlt : r < L.length
  · obtain ⟨b, off, q1, c1, rfl, _, d1, _, hp1⟩ := HP2.out.at r hlt
    have hbg := HL.out.2 _ (List.getElem_mem hlt)
    have HC := hid fun (m : Nat) => compare_ok L[r].1 k q1 q c1 c' (w2.drewN m) (hp1.pt.drewN m) (HQ2.out.drewN m) (by omega)
    have HH := hid (show hasN L k = (cmp L[r].1 k == 0) by have e := HR.out; rw [has_at (by omega), getElem_same (by omega) hlt e.symm])
    have hlt' : decide ((r : Int) < (L.length : Int)) = true := by simp; omega
    clear hbg hp1
    generalize L[r].1.length = x at d1 HC
    generalize cmp L[r].1 k = y at HC HH
    go_wp2_with fail
    go_quiet ((go_at_call 89; exact quiet_eq (HC.out _)))
    go_wp2_with fail
    go_ret2
    exact ⟨ret_two HR.out HH.out, below_drewN HB2.out _⟩
  · have HH := hid (has_none (L := L) (k := k) (by rw [← HR.out]; exact hlt))
    have hlt' : decide ((r : Int) < (L.length : Int)) = false := by simp; omega
    have hlt2 : decide (r < L.length) = false := by simpa using hlt
    go_wp2_with fail
    go_quiet (fail)
    go_wp2_with fail
    go_ret2
    exact ⟨ret_two HR.out HH.out, below_drewN HB2.out _⟩
set_option maxRecDepth 100000 in
set_option maxHeartbeats 2000000 in
theorem refFind_ok {D : Nat → Prop} (L : List Rec) (k : List Nat) (p q : Option Addr) (c c' : Nat) (w : World) (hp : Rs D w p L) (hq : Pt w q k) (hl : bigR L) :
    Calls Try.prog 59 #[.slice p L.length c, .slice q k.length c'] w fun e w' => e = .returned (.tuple #[.int .i64 (lessN L k : Int), .bool (hasN L k)]) ∧ ∃ m, w' = w.drewN m := by
  have HP := hid hp; have HQ := hid hq; have HL := hid hl; have hlen := hl.1; clear hp hq hl
  go_enter Try.func59, Try.ntmps59
  go_wp2_with fail
  go_loopw [6] (fun i wr => ∃ j : Nat, j ≤ L.length ∧ i = .int .i64 j ∧ Hid (∀ t, (h : t < L.length) → t < j → cmp L[t].1 k < 0) ∧ ∃ m, wr = w.drewN m) (fun i _ => L.length - (intOf i).toNat)
  case atStart => exact ⟨0, by omega, rfl, hid (fun t _ h => absurd h (by omega)), 0, rfl⟩
  case round =>
    obtain ⟨j, hj, rfl, HI, m, hwr⟩ := hrel
    have HP2 := hid (show Rs D wr p L by rw [hwr]; exact HP.out.drewN m)
    have HQ2 := hid (show Pt wr q k by rw [hwr]; exact HQ.out.drewN m)
    have HW := hid hwr
    clear hwr HP HQ
    by_cases hlt : j < L.length
    · obtain ⟨b, off, q1, c1, rfl, _, d1, _, hp1⟩ := HP2.out.at j hlt
      have hbg := HL.out.2 _ (List.getElem_mem hlt)
      have HC := hid (refCompare_ok L[j].1 k q1 q c1 c' wr hp1.pt HQ2.out (by omega))
      have hlt' : decide ((j : Int) < (L.length : Int)) = true := by simp; omega
      have HMORE := hid fun (h : cmp L[j].1 k < 0) => (show ∀ t, (h : t < L.length) → t < j + 1 → cmp L[t].1 k < 0 from fun t ht htj => by
        by_cases e : t = j
        · subst e; exact h
        · exact HI.out t ht (by omega))
      have HAT := hid fun (h : ¬ cmp L[j].1 k < 0) => (lessN_at j hj HI.out (fun _ => h))
      have HD := hid fun (w' : World) (n : Nat) (h : w' = wr.drewN n) => (show w'.cell? ⟨b, off + j * 2, none⟩ = some (.slice q1 L[j].1.length c1) by rw [h]; exact d1)
      have HSM := hid fun (w' : World) (n : Nat) (h : w' = wr.drewN n) => same_ok L[j].1 k q1 q c1 c' w' (h ▸ hp1.pt.drewN n) (h ▸ HQ2.out.drewN n) (by omega)
      have HH := hid fun (h : lessN L k = j) => (show hasN L k = sameB L[j].1 k by rw [has_at (by omega), ← same_cmp, getElem_same (by omega) hlt h])
      by_cases hc : cmp L[j].1 k < 0
      · have ec : decide (cmp L[j].1 k < 0) = true := by simpa using hc
        have HN := hid (HMORE.out hc)
        clear hc HMORE HAT HSM HH hbg hp1
        generalize L[j].1.length = x at d1 HC
        generalize cmp L[j].1 k = y at HC ec
        go_wp2_with (go_at_call 38; refine HC.out.mono ?_; rintro e w' ⟨rfl, n, hw'⟩; have HW2 := hid (show w' = w.drewN (m + n) by rw [hw', HW.out, World.drewN_drewN]); clear hw')
        go_roundw
        case rel => exact ⟨j + 1, by omega, by go_num, HN, _, HW2.out⟩
        case measure => simp [intOf]; omega
      · have ec : decide (cmp L[j].1 k < 0) = false := by simpa using hc
        have HN := hid (HAT.out hc)
        have HH2 := hid (HH.out HN.out)
        clear hc HMORE HAT HH hbg hp1
        generalize L[j].1.length = x at d1 HC HSM HD
        generalize cmp L[j].1 k = y at HC ec
        generalize sameB L[j].1 k = z at HSM HH2
        go_wp2_with (first
          | (go_at_call 38; refine HC.out.mono ?_; rintro e w' ⟨rfl, n, hw'⟩; have HW2 := hid (show w' = w.drewN (m + n) by rw [hw', HW.out, World.drewN_drewN]); have d2 := HD.out w' n hw'; have HS2 := hid (HSM.out w' n hw'); clear hw')
          | (go_at_call 40; refine HS2.out.mono ?_; rintro e w3 ⟨rfl, n3, hw3⟩; have HW3 := hid (show w3 = w.drewN (m + n + n3) by rw [hw3, HW2.out, World.drewN_drewN]); clear hw3))
        go_ret2
        exact ⟨ret_two HN.out.symm HH2.out, _, HW3.out⟩
    · obtain rfl : j = L.length := by omega
      have HN := hid (lessN_at L.length (Nat.le_refl _) HI.out (fun h => absurd h (by omega)))
      have HH := hid (has_none (L := L) (k := k) (by rw [HN.out]; omega))
      have hlt' : decide ((L.length : Int) < (L.length : Int)) = false := by simp
      go_wp2_with fail
      go_ret2
      exact ⟨ret_two HN.out.symm HH.out, m, HW.out⟩
end Go.Proofs.Ytkjcbfdplhcjpaa.Bk
