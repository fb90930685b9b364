/- Merged out of JnNew, PpBase, PpDisk, KyMath. -/
import Derived.Test.YtgihpdhkjneimaaGreatDoorP16
import Derived.Test.YtgihpdhkjneimaaGreatDoorP05
import Derived.Test.YtgihpdhkjneimaaGreatDoorP15
import Derived.Deep.RegionHeld3
/- New of a journal; the law's few, the document's Pages. -/
namespace Go.Proofs.YtgihpdhkjneimaaGreatDoor.Jn
open Go.RowKit
open Go.Lib (hid)
open Go.Proofs.YtgihpdhkjneimaaGreatDoor.Dk
open Go.Proofs.YtgihpdhkjneimaaGreatDoor.En (Lst PageT Pgs pageB)
section
variable {K : Nat → Prop} {D : Nat} {w : World} {s : St}
theorem size_cd (h : Cd K D w s) : Calls Tryz.prog 75 #[.pointer (some ⟨D, 0, none⟩)] w fun e w' => e = .returned (.int .i64 (s.pages.length : Int)) ∧ w' = w := by
  obtain ⟨a, rfl, hd, _⟩ := h.ex
  exact (size_ok a s w hd).mono fun _ _ ⟨h1, h2⟩ => ⟨h1, h2.symm⟩
set_option maxHeartbeats 1000000 in
theorem jnew_nil (w : World) (b n t : Int) : Calls Tryz.prog 76 #[.pointer none, .int .i64 b, .int .i64 n, .int .i64 t] w fun e w' => e = .returned (.tuple #[.pointer none, .int .i64 1]) ∧ w' = w := by
  go_enter Tryz.func76, Tryz.ntmps76
  go_wp2_with fail
  go_ret2
  exact ⟨rfl, rfl⟩
set_option maxHeartbeats 1000000 in
theorem jnew_b1 (cd : Cd K D w s) (b n t : Int) (_ : t ≤ 9223372036854775807)  (h : n < 2) : Calls Tryz.prog 76 #[.pointer (some ⟨D, 0, none⟩), .int .i64 b, .int .i64 n, .int .i64 t] w fun e w' => e = .returned (.tuple #[.pointer none, .int .i64 1]) ∧ w' = w := by
  have HS := hid (size_cd cd)
  have hm := cd.good.n2
  obtain ⟨m, hmm⟩ : ∃ m, s.pages.length = m := ⟨_, rfl⟩
  rw [hmm] at HS hm
  
  have e1 : decide (n < 2) = true := by simp; omega
  clear cd hmm h  
  go_enter Tryz.func76, Tryz.ntmps76
  go_wp2_with fail
  go_ret2
  exact ⟨rfl, rfl⟩
set_option maxHeartbeats 1000000 in
theorem jnew_b2 (cd : Cd K D w s) (b n t : Int) (_ : t ≤ 9223372036854775807) (h1 : ¬ n < 2) (h : 999 < n) : Calls Tryz.prog 76 #[.pointer (some ⟨D, 0, none⟩), .int .i64 b, .int .i64 n, .int .i64 t] w fun e w' => e = .returned (.tuple #[.pointer none, .int .i64 1]) ∧ w' = w := by
  have HS := hid (size_cd cd)
  have hm := cd.good.n2
  obtain ⟨m, hmm⟩ : ∃ m, s.pages.length = m := ⟨_, rfl⟩
  rw [hmm] at HS hm
  
  have e1 : decide (n < 2) = false := decide_eq_false h1
  have e2 : decide ((999 : Int) < n) = true := by simp; omega
  clear cd hmm h  h1
  go_enter Tryz.func76, Tryz.ntmps76
  go_wp2_with fail
  go_ret2
  exact ⟨rfl, rfl⟩
set_option maxHeartbeats 1000000 in
theorem jnew_b3 (cd : Cd K D w s) (b n t : Int) (_ : t ≤ 9223372036854775807) (h1 : ¬ n < 2) (h2 : ¬ 999 < n) (h : t < 1) : Calls Tryz.prog 76 #[.pointer (some ⟨D, 0, none⟩), .int .i64 b, .int .i64 n, .int .i64 t] w fun e w' => e = .returned (.tuple #[.pointer none, .int .i64 1]) ∧ w' = w := by
  have HS := hid (size_cd cd)
  have hm := cd.good.n2
  obtain ⟨m, hmm⟩ : ∃ m, s.pages.length = m := ⟨_, rfl⟩
  rw [hmm] at HS hm
  
  have e1 : decide (n < 2) = false := decide_eq_false h1
  have e2 : decide ((999 : Int) < n) = false := decide_eq_false h2
  have e3 : decide (t < 1) = true := by simp; omega
  clear cd hmm h  h1 h2
  go_enter Tryz.func76, Tryz.ntmps76
  go_wp2_with fail
  go_ret2
  exact ⟨rfl, rfl⟩
set_option maxHeartbeats 1000000 in
theorem jnew_b4 (cd : Cd K D w s) (b n t : Int) (ht : t ≤ 9223372036854775807) (h1 : ¬ n < 2) (h2 : ¬ 999 < n) (h3 : ¬ t < 1) (h : 4294967295 < t) : Calls Tryz.prog 76 #[.pointer (some ⟨D, 0, none⟩), .int .i64 b, .int .i64 n, .int .i64 t] w fun e w' => e = .returned (.tuple #[.pointer none, .int .i64 1]) ∧ w' = w := by
  have HS := hid (size_cd cd)
  have hm := cd.good.n2
  obtain ⟨m, hmm⟩ : ∃ m, s.pages.length = m := ⟨_, rfl⟩
  rw [hmm] at HS hm
  
  have e1 : decide (n < 2) = false := decide_eq_false h1
  have e2 : decide ((999 : Int) < n) = false := decide_eq_false h2
  have e3 : decide (t < 1) = false := decide_eq_false h3
  have e4 : decide ((4294967295 : Int) < t) = true := by simp; omega
  have k1 : IntKind.u64.wrap t = t := by rw [show IntKind.u64.wrap t = t % 18446744073709551616 from rfl]; omega
  clear cd hmm h ht h1 h2 h3
  go_enter Tryz.func76, Tryz.ntmps76
  go_wp2_with fail
  go_ret2
  exact ⟨rfl, rfl⟩
set_option maxHeartbeats 1000000 in
theorem jnew_b5 (cd : Cd K D w s) (b n t : Int) (ht : t ≤ 9223372036854775807) (h1 : ¬ n < 2) (h2 : ¬ 999 < n) (h3 : ¬ t < 1) (h4 : ¬ 4294967295 < t) (h : b < 0) : Calls Tryz.prog 76 #[.pointer (some ⟨D, 0, none⟩), .int .i64 b, .int .i64 n, .int .i64 t] w fun e w' => e = .returned (.tuple #[.pointer none, .int .i64 1]) ∧ w' = w := by
  have HS := hid (size_cd cd)
  have hm := cd.good.n2
  obtain ⟨m, hmm⟩ : ∃ m, s.pages.length = m := ⟨_, rfl⟩
  rw [hmm] at HS hm
  
  have e1 : decide (n < 2) = false := decide_eq_false h1
  have e2 : decide ((999 : Int) < n) = false := decide_eq_false h2
  have e3 : decide (t < 1) = false := decide_eq_false h3
  have e4 : decide ((4294967295 : Int) < t) = false := decide_eq_false h4
  have e5 : decide (b < 0) = true := by simp; omega
  have k1 : IntKind.u64.wrap t = t := by rw [show IntKind.u64.wrap t = t % 18446744073709551616 from rfl]; omega
  clear cd hmm h ht h1 h2 h3 h4
  go_enter Tryz.func76, Tryz.ntmps76
  go_wp2_with fail
  go_ret2
  exact ⟨rfl, rfl⟩
set_option maxHeartbeats 1000000 in
theorem jnew_b6 (cd : Cd K D w s) (b n t : Int) (ht : t ≤ 9223372036854775807) (h1 : ¬ n < 2) (h2 : ¬ 999 < n) (h3 : ¬ t < 1) (h4 : ¬ 4294967295 < t) (h5 : ¬ b < 0) (h : (s.pages.length : Int) - n < b) : Calls Tryz.prog 76 #[.pointer (some ⟨D, 0, none⟩), .int .i64 b, .int .i64 n, .int .i64 t] w fun e w' => e = .returned (.tuple #[.pointer none, .int .i64 1]) ∧ w' = w := by
  have HS := hid (size_cd cd)
  have hm := cd.good.n2
  obtain ⟨m, hmm⟩ : ∃ m, s.pages.length = m := ⟨_, rfl⟩
  rw [hmm] at HS hm
  rw [hmm] at h
  have e1 : decide (n < 2) = false := decide_eq_false h1
  have e2 : decide ((999 : Int) < n) = false := decide_eq_false h2
  have e3 : decide (t < 1) = false := decide_eq_false h3
  have e4 : decide ((4294967295 : Int) < t) = false := decide_eq_false h4
  have e5 : decide (b < 0) = false := decide_eq_false h5
  have e6 : decide ((m : Int) - n < b) = true := by simp; omega
  have k1 : IntKind.u64.wrap t = t := by rw [show IntKind.u64.wrap t = t % 18446744073709551616 from rfl]; omega
  have k2 : wrap64 ((m : Int) - n) = (m : Int) - n := by unfold wrap64; omega
  clear cd hmm h ht h1 h2 h3 h4 h5
  go_enter Tryz.func76, Tryz.ntmps76
  go_wp2_with (go_at_call 75; refine HS.out.mono ?_; rintro e w' ⟨rfl, hw⟩; obtain rfl := hw.symm)
  go_ret2
  exact ⟨rfl, rfl⟩
/-- a place that may not be -/
theorem jnew_bad (cd : Cd K D w s) (b n t : Int) (ht : t ≤ 9223372036854775807) (h : ¬ (2 ≤ n ∧ n ≤ 999 ∧ 1 ≤ t ∧ t ≤ 4294967295 ∧ 0 ≤ b ∧ b + n ≤ (s.pages.length : Int))) : Calls Tryz.prog 76 #[.pointer (some ⟨D, 0, none⟩), .int .i64 b, .int .i64 n, .int .i64 t] w fun e w' => e = .returned (.tuple #[.pointer none, .int .i64 1]) ∧ w' = w := by
  by_cases h1 : n < 2
  · exact jnew_b1 cd b n t ht h1
  · by_cases h2 : 999 < n
    · exact jnew_b2 cd b n t ht h1 h2
    · by_cases h3 : t < 1
      · exact jnew_b3 cd b n t ht h1 h2 h3
      · by_cases h4 : 4294967295 < t
        · exact jnew_b4 cd b n t ht h1 h2 h3 h4
        · by_cases h5 : b < 0
          · exact jnew_b5 cd b n t ht h1 h2 h3 h4 h5
          · exact jnew_b6 cd b n t ht h1 h2 h3 h4 h5 (by omega)
set_option maxHeartbeats 1000000 in
theorem jnew_ok (cd : Cd K D w s) (b n t : Nat) (ok : JOk b n t) (hp : b + n ≤ s.pages.length) : Calls Tryz.prog 76 #[.pointer (some ⟨D, 0, none⟩), .int .i64 (b : Int), .int .i64 (n : Int), .int .i64 (t : Int)] w fun e w' => e = .returned (.tuple #[.pointer (some ⟨w.heap.size, 0, none⟩), .int .i64 0]) ∧ w' = w.alloc (.cells #[.pointer (some ⟨D, 0, none⟩), .int .i64 (b : Int), .int .i64 (n : Int), .int .i64 (t : Int)] 132) := by
  have HS := hid (size_cd cd)
  have hm := cd.good.n2
  obtain ⟨m, hmm⟩ : ∃ m, s.pages.length = m := ⟨_, rfl⟩
  rw [hmm] at HS hm hp
  obtain ⟨o1, o2, o3, o4, o5⟩ := ok
  have e1 : decide ((n : Int) < 2) = false := by simp; omega
  have e2 : decide ((999 : Int) < (n : Int)) = false := by simp; omega
  have e2' : decide (999 < n) = false := by simp; omega
  have e3 : decide ((t : Int) < 1) = false := by simp; omega
  have e4 : decide ((4294967295 : Int) < (t : Int)) = false := by simp; omega
  have e4' : decide (4294967295 < t) = false := by simp; omega
  have e5 : decide ((b : Int) < 0) = false := by simp
  have e6 : decide ((m : Int) - (n : Int) < (b : Int)) = false := by simp; omega
  have k1 : IntKind.u64.wrap (t : Int) = t := by rw [show IntKind.u64.wrap (t : Int) = (t : Int) % 18446744073709551616 from rfl]; omega
  have k2 : wrap64 ((m : Int) - (n : Int)) = (m : Int) - (n : Int) := by unfold wrap64; omega
  clear cd hmm hp o1 o2 o3 o4 o5
  go_enter Tryz.func76, Tryz.ntmps76
  go_wp2_with (go_at_call 75; refine HS.out.mono ?_; rintro e w' ⟨rfl, hw⟩; obtain rfl := hw.symm)
  go_ret2
  exact ⟨rfl, rfl⟩
/-- a new journal on a disk -/
theorem jnew_jk (cd : Cd K D w s) (hL : Lst w) (k0 : K 0) (b n t : Nat) (ok : JOk b n t) (hp : b + n ≤ s.pages.length) : Calls Tryz.prog 76 #[.pointer (some ⟨D, 0, none⟩), .int .i64 (b : Int), .int .i64 (n : Int), .int .i64 (t : Int)] w fun e w' => e = .returned (.tuple #[.pointer (some ⟨w.heap.size, 0, none⟩), .int .i64 0]) ∧ Jk (fun j => K j ∨ j = w.heap.size) w.heap.size D w' s b n t ∧ Below w.heap.size w w' := by
  refine (jnew_ok cd b n t ok hp).mono ?_
  rintro e w' ⟨rfl, rfl⟩
  have hb := (Below.refl w.heap.size w).alloc (Nat.le_refl _) (.cells #[.pointer (some ⟨D, 0, none⟩), .int .i64 (b : Int), .int .i64 (n : Int), .int .i64 (t : Int)] 132)
  exact ⟨rfl, ⟨cd.more hb (fun k hk => hk.imp id (fun e => by omega)) (fun k hk => by
    rcases hk with hk | hk
    · have := cd.lt k hk; simp; omega
    · subst hk; simp), .inr rfl, .inl k0, heap_alloc_new _ _, hL.next hL.pos hb⟩, hb⟩
/-- a new disk -/
theorem dnew (n : Nat) (w : World) (h1 : 1 ≤ n) (h2 : n ≤ 1000) : Calls Tryz.prog 9 #[.int .i64 (n : Int)] w fun e w' => ∃ D, e = .returned (.tuple #[.pointer (some ⟨D, 0, none⟩), .int .i64 0]) ∧ Cd (fun j => j < w.heap.size) D w' (newS (blanks n)) ∧ Below w.heap.size w w' :=
  (new_ok n w h1 h2).mono fun _ _ ⟨d, g1, g2, g3, g4⟩ => ⟨d.D, g1, ⟨⟨d, rfl, g2, fun k hk h => by have := g4 k hk; omega⟩, fun k hk => Nat.lt_of_lt_of_le hk g3.size⟩, g3⟩
end
/-- at most 30 pages of 300 bytes -/
def FewP (L : List PageT) : Prop := L.length ≤ 30 ∧ ∀ j (h : j < L.length), L[j].2.2.size ≤ 300
theorem pageB_eq (p q : PageT) : pageB p.1 p.2.1 q.1 q.2.1 p.2.2 q.2.2 = decide (p = q) := by
  obtain ⟨a, b, c⟩ := p
  obtain ⟨a', b', c'⟩ := q
  rw [Bool.eq_iff_iff]
  unfold pageB
  simp only [Bool.and_eq_true, beq_iff_eq, decide_eq_true_iff, Prod.mk.injEq]
  constructor
  · rintro ⟨h1, h2, h3⟩
    rw [Go.ByteArray.toList_eq, Go.ByteArray.toList_eq] at h3
    exact ⟨h1, h2, text_inj h3⟩
  · rintro ⟨rfl, rfl, rfl⟩
    exact ⟨rfl, rfl, rfl⟩
theorem nepg (p q : PageT) (w : World) : (binOp .neq 69 (.agg #[.int .i64 p.1, .int .i64 p.2.1, .string p.2.2]) (.agg #[.int .i64 q.1, .int .i64 q.2.1, .string q.2.2])).run Tryz.prog w = .ok (.bool (!decide (p = q))) w := by
  rw [← pageB_eq]
  have ht : Tryz.prog.underlying 69 = some (.struct (Tryz.prog.fieldsOf 69)) := by kernel_rfl
  have hp : Tryz.prog.stoodInHeld 69 = false := by kernel_rfl
  rw [run_neq_struct, show (10000 : Nat) = 9999 + 1 from rfl, run_equalIn_struct _ _ _ _ _ ht hp]
  simp only [Program.fieldsOf, Tryz.underlying69]
  unfold pageB
  by_cases h1 : p.1 = q.1
  · by_cases h2 : p.2.1 = q.2.1
    · by_cases h3 : p.2.2.toList = q.2.2.toList <;> simp [Op.eqFields, go_sem, h1, h2, h3]
    · simp [Op.eqFields, go_sem, h1, h2]
  · simp [Op.eqFields, go_sem, h1]
set_option maxRecDepth 100000 in
set_option maxHeartbeats 4000000 in
theorem pages_any (L M : List PageT) (p q : Option Addr) (c d : Nat) (w : World) (hp : Pgs w p L) (hq : Pgs w q M) (hl : L.length ≤ 1000000) :
    Calls Tryz.prog 17 #[.slice p L.length c, .slice q M.length d] w fun e w' => e = .returned (.bool (decide (L = M))) ∧ Below w.heap.size w w' := by
  obtain ⟨n, hn⟩ : ∃ n, L.length = n := ⟨_, rfl⟩
  obtain ⟨m, hm⟩ : ∃ n, M.length = n := ⟨_, rfl⟩
  have H := hid hp; have HQ := hid hq; have HN := hid hn; have HM := hid hm
  rw [hn] at hl
  rw [hn, hm]
  obtain ⟨r, hr⟩ : ∃ r, decide (L = M) = r := ⟨_, rfl⟩
  have HR := hid hr
  rw [hr]
  by_cases hnm : n = m
  · subst hnm
    clear hp hq hn hm hr
    go_enter Tryz.func17, Tryz.ntmps17
    go_wp2_with fail
    go_loopw [5] (fun s wr => ∃ i : Nat, s = .int .i64 i ∧ i ≤ n ∧ Below w.heap.size w wr ∧ ∀ j (h : j < L.length) (h' : j < M.length), j < i → L[j] = M[j]) (fun s _ => n - (intOf s).toNat)
    case atStart => exact ⟨0, rfl, Nat.zero_le _, Below.refl _ _, fun j _ _ hj => absurd hj (Nat.not_lt_zero _)⟩
    case round =>
      obtain ⟨i, rfl, hi, hb, hms⟩ := hrel
      have HB := hid hb; have HMS := hid hms
      clear hb hms
      by_cases hlt : i < n
      · have hiL : i < L.length := by rw [HN.out]; exact hlt
        have hiM : i < M.length := by rw [HM.out]; exact hlt
        obtain ⟨b, off, rfl, hbl, d0, d1, d2⟩ := H.out.below HB.out i hiL
        obtain ⟨b', off', rfl, hbl', g0, g1, g2⟩ := HQ.out.below HB.out i hiM
        have HI := hid hlt
        have heq := fun V => nepg (L[i]'hiL) (M[i]'hiM) V
        obtain ⟨q0, e0⟩ : ∃ q, (L[i]'hiL) = q := ⟨_, rfl⟩
        obtain ⟨q1, e1⟩ : ∃ q, (M[i]'hiM) = q := ⟨_, rfl⟩
        rw [e0] at d0 d1 d2 heq
        rw [e1] at g0 g1 g2 heq
        have HE0 := hid e0; have HE1 := hid e1
        clear e0 e1
        obtain ⟨k0, m0, b0⟩ := q0
        obtain ⟨k1, m1, b1⟩ := q1
        dsimp only at d0 d1 d2 g0 g1 g2 heq
        by_cases hsame : ((k0, m0, b0) : PageT) = (k1, m1, b1)
        · rw [show decide (((k0, m0, b0) : PageT) = (k1, m1, b1)) = true from decide_eq_true hsame] at heq
          have HS := hid hsame
          clear hsame
          go_wp2_with fail
          go_quiet (fail)
          have HBq := hid (HB.out.trans ((below_drewN (Below.refl wr.heap.size wr) nq).mono HB.out.size))
          go_wp2_with fail
          go_roundw
          case rel => exact ⟨i + 1, by go_num, HI.out, HBq.out, fun j hj hj' hji => by
            rcases Nat.lt_or_ge j i with h | h
            · exact HMS.out j hj hj' h
            · obtain rfl : j = i := by omega
              rw [HE0.out, HE1.out]; exact HS.out⟩
          case measure => simp [intOf]; have := HI.out; omega
        · rw [show decide (((k0, m0, b0) : PageT) = (k1, m1, b1)) = false from decide_eq_false hsame] at heq
          have HRF := hid (show r = false by
            rw [← HR.out, decide_eq_false_iff_not]
            intro e
            apply hsame
            rw [← HE0.out, ← HE1.out]
            simp only [e])
          clear hsame
          go_wp2_with fail
          go_quiet (fail)
          have HBq := hid (HB.out.trans ((below_drewN (Below.refl wr.heap.size wr) nq).mono HB.out.size))
          go_wp2_with fail
          go_ret
          exact ⟨by rw [HRF.out]; rfl, HBq.out⟩
      · obtain rfl : i = n := by omega
        have HRF := hid (show r = true by
          rw [← HR.out, decide_eq_true_iff]
          exact List.ext_getElem (by rw [HN.out, HM.out]) fun j h h' => HMS.out j h h' (by rw [← HN.out]; exact h))
        clear hlt hi
        go_wp2_with fail
        go_ret
        exact ⟨by rw [HRF.out]; rfl, HB.out⟩
  · have e1 : ((n : Int) != (m : Int)) = true := by simp; omega
    have e2 : (n != m) = true := by simp; omega
    have HRF := hid (show r = false by
      rw [← HR.out, decide_eq_false_iff_not]
      intro e
      apply hnm
      rw [← HN.out, ← HM.out, e])
    clear hp hq hn hm hr hnm
    go_enter Tryz.func17, Tryz.ntmps17
    go_wp2_with fail
    go_ret
    exact ⟨by rw [HRF.out]; rfl, Below.refl _ _⟩
end Go.Proofs.YtgihpdhkjneimaaGreatDoor.Jn

/- The pager's head, and what may be its pages. -/
namespace Go.Proofs.YtgihpdhkjneimaaGreatDoor.Pp
open Go.RowKit
open Go.Lib (hid)
open Go.Proofs.YtgihpdhkjneimaaGreatDoor.Fd (be be_length num)
open Go.Proofs.YtgihpdhkjneimaaGreatDoor.Dk
open Go.Proofs.YtgihpdhkjneimaaGreatDoor.Jn
open Go.Proofs.YtgihpdhkjneimaaGreatDoor.En (Lst PageT Pgs mayS mayE)
/-- a head's bytes -/
def hdB (t c : Nat) : ByteArray := ⟨(be 4 t ++ be 2 c).toArray⟩
theorem hdB_size (t c : Nat) : (hdB t c).size = 6 := by
  show (be 4 t ++ be 2 c).toArray.size = 6
  simp [be_length]
theorem app_two (l m : List UInt8) : ((⟨l.toArray⟩ ++ ⟨m.toArray⟩ : ByteArray)) = ⟨(l ++ m).toArray⟩ := by
  apply ByteArray.ext; simp [ByteArray.data_append]
theorem page_row {V : World} {g : Nat} {a b c : Value} (hz : V.heap[g]? = some (.cells #[a, b, c] 69 (0, 0))) (x y z : Value) :
    (((V.setCell ⟨g, 0, none⟩ x).setCell ⟨g, 1, none⟩ y).setCell ⟨g, 2, none⟩ z).heap[g]? = some (.cells #[x, y, z] 69 (0, 0)) := by
  have b1 : (V.setCell ⟨g, 0, none⟩ x).heap[g]? = some (.cells #[x, b, c] 69 (0, 0)) := by simp [World.setCell, Array.getElem?_modify, hz]
  have b2 : ((V.setCell ⟨g, 0, none⟩ x).setCell ⟨g, 1, none⟩ y).heap[g]? = some (.cells #[x, y, c] 69 (0, 0)) := by
    rw [World.setCell, Array.getElem?_modify, if_pos rfl, b1]; rfl
  rw [World.setCell, Array.getElem?_modify, if_pos rfl, b2]; rfl
/-- a page's three cells are stored to -/
theorem page_set {w V : World} {g : Nat} {a b c : Value} (hb : Below w.heap.size w V) (hg : w.heap.size ≤ g) (hz : V.heap[g]? = some (.cells #[a, b, c] 69 (0, 0))) (x y z : Value) :
    (((V.setCell ⟨g, 0, none⟩ x).setCell ⟨g, 1, none⟩ y).setCell ⟨g, 2, none⟩ z).heap[g]? = some (.cells #[x, y, z] 69 (0, 0)) ∧ Below w.heap.size w (((V.setCell ⟨g, 0, none⟩ x).setCell ⟨g, 1, none⟩ y).setCell ⟨g, 2, none⟩ z) ∧ (∀ k, k ≠ g → (((V.setCell ⟨g, 0, none⟩ x).setCell ⟨g, 1, none⟩ y).setCell ⟨g, 2, none⟩ z).heap[k]? = V.heap[k]?) ∧ (((V.setCell ⟨g, 0, none⟩ x).setCell ⟨g, 1, none⟩ y).setCell ⟨g, 2, none⟩ z).heap.size = V.heap.size := by
  have b1 : (V.setCell ⟨g, 0, none⟩ x).heap[g]? = some (.cells #[x, b, c] 69 (0, 0)) := by simp [World.setCell, Array.getElem?_modify, hz]
  have b2 : ((V.setCell ⟨g, 0, none⟩ x).setCell ⟨g, 1, none⟩ y).heap[g]? = some (.cells #[x, y, c] 69 (0, 0)) := by
    rw [World.setCell, Array.getElem?_modify, if_pos rfl, b1]; rfl
  refine ⟨?_, ((hb.setCell (by exact hg) _).setCell (by exact hg) _).setCell (by exact hg) _, fun k hk => ?_, by simp⟩
  · rw [World.setCell, Array.getElem?_modify, if_pos rfl, b2]; rfl
  · rw [heap_setCell_other _ _ _ _ hk, heap_setCell_other _ _ _ _ hk, heap_setCell_other _ _ _ _ hk]
theorem page_cells {V : World} {g : Nat} {a b c : Value} (hz : V.heap[g]? = some (.cells #[a, b, c] 69 (0, 0))) :
    V.cell? ⟨g, 0, none⟩ = some a ∧ V.cell? ⟨g, 1, none⟩ = some b ∧ V.cell? ⟨g, 2, none⟩ = some c ∧ V.frozen? ⟨g, 0, none⟩ = false ∧ V.frozen? ⟨g, 1, none⟩ = false ∧ V.frozen? ⟨g, 2, none⟩ = false :=
  ⟨by rw [cell_of_row _ _ _ _ _ _ hz]; rfl, by rw [cell_of_row _ _ _ _ _ _ hz]; rfl, by rw [cell_of_row _ _ _ _ _ _ hz]; rfl, frozen_of_row _ _ _ _ _ hz, frozen_of_row _ _ _ _ _ hz, frozen_of_row _ _ _ _ _ hz⟩
set_option maxRecDepth 100000 in
set_option maxHeartbeats 2000000 in
theorem head_ok (t c : Nat) (w : World) (ht : t < 9223372036854775807) (hc : c < 9223372036854775807) :
    Calls Tryz.prog 38 #[.int .i64 (t : Int), .int .i64 (c : Int)] w fun e w' => e = .returned (.agg #[.int .i64 1, .int .i64 0, .string (hdB t c)]) ∧ Below w.heap.size w w' := by
  have HZ := hid (heap_alloc_new w (.cells #[.int .i64 0, .int .i64 0, .string ⟨#[]⟩] 69))
  have HB0 := hid ((Below.refl w.heap.size w).alloc (Nat.le_refl _) (.cells #[.int .i64 0, .int .i64 0, .string ⟨#[]⟩] 69))
  have H4 := hid fun (V : World) => bytes_4 t V ht
  have H2 := hid fun (V : World) => bytes_2 c V hc
  have HE := hid (app_two (be 4 t) (be 2 c))
  unfold hdB
  have hs4 : (⟨(be 4 t).toArray⟩ : ByteArray).size = 4 := by show (be 4 t).toArray.size = 4; simp [be_length]
  have hs2 : (⟨(be 2 c).toArray⟩ : ByteArray).size = 2 := by show (be 2 c).toArray.size = 2; simp [be_length]
  rw [← HE.out]
  generalize (⟨(be 4 t).toArray⟩ : ByteArray) = A at *
  generalize (⟨(be 2 c).toArray⟩ : ByteArray) = B at *
  clear ht hc HE
  go_enter Tryz.func38, Tryz.ntmps38
  go_wp2_with fail
  refine (H4.out _).mono ?_
  rintro e w2 ⟨rfl, hb⟩
  have HB2 := hid (HB0.out.trans (hb.mono HB0.out.size))
  have HZ2 := hid ((hb.block _ (Array.getElem?_eq_some_iff.1 HZ.out).1).trans HZ.out)
  clear hb
  go_wp2_with fail
  refine (H2.out _).mono ?_
  rintro e w3 ⟨rfl, hb⟩
  have HB3 := hid (HB2.out.trans (hb.mono HB2.out.size))
  have HZ3 := hid ((hb.block _ (Array.getElem?_eq_some_iff.1 HZ2.out).1).trans HZ2.out)
  clear hb
  obtain ⟨c0, c1, c2, f0, f1, f2⟩ := page_cells HZ3.out
  go_wp2_with fail
  obtain ⟨hs, hb, _⟩ := page_set HB3.out (Nat.le_refl _) HZ3.out (.int .i64 1) (.int .i64 0) (.string (A ++ B))
  obtain ⟨x0, x1, x2, _⟩ := page_cells hs
  refine bodyPost_ret (v := .agg #[.int .i64 1, .int .i64 0, .string (A ++ B)]) (by simp [results, Tryz.results38, go_sem, x0, x1, x2]) rfl ⟨rfl, hb⟩
/-- may it be a page of a pager, at a place? -/
def mayT (q : PageT) (i : Int) : Prop := mayS q.1 q.2.1 q.2.2 ∧ q.1 ≠ 0 ∧ q.2.1 = i
set_option maxRecDepth 100000 in
set_option maxHeartbeats 2000000 in
theorem maybe_ok (k n i : Int) (b : ByteArray) (w : World) (r : Bool) (hr : r = true ↔ mayT (k, n, b) i) :
    Calls Tryz.prog 87 #[.agg #[.int .i64 k, .int .i64 n, .string b], .int .i64 i] w fun e w' => e = .returned (.bool r) ∧ Below w.heap.size w w' := by
  have HB0 := hid ((Below.refl w.heap.size w).alloc (Nat.le_refl _) (.cells #[.int .i64 k, .int .i64 n, .string b] 69))
  have HX := hid (heap_alloc_new w (.cells #[.int .i64 k, .int .i64 n, .string b] 69))
  by_cases hm : mayS k n b
  · have HCK := hid fun (V : World) => En.check_yes 1 1 0 k n 0 0 b V (may1 1 0 (by decide) (by decide) (by decide) hm)
    by_cases hk : k = 0
    · have hf : r = false := by
        cases r with
        | false => rfl
        | true => exact absurd hk (hr.1 rfl).2.1
      subst hf hk
      clear hm hr
      go_enter Tryz.func87, Tryz.ntmps87
      go_wp2_with fail
      refine (HCK.out _).mono ?_
      rintro e w2 ⟨rfl, hb⟩
      have HB2 := hid (HB0.out.trans (hb.mono HB0.out.size))
      have hx := (hb.block _ (Array.getElem?_eq_some_iff.1 HX.out).1).trans HX.out
      have c0 : w2.cell? ⟨w.heap.size, 0, none⟩ = some (.int .i64 0) := by rw [cell_of_row _ _ _ _ _ _ hx]; rfl
      clear hb hx
      go_wp2_with fail
      go_ret
      exact ⟨rfl, HB2.out⟩
    · have ek : (k != 0) = true := by simpa using hk
      have hrr : r = (n == i) := by
        have := hr
        unfold mayT at this
        rw [Bool.eq_iff_iff, this]
        simp [hm, hk]
      subst hrr
      clear hm hr hk
      go_enter Tryz.func87, Tryz.ntmps87
      go_wp2_with fail
      refine (HCK.out _).mono ?_
      rintro e w2 ⟨rfl, hb⟩
      have HB2 := hid (HB0.out.trans (hb.mono HB0.out.size))
      have hx := (hb.block _ (Array.getElem?_eq_some_iff.1 HX.out).1).trans HX.out
      have c0 : w2.cell? ⟨w.heap.size, 0, none⟩ = some (.int .i64 k) := by rw [cell_of_row _ _ _ _ _ _ hx]; rfl
      have c1 : w2.cell? ⟨w.heap.size, 1, none⟩ = some (.int .i64 n) := by rw [cell_of_row _ _ _ _ _ _ hx]; rfl
      clear hb hx
      go_wp2_with fail
      go_ret
      exact ⟨rfl, HB2.out⟩
  · have HCK := hid fun (V : World) => En.check_no 1 1 0 k n 0 0 b V (by decide) (notmay1 hm)
    have hf : r = false := by
      cases r with
      | false => rfl
      | true => exact absurd (hr.1 rfl).1 hm
    subst hf
    clear hm hr
    go_enter Tryz.func87, Tryz.ntmps87
    go_wp2_with fail
    refine (HCK.out _).mono ?_
    rintro e w2 ⟨rfl, hb⟩
    have HB2 := hid (HB0.out.trans (hb.mono HB0.out.size))
    clear hb
    go_wp2_with fail
    go_ret
    exact ⟨rfl, HB2.out⟩
/-- may they be those of a pager? -/
def MayL (L : List PageT) : Prop := ∀ i (h : i < L.length), mayT L[i] i
set_option maxRecDepth 100000 in
set_option maxHeartbeats 4000000 in
theorem allmay_any (L : List PageT) (p : Option Addr) (c : Nat) (w : World) (hp : Pgs w p L) (hl : L.length ≤ 1000000) (r : Bool) (hr : r = true ↔ MayL L) :
    Calls Tryz.prog 46 #[.slice p L.length c] w fun e w' => e = .returned (.bool r) ∧ Below w.heap.size w w' := by
  obtain ⟨n, hn⟩ : ∃ n, L.length = n := ⟨_, rfl⟩
  have H := hid hp; have HN := hid hn; have HR := hid hr
  rw [hn] at hl ⊢
  clear hp hn hr
  go_enter Tryz.func46, Tryz.ntmps46
  go_wp2_with fail
  go_loopw [7] (fun s wr => ∃ i : Nat, s = .int .i64 i ∧ i ≤ n ∧ Below w.heap.size w wr ∧ ∀ j (h : j < L.length), j < i → mayT L[j] j) (fun s _ => n - (intOf s).toNat)
  case atStart => exact ⟨0, rfl, Nat.zero_le _, Below.refl _ _, fun j _ hj => absurd hj (Nat.not_lt_zero _)⟩
  case round =>
    obtain ⟨i, rfl, hi, hb, hms⟩ := hrel
    have HB := hid hb; have HMS := hid hms
    clear hb hms
    by_cases hlt : i < n
    · have hiL : i < L.length := by rw [HN.out]; exact hlt
      obtain ⟨b, off, rfl, hbl, d0, d1, d2⟩ := H.out.below HB.out i hiL
      have HI := hid hlt
      have HLT := hid hiL
      obtain ⟨q0, e0⟩ : ∃ q, (L[i]'hiL) = q := ⟨_, rfl⟩
      rw [e0] at d0 d1 d2
      obtain ⟨k0, m0, b0⟩ := q0
      dsimp only at d0 d1 d2
      have HB1 := hid (HB.out.trans ((Below.refl wr.heap.size wr).alloc (Nat.le_refl _) (.cells #[.int .i64 k0, .int .i64 m0, .string b0] 69)|>.mono HB.out.size))
      have HE := hid (show mayT (L[i]'hiL) i ↔ mayT (k0, m0, b0) i by rw [e0])
      clear e0
      rcases Classical.em (mayT (k0, m0, b0) i) with hm | hm
      · have HCK := hid fun (V : World) => maybe_ok k0 m0 i b0 V true ⟨fun _ => hm, fun _ => rfl⟩
        have HM := hid hm
        clear hm
        go_wp2_with fail
        refine (HCK.out _).mono ?_
        rintro e w2 ⟨rfl, hb⟩
        have HB2 := hid (HB1.out.trans (hb.mono HB1.out.size))
        clear hb
        go_wp2_with fail
        go_roundw
        case rel => exact ⟨i + 1, by go_num, HI.out, HB2.out, fun j hj hji => by
          rcases Nat.lt_or_ge j i with h | h
          · exact HMS.out j hj h
          · obtain rfl : j = i := by omega
            exact HE.out.2 HM.out⟩
        case measure => simp [intOf]; have := HI.out; omega
      · have HCK := hid fun (V : World) => maybe_ok k0 m0 i b0 V false ⟨(fun h => by cases h), fun h => absurd h hm⟩
        have hrf : r = false := by
          cases hr2 : r with
          | false => rfl
          | true => exact absurd (HE.out.1 (HR.out.1 hr2 i HLT.out)) hm
        have HRF := hid hrf
        clear hm hrf
        go_wp2_with fail
        refine (HCK.out _).mono ?_
        rintro e w2 ⟨rfl, hb⟩
        have HB2 := hid (HB1.out.trans (hb.mono HB1.out.size))
        clear hb
        go_wp2_with fail
        go_ret
        exact ⟨by rw [HRF.out]; rfl, HB2.out⟩
    · obtain rfl : i = n := by omega
      have HRF := hid (show r = true from HR.out.2 fun j hj => HMS.out j hj (by rw [← HN.out]; exact hj))
      clear hlt hi
      go_wp2_with fail
      go_ret
      exact ⟨by rw [HRF.out]; rfl, HB.out⟩
end Go.Proofs.YtgihpdhkjneimaaGreatDoor.Pp

/- A pager's page is written to its place, and read from it. -/
namespace Go.Proofs.YtgihpdhkjneimaaGreatDoor.Pp
open Go.RowKit
open Go.Lib (hid)
open Go.Proofs.YtgihpdhkjneimaaGreatDoor.Fd (be be_length num)
open Go.Proofs.YtgihpdhkjneimaaGreatDoor.Dk
open Go.Proofs.YtgihpdhkjneimaaGreatDoor.Jn
open Go.Proofs.YtgihpdhkjneimaaGreatDoor.En (Lst PageT Pgs mayS mayE)
open Go.Proofs.YtgihpdhkjneimaaGreatDoor.Pg (sealL openL mayP)
/-- a page's text -/
noncomputable def sealB (q : PageT) : ByteArray := ⟨(sealL q.1.toNat q.2.1.toNat q.2.2.data.toList).toArray⟩
/-- what write does: is there no error, and the disk -/
noncomputable def wrP (s : St) (q : PageT) : Bool × St := if mayP q.1 q.2.1 q.2.2.size then ((wrU s q.2.1 (sealB q)).1 == 0, (wrU s q.2.1 (sealB q)).2) else (false, s)
theorem few_wrP {s : St} {k : Nat} (h : Few s k) (q : PageT) : Few (wrP s q).2 (k + 1) := by
  unfold wrP; split
  · exact few_wr h _ _
  · exact h.up
theorem wrP_len (s : St) (q : PageT) : (wrP s q).2.pages.length = s.pages.length := by
  unfold wrP; split
  · exact wr_len _ _ _
  · rfl
section
variable {K : Nat → Prop} {D : Nat} {w : World} {s : St}
/-- what is new joins K -/
theorem cd_add (h : Cd K D w s) {V : World} (hb : Below w.heap.size w V) {g : Nat} (hg : w.heap.size ≤ g) (hl : g < V.heap.size) : Cd (fun j => K j ∨ j = g) D V s :=
  h.more hb (fun k hk => hk.imp id fun e => by omega) fun k hk => by
    rcases hk with hk | hk
    · exact Nat.lt_of_lt_of_le (h.lt k hk) hb.size
    · omega
set_option maxRecDepth 100000 in
set_option maxHeartbeats 2000000 in
theorem write_ok (h : Cd K D w s) {k : Nat} (hf : Few s k) (hk : k < 1000000) (q : PageT) :
    Calls Tryz.prog 37 #[.pointer (some ⟨D, 0, none⟩), .agg #[.int .i64 q.1, .int .i64 q.2.1, .string q.2.2]] w fun e w' => e = .returned (.bool (wrP s q).1) ∧ Cd K D w' (wrP s q).2 ∧ KS K w w' := by
  obtain ⟨pk, pn, bo⟩ := q
  dsimp only
  have HB0 := hid ((Below.refl w.heap.size w).alloc (Nat.le_refl _) (.cells #[.int .i64 pk, .int .i64 pn, .string bo] 69))
  have HX := hid (heap_alloc_new w (.cells #[.int .i64 pk, .int .i64 pn, .string bo] 69))
  by_cases hm : mayP pk pn bo.size
  · have e0 : wrP s (pk, pn, bo) = ((wrU s pn (sealB (pk, pn, bo))).1 == 0, (wrU s pn (sealB (pk, pn, bo))).2) := by unfold wrP; rw [if_pos hm]
    rw [e0]
    have HW := hid fun (V : World) (hV : Below w.heap.size w V) => (h.next hV).write hf hk pn (sealB (pk, pn, bo))
    obtain ⟨k0, rfl⟩ : ∃ m : Nat, pk = (m : Int) := ⟨pk.toNat, by have := hm.1; omega⟩
    obtain ⟨n0, rfl⟩ : ∃ m : Nat, pn = (m : Int) := ⟨pn.toNat, by have := hm.2.2.1; omega⟩
    have HS := hid fun (V : World) => Pg.seal_yes k0 n0 bo V hm
    have hsb : (⟨(sealL k0 n0 bo.data.toList).toArray⟩ : ByteArray) = sealB ((k0 : Int), (n0 : Int), bo) := rfl
    rw [hsb] at HS
    generalize sealB ((k0 : Int), (n0 : Int), bo) = T at *
    generalize (wrU s (n0 : Int) T).1 = c at *
    generalize (wrU s (n0 : Int) T).2 = s' at *
    clear hm e0 h hf hk hsb
    go_enter Tryz.func37, Tryz.ntmps37
    go_wp2_with fail
    refine (HS.out _).mono ?_
    rintro e w2 ⟨rfl, hb⟩
    have HB2 := hid (HB0.out.trans (hb.mono HB0.out.size))
    have hx := (hb.block _ (Array.getElem?_eq_some_iff.1 HX.out).1).trans HX.out
    have c1 : w2.cell? ⟨w.heap.size, 1, none⟩ = some (.int .i64 (n0 : Int)) := by rw [cell_of_row _ _ _ _ _ _ hx]; rfl
    clear hb hx
    go_wp2_with fail
    refine (HW.out _ HB2.out).mono ?_
    rintro e w3 ⟨rfl, hc, hks⟩
    have HC := hid hc
    have HK := hid ((KS.of (K := K) HB2.out).trans hks)
    clear hc hks c1
    go_wp2_with fail
    go_ret
    exact ⟨rfl, HC.out, HK.out⟩
  · have e0 : wrP s (pk, pn, bo) = (false, s) := by unfold wrP; rw [if_neg hm]
    rw [e0]
    have HN := hid fun (V : World) (hV : Below w.heap.size w V) => h.next hV
    have HS := hid fun (V : World) => Pg.seal_no pk pn bo V hm
    clear hm e0 h hf hk
    go_enter Tryz.func37, Tryz.ntmps37
    go_wp2_with fail
    refine (HS.out _).mono ?_
    rintro e w2 ⟨rfl, hb⟩
    have HB2 := hid (HB0.out.trans (hb.mono HB0.out.size))
    clear hb
    go_wp2_with fail
    go_ret
    exact ⟨rfl, HN.out _ HB2.out, KS.of HB2.out⟩
/-- V' is V, but for block g -/
structure But (g : Nat) (V V' : World) : Prop where
  os : V'.os = V.os
  tape : V'.tape = V.tape
  output : V'.output = V.output
  size : V'.heap.size = V.heap.size
  other : ∀ k, k ≠ g → V'.heap[k]? = V.heap[k]?
theorem But.drew {g : Nat} {V V' : World} (h : But g V V') : But g V V'.drew := ⟨h.os, h.tape, h.output, h.size, h.other⟩
theorem But.cd {K : Nat → Prop} {D g : Nat} {V V' : World} {s : St} (h : But g V V') (hc : Cd K D V s) (hg : K g) : Cd K D V' s := hc.turn (Nat.le_of_eq h.size.symm) fun k _ hk => h.other k fun e => hk (e ▸ hg)
theorem But.ks {K : Nat → Prop} {g : Nat} {w V V' : World} (h : But g V V') (hk : KS K w V) (hg : ¬ K g ∨ w.heap.size ≤ g) : KS K w V' :=
  ⟨h.os.trans hk.os, h.tape.trans hk.tape, h.output.trans hk.output, by rw [h.size]; exact hk.size, fun k hl e => (h.other k fun e2 => by
    subst e2
    rcases hg with hg | hg
    · exact hg e
    · omega).trans (hk.block k hl e)⟩
theorem but_set (V : World) (g : Nat) (x y z : Value) : But g V (((V.setCell ⟨g, 0, none⟩ x).setCell ⟨g, 1, none⟩ y).setCell ⟨g, 2, none⟩ z) :=
  ⟨rfl, rfl, rfl, by simp, fun k hk => by rw [heap_setCell_other _ _ _ _ hk, heap_setCell_other _ _ _ _ hk, heap_setCell_other _ _ _ _ hk]⟩
/-- what read gives: the page, and is it whole, of that place -/
def rdP (u : ByteArray) (m : Int) : PageT × Bool := ((((openL u.data.toList).1 : Int), ((openL u.data.toList).2.1 : Int), ⟨(openL u.data.toList).2.2.1.toArray⟩), ((((openL u.data.toList).2.2.2 : Nat) : Int) == 0) && (((openL u.data.toList).2.1 : Int) == m))
set_option maxRecDepth 100000 in
set_option maxHeartbeats 4000000 in
theorem read_ok (h : Cd K D w s) {k : Nat} (hf : Few s k) (hk : k < 1000000) (m : Int) :
    Calls Tryz.prog 100 #[.pointer (some ⟨D, 0, none⟩), .int .i64 m] w fun e w' => e = .returned (.tuple #[.agg #[.int .i64 (rdP (rdU s m).1 m).1.1, .int .i64 (rdP (rdU s m).1 m).1.2.1, .string (rdP (rdU s m).1 m).1.2.2], .bool (rdP (rdU s m).1 m).2]) ∧ Cd K D w' (rdU s m).2.2 ∧ KS K w w' := by
  have HB0 := hid ((Below.refl w.heap.size w).alloc (Nat.le_refl _) (.cells #[.int .i64 0, .int .i64 0, .string ⟨#[]⟩] 69))
  have HX0 := hid (heap_alloc_new w (.cells #[.int .i64 0, .int .i64 0, .string ⟨#[]⟩] 69))
  have HR := hid ((cd_add h HB0.out (Nat.le_refl _) (Array.getElem?_eq_some_iff.1 HX0.out).1).read hf hk m)
  generalize (rdU s m).2.2 = s' at *
  generalize (rdU s m).2.1 = c0 at *
  generalize (rdU s m).1 = u at *
  have HO := hid fun (V : World) => Pg.open_at (k := (openL u.data.toList).1) (n := (openL u.data.toList).2.1) (b := (openL u.data.toList).2.2.1) (e := (openL u.data.toList).2.2.2) u V rfl
  unfold rdP
  dsimp only
  clear h hf hk
  generalize (openL u.data.toList).1 = k1 at *
  generalize (openL u.data.toList).2.1 = n1 at *
  generalize (openL u.data.toList).2.2.2 = e1 at *
  generalize (openL u.data.toList).2.2.1 = b1 at *
  go_enter Tryz.func100, Tryz.ntmps100
  go_wp2_with fail
  refine HR.out.mono ?_
  rintro e w2 ⟨rfl, hc, hks⟩
  have HC2 := hid hc
  have HK2 := hid hks
  have HX2 := hid ((hks.block _ (Array.getElem?_eq_some_iff.1 HX0.out).1 (.inr rfl)).trans HX0.out)
  clear hc hks
  go_wp2_with fail
  refine (HO.out _).mono ?_
  rintro e w3 ⟨rfl, hb⟩
  have HC3 := hid (HC2.out.next hb)
  have HK3 := hid (HK2.out.trans (KS.of hb))
  have HX3 := hid ((hb.block _ (Array.getElem?_eq_some_iff.1 HX2.out).1).trans HX2.out)
  clear hb HC2 HK2 HX2
  obtain ⟨V, hV⟩ : ∃ V, w3.alloc (.cells #[.int .i64 (k1 : Int), .int .i64 (n1 : Int), .string ⟨b1.toArray⟩] 69) = V := ⟨_, rfl⟩
  have HBV := hid (show Below w3.heap.size w3 V by rw [← hV]; exact (Below.refl _ _).alloc (Nat.le_refl _) _)
  have HZ8 := hid (show V.heap[w3.heap.size]? = some (.cells #[.int .i64 (k1 : Int), .int .i64 (n1 : Int), .string ⟨b1.toArray⟩] 69 (0, 0)) by rw [← hV]; exact heap_alloc_new _ _)
  have HX4 := hid ((HBV.out.block _ (Array.getElem?_eq_some_iff.1 HX3.out).1).trans HX3.out)
  have HC4 := hid (HC3.out.next HBV.out)
  have HK4 := hid ((KS.of (K := K) HB0.out).trans (KS.less (HK3.out.trans (KS.of HBV.out)) fun j e => .inl e))
  have HNE := hid (show w3.heap.size ≠ w.heap.size by have := (Array.getElem?_eq_some_iff.1 HX3.out).1; omega)
  have HBT := hid (but_set V w.heap.size (.int .i64 (k1 : Int)) (.int .i64 (n1 : Int)) (.string ⟨b1.toArray⟩))
  have HQ8 := hid ((HBT.out.other _ HNE.out).trans HZ8.out)
  have HQ4 := hid (page_row HX4.out (.int .i64 (k1 : Int)) (.int .i64 (n1 : Int)) (.string ⟨b1.toArray⟩))
  have HF := hid (And.intro ((HBT.out.drew.cd HC4.out (.inr rfl)).less (K' := K) fun j e => .inl e) (HBT.out.drew.ks HK4.out (.inr (Nat.le_refl _))))
  obtain ⟨y0, y1, y2, -⟩ := page_cells HZ8.out
  obtain ⟨z0, z1, z2, f0, f1, f2⟩ := page_cells HX4.out
  obtain ⟨x0, x1, x2, -⟩ := page_cells HQ4.out
  obtain ⟨v0, v1, v2, -⟩ := page_cells HQ8.out
  have q0 := And.intro y0 (And.intro y1 y2)
  have q1 := And.intro v0 (And.intro v1 v2)
  clear y0 y1 y2 v0 v1 v2
  by_cases he : e1 = 0
  · subst he
    go_wp2_with fail
    clear hV
    go_region_held3 (fun w' => w'.cell? ⟨w3.heap.size, 0, none⟩ = some (.int .i64 (k1 : Int)) ∧ w'.cell? ⟨w3.heap.size, 1, none⟩ = some (.int .i64 (n1 : Int)) ∧ w'.cell? ⟨w3.heap.size, 2, none⟩ = some (.string ⟨b1.toArray⟩)) (first | exact q0 | exact q1 | go_keep) (first | fail)
    go_wp2_with fail
    refine bodyPost_ret (v := .tuple #[.agg #[.int .i64 (k1 : Int), .int .i64 (n1 : Int), .string ⟨b1.toArray⟩], .bool ((n1 : Int) == m)]) (by simp [results, Tryz.results100, go_sem, x0, x1, x2]) rfl ⟨by simp, HF.out.1, HF.out.2⟩
  · have he1 : (((e1 : Nat) : Int) == 0) = false := by simpa using he
    have HE1 := hid he
    clear he
    generalize ((e1 : Nat) : Int) = E at *
    go_wp2_with fail
    clear hV
    refine wp_region_held_drew (S := (fun w' => w'.cell? ⟨w3.heap.size, 0, none⟩ = some (.int .i64 (k1 : Int)) ∧ w'.cell? ⟨w3.heap.size, 1, none⟩ = some (.int .i64 (n1 : Int)) ∧ w'.cell? ⟨w3.heap.size, 2, none⟩ = some (.string ⟨b1.toArray⟩))) (by kernel_rfl) (by exact q0) (fun hHeld => ?_)
    refine wpAnyH_take (i := 0) (oi := { dst := some 21, op := Op.load 69 (Operand.tmp 8), type := 69, pos := "pager.go:191", after := #[], guard := none }) (v := ?vc0) rfl (by kernel_rfl) (by kernel_rfl) (by kernel_rfl) (fun _ _ _ h => h) (Or.inl ⟨by rfl, ?hyc0⟩) (by assumption) ?restc0
    case hyc0 => (intro w hSw; (try dsimp only at hSw); go_simp; (try with_reducible rfl))
    simp only [Act.put, List.setIfInBounds_toArray, List.set_cons_zero, List.set_cons_succ]
    refine wpAnyH_take (i := 1) (oi := { dst := some 22, op := Op.move (Operand.tmp 9), type := 25, pos := "pager.go:191", after := #[], guard := none }) (v := ?vc1) rfl (by kernel_rfl) (by kernel_rfl) (by kernel_rfl) (fun _ _ _ h => h) (Or.inl ⟨by rfl, ?hyc1⟩) (by assumption) ?restc1
    case hyc1 => (intro w hSw; (try dsimp only at hSw); go_simp; (try with_reducible rfl))
    simp only [Act.put, List.setIfInBounds_toArray, List.set_cons_zero, List.set_cons_succ]
    refine wpAnyH_take (i := 2) (oi := { dst := some 23, op := Op.binOp BinOp.eql 25 (Operand.tmp 22) (Operand.const (Value.int IntKind.i64 0)) 25, type := 4, pos := "pager.go:191", after := #[{ on := 1, ground := Ground.data }], guard := none }) (v := ?vc2) rfl (by kernel_rfl) (by kernel_rfl) (by kernel_rfl) (fun _ _ _ h => h) (Or.inl ⟨by rfl, ?hyc2⟩) (by assumption) ?restc2
    case hyc2 => (intro w hSw; (try dsimp only at hSw); go_simp; (try with_reducible rfl))
    simp only [Act.put, List.setIfInBounds_toArray, List.set_cons_zero, List.set_cons_succ]
    refine wpAnyH_take (i := 3) (oi := { dst := some 24, op := Op.move (Operand.tmp 23), type := 4, pos := "pager.go:191", after := #[{ on := 2, ground := Ground.data }], guard := none }) (v := ?vc3) rfl (by kernel_rfl) (by kernel_rfl) (by kernel_rfl) (fun _ _ _ h => h) (Or.inl ⟨by rfl, ?hyc3⟩) (by assumption) ?restc3
    case hyc3 => (intro w hSw; (try dsimp only at hSw); go_simp; (try with_reducible rfl))
    simp only [Act.put, List.setIfInBounds_toArray, List.set_cons_zero, List.set_cons_succ]
    refine wpAnyH_take (i := 4) (oi := { dst := some 25, op := Op.fieldAddr 69 (Operand.tmp 8) 1, type := 0, pos := "pager.go:191", after := #[{ on := 3, ground := Ground.guard }, { on := 9, ground := Ground.gcOnly Departure.lateStores }], guard := some (3, true) }) (v := undef) rfl (by kernel_rfl) (by kernel_rfl) (by kernel_rfl) (fun _ _ _ h => h) (Or.inr ⟨by rfl, rfl⟩) (by assumption) ?restc4
    simp only [Act.put, List.setIfInBounds_toArray, List.set_cons_zero, List.set_cons_succ]
    refine wpAnyH_take (i := 5) (oi := { dst := some 26, op := Op.load 3 (Operand.tmp 25), type := 3, pos := "pager.go:191", after := #[{ on := 4, ground := Ground.data }, { on := 3, ground := Ground.guard }, { on := 9, ground := Ground.gcOnly Departure.lateStores }], guard := some (3, true) }) (v := undef) rfl (by kernel_rfl) (by kernel_rfl) (by kernel_rfl) (fun _ _ _ h => h) (Or.inr ⟨by rfl, rfl⟩) (by assumption) ?restc5
    simp only [Act.put, List.setIfInBounds_toArray, List.set_cons_zero, List.set_cons_succ]
    refine wpAnyH_take (i := 6) (oi := { dst := some 27, op := Op.move (Operand.tmp 1), type := 3, pos := "pager.go:191", after := #[{ on := 3, ground := Ground.guard }, { on := 9, ground := Ground.gcOnly Departure.lateStores }], guard := some (3, true) }) (v := undef) rfl (by kernel_rfl) (by kernel_rfl) (by kernel_rfl) (fun _ _ _ h => h) (Or.inr ⟨by rfl, rfl⟩) (by assumption) ?restc6
    simp only [Act.put, List.setIfInBounds_toArray, List.set_cons_zero, List.set_cons_succ]
    refine wpAnyH_take (i := 7) (oi := { dst := some 28, op := Op.binOp BinOp.eql 3 (Operand.tmp 26) (Operand.tmp 27) 3, type := 4, pos := "pager.go:191", after := #[{ on := 5, ground := Ground.data }, { on := 6, ground := Ground.data }, { on := 3, ground := Ground.guard }, { on := 9, ground := Ground.gcOnly Departure.lateStores }], guard := some (3, true) }) (v := undef) rfl (by kernel_rfl) (by kernel_rfl) (by kernel_rfl) (fun _ _ _ h => h) (Or.inr ⟨by rfl, rfl⟩) (by assumption) ?restc7
    simp only [Act.put, List.setIfInBounds_toArray, List.set_cons_zero, List.set_cons_succ]
    refine wpAnyH_take (i := 8) (oi := { dst := some 29, op := Op.pick (Operand.tmp 24) (Operand.tmp 28) (Operand.const (Value.bool false)), type := 4, pos := "pager.go:191", after := #[{ on := 3, ground := Ground.data }, { on := 7, ground := Ground.data }, { on := 9, ground := Ground.gcOnly Departure.lateStores }], guard := none }) (v := ?vc8) rfl (by kernel_rfl) (by kernel_rfl) (by kernel_rfl) (fun _ _ _ h => h) (Or.inl ⟨by rfl, ?hyc8⟩) (by assumption) ?restc8
    case hyc8 => (intro w hSw; (try dsimp only at hSw); go_simp; (try with_reducible rfl))
    simp only [Act.put, List.setIfInBounds_toArray, List.set_cons_zero, List.set_cons_succ]
    refine wpAnyH_ready (rs := [9]) (by kernel_rfl) (by simp) (AllReadyH.cons (o := { dst := none, op := Op.store 69 (Operand.tmp 4) (Operand.tmp 21), type := 0, pos := "pager.go:191", after := #[{ on := 0, ground := Ground.data }, { on := 3, ground := Ground.chain }, { on := 0, ground := Ground.phase }, { on := 1, ground := Ground.textOnly Departure.lateStores }, { on := 2, ground := Ground.textOnly Departure.lateStores }, { on := 3, ground := Ground.textOnly Departure.lateStores }, { on := 4, ground := Ground.textOnly Departure.lateStores }, { on := 5, ground := Ground.textOnly Departure.lateStores }, { on := 6, ground := Ground.textOnly Departure.lateStores }, { on := 7, ground := Ground.textOnly Departure.lateStores }, { on := 8, ground := Ground.textOnly Departure.lateStores }], guard := none }) rfl (fun K hK => ?_) AllReadyH.nil)
    go_simp
    refine hK.out _ _ (by exact q1) (fun hHeld => ?_)
    clear hK K
    refine wpAnyH_take (i := 10) (oi := { dst := some 5, op := Op.assign (Operand.tmp 29), type := 4, pos := "pager.go:191", after := #[{ on := 8, ground := Ground.data }, { on := 9, ground := Ground.chain }, { on := 0, ground := Ground.phase }, { on := 1, ground := Ground.phase }, { on := 2, ground := Ground.phase }, { on := 3, ground := Ground.phase }, { on := 4, ground := Ground.phase }, { on := 5, ground := Ground.phase }, { on := 6, ground := Ground.phase }, { on := 7, ground := Ground.phase }, { on := 8, ground := Ground.phase }, { on := 9, ground := Ground.phase }], guard := none }) (v := ?vc10) rfl (by kernel_rfl) (by kernel_rfl) (by kernel_rfl) (fun _ _ _ h => h) (Or.inl ⟨by rfl, ?hyc10⟩) (by assumption) ?restc10
    case hyc10 => (intro w hSw; (try dsimp only at hSw); go_simp; (try with_reducible rfl))
    simp only [Act.put, List.setIfInBounds_toArray, List.set_cons_zero, List.set_cons_succ]
    refine wpAnyH_done (by kernel_rfl) ?_ _
    go_wp2_with fail
    refine bodyPost_ret (v := .tuple #[.agg #[.int .i64 (k1 : Int), .int .i64 (n1 : Int), .string ⟨b1.toArray⟩], .bool false]) (by simp [results, Tryz.results100, go_sem, x0, x1, x2]) rfl ⟨by first | (rw [he1]; rfl) | simp [HE1.out], HF.out.1, HF.out.2⟩
end
end Go.Proofs.YtgihpdhkjneimaaGreatDoor.Pp

/- Points and boxes as plain lists of numbers. -/
namespace Go.Proofs.YtgihpdhkjneimaaGreatDoor.Ky

/-- how two points stand -/
def cmp : List Nat → List Nat → Int
  | [], [] => 0
  | [], _ :: _ => -1
  | _ :: _, [] => 1
  | a :: l, b :: m => if a < b then -1 else if b < a then 1 else cmp l m
theorem cmp_self (l : List Nat) : cmp l l = 0 := by
  induction l with
  | nil => rfl
  | cons a l ih => simp [cmp, ih]
theorem cmp_zero {a b : List Nat} (h : cmp a b = 0) : a = b := by
  induction a generalizing b with
  | nil => cases b <;> simp_all [cmp]
  | cons x l ih =>
    cases b with
    | nil => simp [cmp] at h
    | cons y m =>
      simp only [cmp] at h
      split at h
      · simp at h
      · split at h
        · simp at h
        · have := ih h; subst this
          have : x = y := by omega
          rw [this]
theorem cmp_flip (a b : List Nat) : cmp a b = -cmp b a := by
  induction a generalizing b with
  | nil => cases b <;> simp [cmp]
  | cons x l ih =>
    cases b with
    | nil => simp [cmp]
    | cons y m =>
      simp only [cmp]
      by_cases h : x < y
      · have : ¬ y < x := by omega
        simp [h, this]
      · by_cases h' : y < x
        · simp [h, h']
        · simp [h, h', ih m]
theorem cmp_trans {a b c : List Nat} (h : cmp a b ≤ 0) (h' : cmp b c ≤ 0) : cmp a c ≤ 0 := by
  induction a generalizing b c with
  | nil => cases c <;> simp [cmp]
  | cons x l ih =>
    cases b with
    | nil => simp [cmp] at h
    | cons y m =>
      cases c with
      | nil => simp [cmp] at h'
      | cons z n =>
        simp only [cmp] at h h' ⊢
        by_cases h1 : x < y
        · by_cases h2 : y < z
          · rw [if_pos (by omega)]; omega
          · by_cases h3 : z < y
            · rw [if_neg h2, if_pos h3] at h'; simp at h'
            · rw [if_pos (by omega)]; omega
        · by_cases h2 : y < x
          · rw [if_neg h1, if_pos h2] at h; simp at h
          · rw [if_neg h1, if_neg h2] at h
            by_cases h3 : y < z
            · rw [if_pos (by omega)]; omega
            · by_cases h4 : z < y
              · rw [if_neg h3, if_pos h4] at h'; simp at h'
              · rw [if_neg h3, if_neg h4] at h'
                rw [if_neg (by omega), if_neg (by omega)]
                exact ih h h'
theorem cmp_cases (a b : List Nat) : cmp a b = -1 ∨ cmp a b = 0 ∨ cmp a b = 1 := by
  induction a generalizing b with
  | nil => cases b <;> simp [cmp]
  | cons x l ih =>
    cases b with
    | nil => simp [cmp]
    | cons y m =>
      simp only [cmp]
      split
      · simp
      · split
        · simp
        · exact ih m
/-- one step of it, at the k-th coordinates -/
theorem cmp_drop (a b : List Nat) (k : Nat) (h : k < a.length) (h' : k < b.length) :
    cmp (a.drop k) (b.drop k) = if a[k] < b[k] then -1 else if b[k] < a[k] then 1 else cmp (a.drop (k + 1)) (b.drop (k + 1)) := by
  rw [List.drop_eq_getElem_cons h, List.drop_eq_getElem_cons h']; rfl
theorem cmp_left (a b : List Nat) (k : Nat) (h : k < a.length) (h' : b.length ≤ k) : cmp (a.drop k) (b.drop k) = 1 := by
  rw [List.drop_eq_getElem_cons h, List.drop_eq_nil_of_le h']; rfl
theorem cmp_right (a b : List Nat) (k : Nat) (h : a.length ≤ k) (h' : k < b.length) : cmp (a.drop k) (b.drop k) = -1 := by
  rw [List.drop_eq_getElem_cons h', List.drop_eq_nil_of_le h]; rfl
theorem cmp_end (a b : List Nat) (k : Nat) (h : a.length ≤ k) (h' : b.length ≤ k) : cmp (a.drop k) (b.drop k) = 0 := by
  rw [List.drop_eq_nil_of_le h, List.drop_eq_nil_of_le h']; rfl

/-- as many coordinates, and none above -/
def leAll : List Nat → List Nat → Bool
  | [], [] => true
  | a :: l, b :: m => decide (a ≤ b) && leAll l m
  | _, _ => false
theorem leAll_len {a b : List Nat} (h : leAll a b = true) : a.length = b.length := by
  induction a generalizing b with
  | nil => cases b <;> simp_all [leAll]
  | cons x l ih =>
    cases b with
    | nil => simp [leAll] at h
    | cons y m => simp only [leAll, Bool.and_eq_true] at h; simp [ih h.2]
theorem leAll_ne {a b : List Nat} (h : a.length ≠ b.length) : leAll a b = false := by
  cases e : leAll a b with
  | false => rfl
  | true => exact absurd (leAll_len e) h
theorem leAll_iff {a b : List Nat} : leAll a b = true ↔ a.length = b.length ∧ ∀ i (h : i < a.length) (h' : i < b.length), a[i] ≤ b[i] := by
  induction a generalizing b with
  | nil => cases b <;> simp [leAll]
  | cons x l ih =>
    cases b with
    | nil => simp [leAll]
    | cons y m =>
      simp only [leAll, Bool.and_eq_true, decide_eq_true_eq, ih, List.length_cons, Nat.add_right_cancel_iff]
      constructor
      · rintro ⟨h1, h2, h3⟩
        refine ⟨h2, fun i hi hi' => ?_⟩
        cases i with
        | zero => exact h1
        | succ i => exact h3 i (by omega) (by omega)
      · rintro ⟨h1, h2⟩
        exact ⟨h2 0 (by omega) (by omega), h1, fun i hi hi' => h2 (i + 1) (by omega) (by omega)⟩
theorem leAll_refl (a : List Nat) : leAll a a = true := leAll_iff.2 ⟨rfl, fun _ _ _ => Nat.le_refl _⟩
theorem leAll_no {a b : List Nat} (k : Nat) (h : k < a.length) (h' : k < b.length) (hk : b[k] < a[k]) : leAll a b = false := by
  cases e : leAll a b with
  | false => rfl
  | true => have := (leAll_iff.1 e).2 k h h'; omega
theorem leAll_drop (a b : List Nat) (k : Nat) (h : k < a.length) (h' : k < b.length) :
    leAll (a.drop k) (b.drop k) = (decide (a[k] ≤ b[k]) && leAll (a.drop (k + 1)) (b.drop (k + 1))) := by
  rw [List.drop_eq_getElem_cons h, List.drop_eq_getElem_cons h']; rfl
theorem leAll_end (a b : List Nat) (k : Nat) (h : a.length ≤ k) (h' : b.length ≤ k) : leAll (a.drop k) (b.drop k) = true := by
  rw [List.drop_eq_nil_of_le h, List.drop_eq_nil_of_le h']; rfl

def mayN (n : Nat) : Bool := decide (1 ≤ n) && decide (n ≤ 6)
/-- may a box be, of so many coordinates? -/
def boxN (lo hi : List Nat) (n : Nat) : Bool := mayN n && (decide (lo.length = n) && leAll lo hi)
/-- is a point in a box? -/
def inB (k lo hi : List Nat) : Bool := leAll lo k && leAll k hi
def hiOf (a b : List Nat) : List Nat := List.zipWith max a b
def loOf (a b : List Nat) : List Nat := List.zipWith min a b
def four (al ah bl bh : List Nat) : Bool := decide (ah.length = al.length) && (decide (bl.length = al.length) && decide (bh.length = al.length))
/-- do two boxes meet? -/
def meetB (al ah bl bh : List Nat) : Bool := four al ah bl bh && boxN (hiOf al bl) (loOf ah bh) al.length
def meetLo (al ah bl bh : List Nat) : List Nat := if meetB al ah bl bh then hiOf al bl else []
def meetHi (al ah bl bh : List Nat) : List Nat := if meetB al ah bl bh then loOf ah bh else []

theorem hiOf_length {a b : List Nat} (h : b.length = a.length) : (hiOf a b).length = a.length := by simp [hiOf]; omega
theorem loOf_length {a b : List Nat} (h : b.length = a.length) : (loOf a b).length = a.length := by simp [loOf]; omega
theorem hiOf_comm (a b : List Nat) : hiOf a b = hiOf b a := by
  unfold hiOf; rw [List.zipWith_comm]; congr 1; funext x y; exact Nat.max_comm _ _
theorem loOf_comm (a b : List Nat) : loOf a b = loOf b a := by
  unfold loOf; rw [List.zipWith_comm]; congr 1; funext x y; exact Nat.min_comm _ _
theorem four_comm (al ah bl bh : List Nat) : four al ah bl bh = four bl bh al ah := by
  unfold four; rw [Bool.eq_iff_iff]; simp; omega
theorem meetB_comm (al ah bl bh : List Nat) : meetB al ah bl bh = meetB bl bh al ah := by
  unfold meetB
  rw [← four_comm al ah bl bh]
  cases h : four al ah bl bh with
  | false => rfl
  | true =>
    simp [four] at h
    rw [hiOf_comm, loOf_comm, show bl.length = al.length from h.2.1]
theorem le_hiOf {k a b : List Nat} (h : b.length = a.length) : leAll (hiOf a b) k = (leAll a k && leAll b k) := by
  have hl := hiOf_length h
  rw [Bool.eq_iff_iff, Bool.and_eq_true, leAll_iff, leAll_iff, leAll_iff]
  constructor
  · rintro ⟨h1, h2⟩
    refine ⟨⟨by omega, fun i hi hi' => ?_⟩, by omega, fun i hi hi' => ?_⟩
    · have := h2 i (by omega) (by omega); simp only [hiOf, List.getElem_zipWith] at this; omega
    · have := h2 i (by omega) (by omega); simp only [hiOf, List.getElem_zipWith] at this; omega
  · rintro ⟨⟨h1, h2⟩, h3, h4⟩
    refine ⟨by omega, fun i hi hi' => ?_⟩
    have a1 := h2 i (by omega) (by omega)
    have a2 := h4 i (by omega) (by omega)
    simp only [hiOf, List.getElem_zipWith]; omega
theorem loOf_le {k a b : List Nat} (h : b.length = a.length) : leAll k (loOf a b) = (leAll k a && leAll k b) := by
  have hl := loOf_length h
  rw [Bool.eq_iff_iff, Bool.and_eq_true, leAll_iff, leAll_iff, leAll_iff]
  constructor
  · rintro ⟨h1, h2⟩
    refine ⟨⟨by omega, fun i hi hi' => ?_⟩, by omega, fun i hi hi' => ?_⟩
    · have := h2 i (by omega) (by omega); simp only [loOf, List.getElem_zipWith] at this; omega
    · have := h2 i (by omega) (by omega); simp only [loOf, List.getElem_zipWith] at this; omega
  · rintro ⟨⟨h1, h2⟩, h3, h4⟩
    refine ⟨by omega, fun i hi hi' => ?_⟩
    have a1 := h2 i (by omega) (by omega)
    have a2 := h4 i (by omega) (by omega)
    simp only [loOf, List.getElem_zipWith]; omega
theorem leAll_trans {a b c : List Nat} (h : leAll a b = true) (h' : leAll b c = true) : leAll a c = true := by
  rw [leAll_iff] at *
  refine ⟨by omega, fun i hi hi' => ?_⟩
  have := h.2 i hi (by omega); have := h'.2 i (by omega) hi'; omega
/-- a point is in what two boxes have both, if it is in both -/
theorem meet_in {k al ah bl bh : List Nat} (ha : boxN al ah k.length = true) (hb : boxN bl bh k.length = true) :
    (meetB al ah bl bh && inB k (meetLo al ah bl bh) (meetHi al ah bl bh)) = (inB k al ah && inB k bl bh) := by
  simp only [boxN, Bool.and_eq_true, decide_eq_true_eq] at ha hb
  have h1 := leAll_len ha.2.2
  have h2 := leAll_len hb.2.2
  have hf : four al ah bl bh = true := by simp [four]; omega
  cases hm : meetB al ah bl bh with
  | true =>
    simp only [meetLo, meetHi, hm, if_true, inB, Bool.true_and]
    rw [le_hiOf (by omega), loOf_le (by omega)]
    cases leAll al k <;> cases leAll bl k <;> cases leAll k ah <;> cases leAll k bh <;> rfl
  | false =>
    rw [Bool.false_and]
    symm
    cases hi : inB k al ah && inB k bl bh with
    | false => rfl
    | true =>
      exfalso
      simp only [inB, Bool.and_eq_true] at hi
      have e1 : leAll (hiOf al bl) k = true := by rw [le_hiOf (by omega), hi.1.1, hi.2.1]; rfl
      have e2 : leAll k (loOf ah bh) = true := by rw [loOf_le (by omega), hi.1.2, hi.2.2]; rfl
      have e3 := leAll_trans e1 e2
      have : meetB al ah bl bh = true := by
        simp only [meetB, hf, boxN, Bool.true_and, Bool.and_eq_true, decide_eq_true_eq]
        exact ⟨by rw [ha.2.1]; exact ha.1, hiOf_length (by omega), e3⟩
      rw [this] at hm; simp at hm
theorem hiOf_one {k a : List Nat} (h : leAll a k = true) : hiOf a k = k := by
  apply List.ext_getElem
  · rw [hiOf_length (leAll_len h).symm]; exact leAll_len h
  · intro i h1 h2
    have := (leAll_iff.1 h).2 i (by have := leAll_len h; omega) h2
    simp only [hiOf, List.getElem_zipWith]; omega
theorem loOf_one {k a : List Nat} (h : leAll k a = true) : loOf a k = k := by
  apply List.ext_getElem
  · rw [loOf_length (leAll_len h)]; exact (leAll_len h).symm
  · intro i h1 h2
    have := (leAll_iff.1 h).2 i h2 (by have := leAll_len h; omega)
    simp only [loOf, List.getElem_zipWith]; omega
/-- a box and one point: they meet just if that is in it; then in that -/
theorem meet_one {k lo hi : List Nat} (hb : boxN lo hi k.length = true) : meetB lo hi k k = inB k lo hi := by
  have h := hb
  simp only [boxN, Bool.and_eq_true, decide_eq_true_eq] at h
  have h1 := leAll_len h.2.2
  have hk : boxN k k k.length = true := by simp [boxN, h.1, leAll_refl]
  have := meet_in hb hk
  have e : inB k k k = true := by simp [inB, leAll_refl]
  rw [e, Bool.and_true] at this
  cases hm : meetB lo hi k k with
  | false => rw [hm, Bool.false_and] at this; exact this
  | true =>
    have hm' := hm
    simp only [meetB, boxN, Bool.and_eq_true] at hm'
    have e3 := hm'.2.2.2
    -- the greater ones of Low are not above the lesser ones of High: the point is between
    have a1 := leAll_iff.1 e3
    have l1 : (hiOf lo k).length = lo.length := hiOf_length (by omega)
    have l2 : (loOf hi k).length = hi.length := loOf_length (by omega)
    symm
    simp only [inB, Bool.and_eq_true, leAll_iff]
    refine ⟨⟨by omega, fun i hi1 hi2 => ?_⟩, by omega, fun i hi1 hi2 => ?_⟩
    · have := a1.2 i (by omega) (by omega)
      simp only [hiOf, loOf, List.getElem_zipWith] at this; omega
    · have := a1.2 i (by omega) (by omega)
      simp only [hiOf, loOf, List.getElem_zipWith] at this; omega

/-- the bits, the highest first -/
def bitK (k : List Nat) (i : Nat) : Nat := k.getD (i % k.length) 0 / 2 ^ (31 - i / k.length) % 2
def bitsK (k : List Nat) : Nat → Nat
  | 0 => 0
  | n + 1 => 2 * bitsK k n + bitK k n
theorem bitK_lt (k : List Nat) (i : Nat) : bitK k i < 2 := Nat.mod_lt _ (by omega)
theorem bitsK_lt (k : List Nat) (n : Nat) : bitsK k n < 2 ^ n := by
  induction n with
  | zero => simp [bitsK]
  | succ n ih => have := bitK_lt k n; simp only [bitsK, Nat.pow_succ]; omega
theorem bitsK_shift (k : List Nat) (n d : Nat) : bitsK k (n + d) / 2 ^ d = bitsK k n := by
  induction d with
  | zero => simp
  | succ d ih =>
    have := bitK_lt k (n + d)
    have e : (n + (d + 1)) = (n + d) + 1 := by omega
    rw [e]
    simp only [bitsK]
    rw [Nat.pow_succ, Nat.mul_comm (2 ^ d), ← Nat.div_div_eq_div_mul]
    have : (2 * bitsK k (n + d) + bitK k (n + d)) / 2 = bitsK k (n + d) := by omega
    rw [this, ih]
def bitsOk (l : Nat) (n : Int) : Bool := mayN l && (decide (0 ≤ n) && decide (n ≤ 30))

/-- where some coordinates stand: each below the dimension, and they rise -/
def rises (dim : Nat) : Int → List Int → Bool
  | _, [] => true
  | least, c :: l => decide (least ≤ c) && (decide (c < dim) && rises dim (c + 1) l)
/-- a point of which some coordinates are put in -/
def puts : List Nat → List Int → List Nat → List Nat
  | b, c :: at_, x :: k => puts (b.set c.toNat x) at_ k
  | b, _, _ => b
def lowW (dim : Nat) : List Nat := List.replicate dim 0
def highW (dim : Nat) : List Nat := List.replicate dim 4294967295
def wholeLo (dim : Int) : List Nat := if 1 ≤ dim ∧ dim ≤ 6 then lowW dim.toNat else []
def wholeHi (dim : Int) : List Nat := if 1 ≤ dim ∧ dim ≤ 6 then highW dim.toNat else []
def partOk (dim : Int) (at_ : List Int) (k : List Nat) : Bool := decide (1 ≤ dim ∧ dim ≤ 6) && (decide (at_.length = k.length) && rises dim.toNat 0 at_)
def partLo (dim : Int) (at_ : List Int) (k : List Nat) : List Nat := if partOk dim at_ k then puts (lowW dim.toNat) at_ k else []
def partHi (dim : Int) (at_ : List Int) (k : List Nat) : List Nat := if partOk dim at_ k then puts (highW dim.toNat) at_ k else []
end Go.Proofs.YtgihpdhkjneimaaGreatDoor.Ky
