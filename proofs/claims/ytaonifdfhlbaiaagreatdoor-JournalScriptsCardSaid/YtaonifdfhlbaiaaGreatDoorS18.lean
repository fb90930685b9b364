/- Merged out of JnNew, JnLive, EnOp0, EnOpn, EnPgs, JnOp0. -/
import Derived.Test.YtaonifdfhlbaiaaGreatDoorS16
import Derived.Test.YtaonifdfhlbaiaaGreatDoorS12
import Derived.Lib.SmallJoins
import Derived.ProofKit
import Derived.Deep.Slices
import Derived.ChangeSlices
/- New of a journal; the law's few, the document's Pages. -/
namespace Go.Proofs.YtaonifdfhlbaiaaGreatDoor.Jn
open Go.RowKit
open Go.Lib (hid)
open Go.Proofs.YtaonifdfhlbaiaaGreatDoor.Dk
open Go.Proofs.YtaonifdfhlbaiaaGreatDoor.En (Lst PageT Pgs pageB)
section
variable {K : Nat → Prop} {D : Nat} {w : World} {s : St}
theorem size_cd (h : Cd K D w s) : Calls Tryz.prog 31 #[.pointer (some ⟨D, 0, none⟩)] w fun e w' => e = .returned (.int .i64 (s.pages.length : Int)) ∧ w' = w := by
  obtain ⟨a, rfl, hd, _⟩ := h.ex
  exact (size_ok a s w hd).mono fun _ _ ⟨h1, h2⟩ => ⟨h1, h2.symm⟩
set_option maxHeartbeats 1000000 in
theorem jnew_nil (w : World) (b n t : Int) : Calls Tryz.prog 7 #[.pointer none, .int .i64 b, .int .i64 n, .int .i64 t] w fun e w' => e = .returned (.tuple #[.pointer none, .int .i64 1]) ∧ w' = w := by
  go_enter Tryz.func7, Tryz.ntmps7
  go_wp2_with fail
  go_ret2
  exact ⟨rfl, rfl⟩
set_option maxHeartbeats 1000000 in
theorem jnew_b1 (cd : Cd K D w s) (b n t : Int) (_ : t ≤ 9223372036854775807)  (h : n < 2) : Calls Tryz.prog 7 #[.pointer (some ⟨D, 0, none⟩), .int .i64 b, .int .i64 n, .int .i64 t] w fun e w' => e = .returned (.tuple #[.pointer none, .int .i64 1]) ∧ w' = w := by
  have HS := hid (size_cd cd)
  have hm := cd.good.n2
  obtain ⟨m, hmm⟩ : ∃ m, s.pages.length = m := ⟨_, rfl⟩
  rw [hmm] at HS hm
  
  have e1 : decide (n < 2) = true := by simp; omega
  clear cd hmm h  
  go_enter Tryz.func7, Tryz.ntmps7
  go_wp2_with fail
  go_ret2
  exact ⟨rfl, rfl⟩
set_option maxHeartbeats 1000000 in
theorem jnew_b2 (cd : Cd K D w s) (b n t : Int) (_ : t ≤ 9223372036854775807) (h1 : ¬ n < 2) (h : 999 < n) : Calls Tryz.prog 7 #[.pointer (some ⟨D, 0, none⟩), .int .i64 b, .int .i64 n, .int .i64 t] w fun e w' => e = .returned (.tuple #[.pointer none, .int .i64 1]) ∧ w' = w := by
  have HS := hid (size_cd cd)
  have hm := cd.good.n2
  obtain ⟨m, hmm⟩ : ∃ m, s.pages.length = m := ⟨_, rfl⟩
  rw [hmm] at HS hm
  
  have e1 : decide (n < 2) = false := decide_eq_false h1
  have e2 : decide ((999 : Int) < n) = true := by simp; omega
  clear cd hmm h  h1
  go_enter Tryz.func7, Tryz.ntmps7
  go_wp2_with fail
  go_ret2
  exact ⟨rfl, rfl⟩
set_option maxHeartbeats 1000000 in
theorem jnew_b3 (cd : Cd K D w s) (b n t : Int) (_ : t ≤ 9223372036854775807) (h1 : ¬ n < 2) (h2 : ¬ 999 < n) (h : t < 1) : Calls Tryz.prog 7 #[.pointer (some ⟨D, 0, none⟩), .int .i64 b, .int .i64 n, .int .i64 t] w fun e w' => e = .returned (.tuple #[.pointer none, .int .i64 1]) ∧ w' = w := by
  have HS := hid (size_cd cd)
  have hm := cd.good.n2
  obtain ⟨m, hmm⟩ : ∃ m, s.pages.length = m := ⟨_, rfl⟩
  rw [hmm] at HS hm
  
  have e1 : decide (n < 2) = false := decide_eq_false h1
  have e2 : decide ((999 : Int) < n) = false := decide_eq_false h2
  have e3 : decide (t < 1) = true := by simp; omega
  clear cd hmm h  h1 h2
  go_enter Tryz.func7, Tryz.ntmps7
  go_wp2_with fail
  go_ret2
  exact ⟨rfl, rfl⟩
set_option maxHeartbeats 1000000 in
theorem jnew_b4 (cd : Cd K D w s) (b n t : Int) (ht : t ≤ 9223372036854775807) (h1 : ¬ n < 2) (h2 : ¬ 999 < n) (h3 : ¬ t < 1) (h : 4294967295 < t) : Calls Tryz.prog 7 #[.pointer (some ⟨D, 0, none⟩), .int .i64 b, .int .i64 n, .int .i64 t] w fun e w' => e = .returned (.tuple #[.pointer none, .int .i64 1]) ∧ w' = w := by
  have HS := hid (size_cd cd)
  have hm := cd.good.n2
  obtain ⟨m, hmm⟩ : ∃ m, s.pages.length = m := ⟨_, rfl⟩
  rw [hmm] at HS hm
  
  have e1 : decide (n < 2) = false := decide_eq_false h1
  have e2 : decide ((999 : Int) < n) = false := decide_eq_false h2
  have e3 : decide (t < 1) = false := decide_eq_false h3
  have e4 : decide ((4294967295 : Int) < t) = true := by simp; omega
  have k1 : IntKind.u64.wrap t = t := by rw [show IntKind.u64.wrap t = t % 18446744073709551616 from rfl]; omega
  clear cd hmm h ht h1 h2 h3
  go_enter Tryz.func7, Tryz.ntmps7
  go_wp2_with fail
  go_ret2
  exact ⟨rfl, rfl⟩
set_option maxHeartbeats 1000000 in
theorem jnew_b5 (cd : Cd K D w s) (b n t : Int) (ht : t ≤ 9223372036854775807) (h1 : ¬ n < 2) (h2 : ¬ 999 < n) (h3 : ¬ t < 1) (h4 : ¬ 4294967295 < t) (h : b < 0) : Calls Tryz.prog 7 #[.pointer (some ⟨D, 0, none⟩), .int .i64 b, .int .i64 n, .int .i64 t] w fun e w' => e = .returned (.tuple #[.pointer none, .int .i64 1]) ∧ w' = w := by
  have HS := hid (size_cd cd)
  have hm := cd.good.n2
  obtain ⟨m, hmm⟩ : ∃ m, s.pages.length = m := ⟨_, rfl⟩
  rw [hmm] at HS hm
  
  have e1 : decide (n < 2) = false := decide_eq_false h1
  have e2 : decide ((999 : Int) < n) = false := decide_eq_false h2
  have e3 : decide (t < 1) = false := decide_eq_false h3
  have e4 : decide ((4294967295 : Int) < t) = false := decide_eq_false h4
  have e5 : decide (b < 0) = true := by simp; omega
  have k1 : IntKind.u64.wrap t = t := by rw [show IntKind.u64.wrap t = t % 18446744073709551616 from rfl]; omega
  clear cd hmm h ht h1 h2 h3 h4
  go_enter Tryz.func7, Tryz.ntmps7
  go_wp2_with fail
  go_ret2
  exact ⟨rfl, rfl⟩
set_option maxHeartbeats 1000000 in
theorem jnew_b6 (cd : Cd K D w s) (b n t : Int) (ht : t ≤ 9223372036854775807) (h1 : ¬ n < 2) (h2 : ¬ 999 < n) (h3 : ¬ t < 1) (h4 : ¬ 4294967295 < t) (h5 : ¬ b < 0) (h : (s.pages.length : Int) - n < b) : Calls Tryz.prog 7 #[.pointer (some ⟨D, 0, none⟩), .int .i64 b, .int .i64 n, .int .i64 t] w fun e w' => e = .returned (.tuple #[.pointer none, .int .i64 1]) ∧ w' = w := by
  have HS := hid (size_cd cd)
  have hm := cd.good.n2
  obtain ⟨m, hmm⟩ : ∃ m, s.pages.length = m := ⟨_, rfl⟩
  rw [hmm] at HS hm
  rw [hmm] at h
  have e1 : decide (n < 2) = false := decide_eq_false h1
  have e2 : decide ((999 : Int) < n) = false := decide_eq_false h2
  have e3 : decide (t < 1) = false := decide_eq_false h3
  have e4 : decide ((4294967295 : Int) < t) = false := decide_eq_false h4
  have e5 : decide (b < 0) = false := decide_eq_false h5
  have e6 : decide ((m : Int) - n < b) = true := by simp; omega
  have k1 : IntKind.u64.wrap t = t := by rw [show IntKind.u64.wrap t = t % 18446744073709551616 from rfl]; omega
  have k2 : wrap64 ((m : Int) - n) = (m : Int) - n := by unfold wrap64; omega
  clear cd hmm h ht h1 h2 h3 h4 h5
  go_enter Tryz.func7, Tryz.ntmps7
  go_wp2_with (go_at_call 31; refine HS.out.mono ?_; rintro e w' ⟨rfl, hw⟩; obtain rfl := hw.symm)
  go_ret2
  exact ⟨rfl, rfl⟩
/-- a place that may not be -/
theorem jnew_bad (cd : Cd K D w s) (b n t : Int) (ht : t ≤ 9223372036854775807) (h : ¬ (2 ≤ n ∧ n ≤ 999 ∧ 1 ≤ t ∧ t ≤ 4294967295 ∧ 0 ≤ b ∧ b + n ≤ (s.pages.length : Int))) : Calls Tryz.prog 7 #[.pointer (some ⟨D, 0, none⟩), .int .i64 b, .int .i64 n, .int .i64 t] w fun e w' => e = .returned (.tuple #[.pointer none, .int .i64 1]) ∧ w' = w := by
  by_cases h1 : n < 2
  · exact jnew_b1 cd b n t ht h1
  · by_cases h2 : 999 < n
    · exact jnew_b2 cd b n t ht h1 h2
    · by_cases h3 : t < 1
      · exact jnew_b3 cd b n t ht h1 h2 h3
      · by_cases h4 : 4294967295 < t
        · exact jnew_b4 cd b n t ht h1 h2 h3 h4
        · by_cases h5 : b < 0
          · exact jnew_b5 cd b n t ht h1 h2 h3 h4 h5
          · exact jnew_b6 cd b n t ht h1 h2 h3 h4 h5 (by omega)
set_option maxHeartbeats 1000000 in
theorem jnew_ok (cd : Cd K D w s) (b n t : Nat) (ok : JOk b n t) (hp : b + n ≤ s.pages.length) : Calls Tryz.prog 7 #[.pointer (some ⟨D, 0, none⟩), .int .i64 (b : Int), .int .i64 (n : Int), .int .i64 (t : Int)] w fun e w' => e = .returned (.tuple #[.pointer (some ⟨w.heap.size, 0, none⟩), .int .i64 0]) ∧ w' = w.alloc (.cells #[.pointer (some ⟨D, 0, none⟩), .int .i64 (b : Int), .int .i64 (n : Int), .int .i64 (t : Int)] 68) := by
  have HS := hid (size_cd cd)
  have hm := cd.good.n2
  obtain ⟨m, hmm⟩ : ∃ m, s.pages.length = m := ⟨_, rfl⟩
  rw [hmm] at HS hm hp
  obtain ⟨o1, o2, o3, o4, o5⟩ := ok
  have e1 : decide ((n : Int) < 2) = false := by simp; omega
  have e2 : decide ((999 : Int) < (n : Int)) = false := by simp; omega
  have e2' : decide (999 < n) = false := by simp; omega
  have e3 : decide ((t : Int) < 1) = false := by simp; omega
  have e4 : decide ((4294967295 : Int) < (t : Int)) = false := by simp; omega
  have e4' : decide (4294967295 < t) = false := by simp; omega
  have e5 : decide ((b : Int) < 0) = false := by simp
  have e6 : decide ((m : Int) - (n : Int) < (b : Int)) = false := by simp; omega
  have k1 : IntKind.u64.wrap (t : Int) = t := by rw [show IntKind.u64.wrap (t : Int) = (t : Int) % 18446744073709551616 from rfl]; omega
  have k2 : wrap64 ((m : Int) - (n : Int)) = (m : Int) - (n : Int) := by unfold wrap64; omega
  clear cd hmm hp o1 o2 o3 o4 o5
  go_enter Tryz.func7, Tryz.ntmps7
  go_wp2_with (go_at_call 31; refine HS.out.mono ?_; rintro e w' ⟨rfl, hw⟩; obtain rfl := hw.symm)
  go_ret2
  exact ⟨rfl, rfl⟩
/-- a new journal on a disk -/
theorem jnew_jk (cd : Cd K D w s) (hL : Lst w) (k0 : K 0) (b n t : Nat) (ok : JOk b n t) (hp : b + n ≤ s.pages.length) : Calls Tryz.prog 7 #[.pointer (some ⟨D, 0, none⟩), .int .i64 (b : Int), .int .i64 (n : Int), .int .i64 (t : Int)] w fun e w' => e = .returned (.tuple #[.pointer (some ⟨w.heap.size, 0, none⟩), .int .i64 0]) ∧ Jk (fun j => K j ∨ j = w.heap.size) w.heap.size D w' s b n t ∧ Below w.heap.size w w' := by
  refine (jnew_ok cd b n t ok hp).mono ?_
  rintro e w' ⟨rfl, rfl⟩
  have hb := (Below.refl w.heap.size w).alloc (Nat.le_refl _) (.cells #[.pointer (some ⟨D, 0, none⟩), .int .i64 (b : Int), .int .i64 (n : Int), .int .i64 (t : Int)] 68)
  exact ⟨rfl, ⟨cd.more hb (fun k hk => hk.imp id (fun e => by omega)) (fun k hk => by
    rcases hk with hk | hk
    · have := cd.lt k hk; simp; omega
    · subst hk; simp), .inr rfl, .inl k0, heap_alloc_new _ _, hL.next hL.pos hb⟩, hb⟩
/-- a new disk -/
theorem dnew (n : Nat) (w : World) (h1 : 1 ≤ n) (h2 : n ≤ 1000) : Calls Tryz.prog 5 #[.int .i64 (n : Int)] w fun e w' => ∃ D, e = .returned (.tuple #[.pointer (some ⟨D, 0, none⟩), .int .i64 0]) ∧ Cd (fun j => j < w.heap.size) D w' (newS (blanks n)) ∧ Below w.heap.size w w' :=
  (new_ok n w h1 h2).mono fun _ _ ⟨d, g1, g2, g3, g4⟩ => ⟨d.D, g1, ⟨⟨d, rfl, g2, fun k hk h => by have := g4 k hk; omega⟩, fun k hk => Nat.lt_of_lt_of_le hk g3.size⟩, g3⟩
end
/-- at most 30 pages of 300 bytes -/
def FewP (L : List PageT) : Prop := L.length ≤ 30 ∧ ∀ j (h : j < L.length), L[j].2.2.size ≤ 300
set_option maxRecDepth 100000 in
set_option maxHeartbeats 4000000 in
theorem few_any (L : List PageT) (p : Option Addr) (c : Nat) (w : World) (hp : Pgs w p L) (r : Bool) (hr : r = true ↔ FewP L) :
    Calls Tryz.prog 9 #[.slice p L.length c] w fun e w' => e = .returned (.bool r) ∧ Below w.heap.size w w' := by
  obtain ⟨n, hn⟩ : ∃ n, L.length = n := ⟨_, rfl⟩
  have H := hid hp; have HN := hid hn; have HR := hid hr
  rw [hn]
  by_cases hl : n ≤ 30
  · have e1 : decide ((30 : Int) < (n : Int)) = false := by simp; omega
    have e2 : decide (30 < n) = false := by simp; omega
    clear hp hn hr
    go_enter Tryz.func9, Tryz.ntmps9
    go_wp2_with fail
    clear e1 e2
    go_loopw [3] (fun s wr => ∃ i : Nat, s = .int .i64 i ∧ i ≤ n ∧ Below w.heap.size w wr ∧ ∀ j (h : j < L.length), j < i → L[j].2.2.size ≤ 300) (fun s _ => n - (intOf s).toNat)
    case atStart => exact ⟨0, rfl, Nat.zero_le _, Below.refl _ _, fun j _ hj => absurd hj (Nat.not_lt_zero _)⟩
    case round =>
      obtain ⟨i, rfl, hi, hb, hms⟩ := hrel
      have HB := hid hb; have HMS := hid hms
      clear hb hms
      by_cases hlt : i < n
      · have hiL : i < L.length := by rw [HN.out]; exact hlt
        obtain ⟨b, off, rfl, hbl, d0, d1, d2⟩ := H.out.below HB.out i hiL
        have HI := hid hlt
        obtain ⟨b0, e0⟩ : ∃ q, (L[i]'hiL).2.2 = q := ⟨_, rfl⟩
        rw [e0] at d2
        have HE := hid e0
        clear e0 d0 d1
        by_cases hbig : b0.size ≤ 300
        · have e1 : decide ((300 : Int) < (b0.size : Int)) = false := by simp; omega
          have e2 : decide (300 < b0.size) = false := by simp; omega
          have HBG := hid hbig
          clear hbig
          go_wp2_with fail
          go_roundw
          case rel => exact ⟨i + 1, by go_num, HI.out, HB.out, fun j hj hji => by
            rcases Nat.lt_or_ge j i with h | h
            · exact HMS.out j hj h
            · obtain rfl : j = i := by omega
              rw [HE.out]; exact HBG.out⟩
          case measure => simp [intOf]; have := HI.out; omega
        · have e1 : decide ((300 : Int) < (b0.size : Int)) = true := by simp; omega
          have e2 : decide (300 < b0.size) = true := by simp; omega
          have hrf : r = false := by
            cases hr2 : r with
            | false => rfl
            | true => exact absurd (by rw [← HE.out]; exact (HR.out.1 hr2).2 i hiL) hbig
          have HRF := hid hrf
          clear hrf hbig
          go_wp2_with fail
          go_ret
          exact ⟨by rw [HRF.out]; rfl, HB.out⟩
      · obtain rfl : i = n := by omega
        have HRF := hid (show r = true from HR.out.2 ⟨by rw [HN.out]; exact hl, fun j hj => HMS.out j hj (by rw [← HN.out]; exact hj)⟩)
        clear hlt hi
        go_wp2_with fail
        go_ret
        exact ⟨by rw [HRF.out]; rfl, HB.out⟩
  · have e1 : decide ((30 : Int) < (n : Int)) = true := by simp; omega
    have e2 : decide (30 < n) = true := by simp; omega
    have hrf : r = false := by
      cases hr2 : r with
      | false => rfl
      | true => exact absurd (by rw [← HN.out]; exact (HR.out.1 hr2).1) hl
    have HRF := hid hrf
    clear hp hn hr hrf hl
    go_enter Tryz.func9, Tryz.ntmps9
    go_wp2_with fail
    go_ret
    exact ⟨by rw [HRF.out]; rfl, Below.refl _ _⟩
theorem pageB_eq (p q : PageT) : pageB p.1 p.2.1 q.1 q.2.1 p.2.2 q.2.2 = decide (p = q) := by
  obtain ⟨a, b, c⟩ := p
  obtain ⟨a', b', c'⟩ := q
  rw [Bool.eq_iff_iff]
  unfold pageB
  simp only [Bool.and_eq_true, beq_iff_eq, decide_eq_true_iff, Prod.mk.injEq]
  constructor
  · rintro ⟨h1, h2, h3⟩
    rw [Go.ByteArray.toList_eq, Go.ByteArray.toList_eq] at h3
    exact ⟨h1, h2, text_inj h3⟩
  · rintro ⟨rfl, rfl, rfl⟩
    exact ⟨rfl, rfl, rfl⟩
theorem nepg (p q : PageT) (w : World) : (binOp .neq 62 (.agg #[.int .i64 p.1, .int .i64 p.2.1, .string p.2.2]) (.agg #[.int .i64 q.1, .int .i64 q.2.1, .string q.2.2])).run Tryz.prog w = .ok (.bool (!decide (p = q))) w := by
  rw [← pageB_eq]
  have ht : Tryz.prog.underlying 62 = some (.struct (Tryz.prog.fieldsOf 62)) := by kernel_rfl
  have hp : Tryz.prog.stoodInHeld 62 = false := by kernel_rfl
  rw [run_neq_struct, show (10000 : Nat) = 9999 + 1 from rfl, run_equalIn_struct _ _ _ _ _ ht hp]
  simp only [Program.fieldsOf, Tryz.underlying62]
  unfold pageB
  by_cases h1 : p.1 = q.1
  · by_cases h2 : p.2.1 = q.2.1
    · by_cases h3 : p.2.2.toList = q.2.2.toList <;> simp [Op.eqFields, go_sem, h1, h2, h3]
    · simp [Op.eqFields, go_sem, h1, h2]
  · simp [Op.eqFields, go_sem, h1]
set_option maxRecDepth 100000 in
set_option maxHeartbeats 4000000 in
theorem pages_any (L M : List PageT) (p q : Option Addr) (c d : Nat) (w : World) (hp : Pgs w p L) (hq : Pgs w q M) (hl : L.length ≤ 1000000) :
    Calls Tryz.prog 22 #[.slice p L.length c, .slice q M.length d] w fun e w' => e = .returned (.bool (decide (L = M))) ∧ Below w.heap.size w w' := by
  obtain ⟨n, hn⟩ : ∃ n, L.length = n := ⟨_, rfl⟩
  obtain ⟨m, hm⟩ : ∃ n, M.length = n := ⟨_, rfl⟩
  have H := hid hp; have HQ := hid hq; have HN := hid hn; have HM := hid hm
  rw [hn] at hl
  rw [hn, hm]
  obtain ⟨r, hr⟩ : ∃ r, decide (L = M) = r := ⟨_, rfl⟩
  have HR := hid hr
  rw [hr]
  by_cases hnm : n = m
  · subst hnm
    clear hp hq hn hm hr
    go_enter Tryz.func22, Tryz.ntmps22
    go_wp2_with fail
    go_loopw [5] (fun s wr => ∃ i : Nat, s = .int .i64 i ∧ i ≤ n ∧ Below w.heap.size w wr ∧ ∀ j (h : j < L.length) (h' : j < M.length), j < i → L[j] = M[j]) (fun s _ => n - (intOf s).toNat)
    case atStart => exact ⟨0, rfl, Nat.zero_le _, Below.refl _ _, fun j _ _ hj => absurd hj (Nat.not_lt_zero _)⟩
    case round =>
      obtain ⟨i, rfl, hi, hb, hms⟩ := hrel
      have HB := hid hb; have HMS := hid hms
      clear hb hms
      by_cases hlt : i < n
      · have hiL : i < L.length := by rw [HN.out]; exact hlt
        have hiM : i < M.length := by rw [HM.out]; exact hlt
        obtain ⟨b, off, rfl, hbl, d0, d1, d2⟩ := H.out.below HB.out i hiL
        obtain ⟨b', off', rfl, hbl', g0, g1, g2⟩ := HQ.out.below HB.out i hiM
        have HI := hid hlt
        have heq := fun V => nepg (L[i]'hiL) (M[i]'hiM) V
        obtain ⟨q0, e0⟩ : ∃ q, (L[i]'hiL) = q := ⟨_, rfl⟩
        obtain ⟨q1, e1⟩ : ∃ q, (M[i]'hiM) = q := ⟨_, rfl⟩
        rw [e0] at d0 d1 d2 heq
        rw [e1] at g0 g1 g2 heq
        have HE0 := hid e0; have HE1 := hid e1
        clear e0 e1
        obtain ⟨k0, m0, b0⟩ := q0
        obtain ⟨k1, m1, b1⟩ := q1
        dsimp only at d0 d1 d2 g0 g1 g2 heq
        by_cases hsame : ((k0, m0, b0) : PageT) = (k1, m1, b1)
        · rw [show decide (((k0, m0, b0) : PageT) = (k1, m1, b1)) = true from decide_eq_true hsame] at heq
          have HS := hid hsame
          clear hsame
          go_wp2_with fail
          go_quiet (fail)
          have HBq := hid (HB.out.trans ((below_drewN (Below.refl wr.heap.size wr) nq).mono HB.out.size))
          go_wp2_with fail
          go_roundw
          case rel => exact ⟨i + 1, by go_num, HI.out, HBq.out, fun j hj hj' hji => by
            rcases Nat.lt_or_ge j i with h | h
            · exact HMS.out j hj hj' h
            · obtain rfl : j = i := by omega
              rw [HE0.out, HE1.out]; exact HS.out⟩
          case measure => simp [intOf]; have := HI.out; omega
        · rw [show decide (((k0, m0, b0) : PageT) = (k1, m1, b1)) = false from decide_eq_false hsame] at heq
          have HRF := hid (show r = false by
            rw [← HR.out, decide_eq_false_iff_not]
            intro e
            apply hsame
            rw [← HE0.out, ← HE1.out]
            simp only [e])
          clear hsame
          go_wp2_with fail
          go_quiet (fail)
          have HBq := hid (HB.out.trans ((below_drewN (Below.refl wr.heap.size wr) nq).mono HB.out.size))
          go_wp2_with fail
          go_ret
          exact ⟨by rw [HRF.out]; rfl, HBq.out⟩
      · obtain rfl : i = n := by omega
        have HRF := hid (show r = true by
          rw [← HR.out, decide_eq_true_iff]
          exact List.ext_getElem (by rw [HN.out, HM.out]) fun j h h' => HMS.out j h h' (by rw [← HN.out]; exact h))
        clear hlt hi
        go_wp2_with fail
        go_ret
        exact ⟨by rw [HRF.out]; rfl, HB.out⟩
  · have e1 : ((n : Int) != (m : Int)) = true := by simp; omega
    have e2 : (n != m) = true := by simp; omega
    have HRF := hid (show r = false by
      rw [← HR.out, decide_eq_false_iff_not]
      intro e
      apply hnm
      rw [← HN.out, ← HM.out, e])
    clear hp hq hn hm hr hnm
    go_enter Tryz.func22, Tryz.ntmps22
    go_wp2_with fail
    go_ret
    exact ⟨by rw [HRF.out]; rfl, Below.refl _ _⟩
end Go.Proofs.YtaonifdfhlbaiaaGreatDoor.Jn

/- live of journal: the document's examples. -/
namespace Go.Proofs.YtaonifdfhlbaiaaGreatDoor.Jn
open Go.RowKit
open Go.Lib (hid)
open Go.Proofs.YtaonifdfhlbaiaaGreatDoor.Dk
open Go.Proofs.YtaonifdfhlbaiaaGreatDoor.En (Lst PageT Pgs mayS)
open Go.Proofs.YtaonifdfhlbaiaaGreatDoor.Pg (openL)
section
variable {K : Nat → Prop} {J D b n t : Nat} {w w' : World} {s s' : St}
theorem Jk.add (h : Jk K J D w s b n t) (o : Obj) : Jk (fun j => K j ∨ j = w.heap.size) J D (w.alloc o) s b n t :=
  have hb := (Below.refl w.heap.size w).alloc (Nat.le_refl _) o
  ⟨h.cd.more hb (fun k hk => hk.imp id (fun e => by omega)) (fun k hk => by
    rcases hk with hk | hk
    · have := h.cd.lt k hk; simp; omega
    · subst hk; simp), .inl h.kJ, .inl h.k0, h.j.below hb, h.lst.next h.lst.pos hb⟩
theorem Jk.less {K' : Nat → Prop} (h : Jk K J D w s b n t) (hk : ∀ j, K' j → K j) (kJ : K' J) (k0 : K' 0) : Jk K' J D w s b n t := ⟨h.cd.less hk, kJ, k0, h.j, h.lst⟩
theorem Jk.not0 (h : Jk K J D w s b n t) : J ≠ 0 := by
  intro e
  have h1 := h.j.cells.1
  rw [e, h.lst.c0] at h1
  cases h1
theorem set_block (w : World) (g i : Nat) (v : Value) (k : Nat) (hk : k ≠ g) : (w.setCell ⟨g, i, none⟩ v).heap[k]? = w.heap[k]? := by
  unfold World.setCell
  simp only [Array.getElem?_modify, if_neg (Ne.symm hk)]
theorem Jk.tx (h : Jk K J D w s b n t) (t' : Nat) : Jk K J D (w.setCell ⟨J, 3, none⟩ (.int .i64 (t' : Int))) s b n t' := by
  have hb : ∀ k, k ≠ J → (w.setCell ⟨J, 3, none⟩ (.int .i64 (t' : Int))).heap[k]? = w.heap[k]? := fun k hk => set_block _ _ _ _ _ hk
  refine ⟨h.cd.turn (by rw [World.size_setCell]; exact Nat.le_refl _) (fun k _ hk => hb k (fun e => hk (e ▸ h.kJ))), h.kJ, h.k0, jset h.j t', ?_⟩
  have hc : ∀ i, (w.setCell ⟨J, 3, none⟩ (.int .i64 (t' : Int))).cell? ⟨0, i, none⟩ = w.cell? ⟨0, i, none⟩ := fun i => by
    unfold World.cell?
    rw [hb 0 (Ne.symm h.not0)]
  exact ⟨(hc 0).trans h.lst.c0, (hc 1).trans h.lst.c1, (hc 2).trans h.lst.c2, (hc 3).trans h.lst.c3⟩
theorem KS.set {w0 : World} (h : KS K w0 w) (J i : Nat) (v : Value) (hJ : w0.heap.size ≤ J) : KS K w0 (w.setCell ⟨J, i, none⟩ v) :=
  ⟨h.os, h.tape, h.output, by rw [World.size_setCell]; exact h.size, fun k hk e => by rw [set_block _ _ _ _ _ (by omega)]; exact h.block k hk e⟩
theorem pgs_set {p : Option Addr} {L : List PageT} (h : Pgs w p L) (J i : Nat) (v : Value) (hp : ∀ g off, p = some ⟨g, off, none⟩ → g ≠ J) : Pgs (w.setCell ⟨J, i, none⟩ v) p L := fun j hj => by
  obtain ⟨g, off, e, hl, c0, c1, c2⟩ := h j hj
  have hne := hp g off e
  exact ⟨g, off, e, by rw [World.size_setCell]; exact hl, by rw [World.cell?_setCell_other _ _ _ _ (by intro e2; injection e2; omega)]; exact c0, by rw [World.cell?_setCell_other _ _ _ _ (by intro e2; injection e2; omega)]; exact c1, by rw [World.cell?_setCell_other _ _ _ _ (by intro e2; injection e2; omega)]; exact c2⟩
end
/-- of blank pages nothing is scanned -/
theorem no_blank {m i t : Nat} (kd pk pn : Int) (bo : ByteArray) (ct sm : Int) : ¬ IsJ blankB m i t kd pk pn bo ct sm := by
  rintro ⟨S, h, -⟩
  have e : blankB.data.toList = Pg.blankL := by unfold blankB; rw [List.toList_toArray]
  rw [e] at h
  unfold openL at h
  rw [if_neg (by simp [Pg.blankL, Pg.zs_length]), if_pos rfl] at h
  cases h
theorem scan_new {m b n t : Nat} (hn : 0 < n) (hb : b < m) : Scans (vw (newS (blanks m))) b n t 0 [] none :=
  Scans.no hn fun kd pk pn bo ct sm h => by
    rw [show vw (newS (blanks m)) (b + 0) = blankB by
      show (blanks m).getD (b + 0) emptyB = blankB
      unfold blanks
      rw [List.getD_eq_getElem?_getD, List.getElem?_replicate, if_pos (by omega)]; rfl] at h
    exact no_blank kd pk pn bo ct sm h
abbrev lvA : ByteArray := ⟨#[97]⟩
abbrev lvB : ByteArray := ⟨#[98]⟩
abbrev lvL : List PageT := [((2 : Int), (1 : Int), lvA), ((3 : Int), (2 : Int), lvB)]
abbrev lv4 : List PageT := [((2 : Int), (1 : Int), lvA), ((2 : Int), (1 : Int), lvA), ((2 : Int), (1 : Int), lvA), ((2 : Int), (1 : Int), lvA)]
theorem lv_ok : JOk 4 4 1 := ⟨by decide, by decide, by decide, by decide, by decide⟩
theorem lv_s1 : mayS 2 1 lvA := ⟨by decide, by decide, by decide, by decide, by decide, by decide⟩
theorem lv_s2 : mayS 3 2 lvB := ⟨by decide, by decide, by decide, by decide, by decide, by decide⟩
theorem lv_all : AllS lvL := fun j hj => by
  have : j = 0 ∨ j = 1 := by simp at hj; omega
  rcases this with rfl | rfl
  · exact lv_s1
  · exact lv_s2
theorem lv_all4 : AllS lv4 := fun j hj => by
  have : j = 0 ∨ j = 1 ∨ j = 2 ∨ j = 3 := by simp at hj; omega
  rcases this with rfl | rfl | rfl | rfl <;> exact lv_s1
set_option maxRecDepth 100000 in
set_option maxHeartbeats 4000000 in
theorem live_any (w : World) (hL : Lst w) : Calls Tryz.prog 4 #[] w fun e w' => e = .returned (.bool true) ∧ Below w.heap.size w w' := by
  have HL := hid hL
  have HP := hid hL.pos
  have HK0 := hid (fun (V : World) (h : KS (fun j => j < w.heap.size) w V) => h.below (Nat.le_refl _) (fun k hk => hk))
  have HD := hid (show Calls Tryz.prog 5 #[.int .i64 10] w fun e w' => ∃ D, e = .returned (.tuple #[.pointer (some ⟨D, 0, none⟩), .int .i64 0]) ∧ Cd (fun j => j < w.heap.size) D w' (newS (blanks 10)) ∧ Below w.heap.size w w' from dnew 10 w (by decide) (by decide))
  clear hL
  go_enter Tryz.func4, Tryz.ntmps4
  go_wp2_with fail
  refine HD.out.mono ?_
  rintro e w1 ⟨D, rfl, hc, hb⟩
  have HC1 := hid hc
  have HB1 := hid hb
  have HN := hid (show Calls Tryz.prog 7 #[.pointer (some ⟨D, 0, none⟩), .int .i64 4, .int .i64 4, .int .i64 1] w1 fun e w' => e = .returned (.tuple #[.pointer (some ⟨w1.heap.size, 0, none⟩), .int .i64 0]) ∧ Jk (fun j => j < w.heap.size ∨ j = w1.heap.size) w1.heap.size D w' (newS (blanks 10)) 4 4 1 ∧ Below w1.heap.size w1 w' from jnew_jk hc (HL.out.next HP.out hb) HP.out 4 4 1 lv_ok (by decide))
  clear hc hb HD
  go_wp2_with fail
  refine HN.out.mono ?_
  rintro e w2 ⟨rfl, hj, hb⟩
  have HJ2 := hid hj
  have HB2 := hid (HB1.out.trans (hb.mono HB1.out.size))
  have HB2' := hid (show w1.heap.size < w2.heap.size from hj.j.lt)
  have HN2 := hid (jnew_bad hj.cd 7 4 1 (by decide) (by show ¬ (_ ∧ _ ∧ _ ∧ _ ∧ _ ∧ (7 : Int) + 4 ≤ ((blanks 10).length : Int)); simp [blanks]))
  clear hj hb HN
  go_wp2_with fail
  refine HN2.out.mono ?_
  rintro e w' ⟨rfl, hw⟩
  obtain rfl := hw.symm
  clear HN2
  have HJ3 := hid (HJ2.out.add (.cells #[.int .i64 2, .int .i64 1, .string ⟨#[97]⟩, .int .i64 3, .int .i64 2, .string ⟨#[98]⟩] 62))
  have HK3 := hid (KS.of (K := fun j => j < w.heap.size) (HB2.out.trans (((Below.refl w2.heap.size w2).alloc (Nat.le_refl _) (.cells #[.int .i64 2, .int .i64 1, .string ⟨#[97]⟩, .int .i64 3, .int .i64 2, .string ⟨#[98]⟩] 62)).mono HB2.out.size)))
  have HX3 := hid (heap_alloc_new w2 (.cells #[.int .i64 2, .int .i64 1, .string ⟨#[97]⟩, .int .i64 3, .int .i64 2, .string ⟨#[98]⟩] 62))
  go_wp2_with fail
  generalize w2.alloc (.cells #[.int .i64 2, .int .i64 1, .string ⟨#[97]⟩, .int .i64 3, .int .i64 2, .string ⟨#[98]⟩] 62) = w3 at *
  have HPl := hid (show Pgs w3 (some ⟨w2.heap.size, 0, none⟩) lvL from fun j hj => by
    have h := HX3.out
    have : j = 0 ∨ j = 1 := by simp at hj; omega
    rcases this with rfl | rfl
    · exact ⟨w2.heap.size, 0, rfl, (Array.getElem?_eq_some_iff.1 h).1, by rw [cell_of_row _ _ _ _ _ _ h]; rfl, by rw [cell_of_row _ _ _ _ _ _ h]; rfl, by rw [cell_of_row _ _ _ _ _ _ h]; rfl⟩
    · exact ⟨w2.heap.size, 0, rfl, (Array.getElem?_eq_some_iff.1 h).1, by rw [cell_of_row _ _ _ _ _ _ h]; rfl, by rw [cell_of_row _ _ _ _ _ _ h]; rfl, by rw [cell_of_row _ _ _ _ _ _ h]; rfl⟩)
  have HSC := hid (jscan HJ3.out lv_ok (by decide) (few_new _) (by decide))
  refine HSC.out.mono ?_
  rintro e w4 ⟨r, s4, K4, hr, he, hKK, hc, hks, hsm, hfw⟩
  obtain rfl := hr.det (scan_new (by decide) (by decide))
  have he : e = .returned (.tuple #[.slice none 0 0, .bool false]) := he
  subst he
  have HJ4 := hid ((HJ3.out.at hks hc hKK).less hKK HJ3.out.kJ HJ3.out.k0)
  have HK4 := hid (HK3.out.trans (KS.less hks (fun j e => .inl (.inl e))))
  have HPl4 := hid (pgs_ks HPl.out hks (fun g off e _ => by injection e with e; injection e with e1 e2; exact .inr e1.symm))
  have HX4 := hid ((hks.block w2.heap.size (Array.getElem?_eq_some_iff.1 HX3.out).1 (.inr rfl)).trans HX3.out)
  have HF4 := hid hfw
  have HS4 := hid (show s4.fuse = -1 from hsm.fuse)
  have HG4 := hid (show s4.pages.length = 10 by rw [hsm.pages]; decide)
  clear hr hKK hc hks hsm hfw HSC HJ3 HK3 HX3 HPl HJ2
  go_wp2_with fail
  have HC := hid (jcom_ok HJ4.out lv_ok HF4.out (some ⟨w2.heap.size, 0, none⟩) lvL 2 (by decide) HPl4.out (fun g off e _ => by injection e with e; injection e with e1 e2; exact .inr e1.symm) (by decide) lv_all 3 rfl (by decide))
  have HF5 := hid (few_com HF4.out 4 1 lvL)
  have HS5 := hid (com_fuse HS4.out 4 1 lvL)
  have HG5 := hid (show (comS s4 4 1 lvL).pages.length = 10 by rw [com_len]; exact HG4.out)
  have HV5 := hid (com_scan HS4.out lv_ok (L := lvL) (by decide) lv_all (by decide) (by rw [HG4.out]; decide))
  have HW5 := hid (com_vw HS4.out lv_ok (L := lvL) (by decide) lv_all (by decide) (by rw [HG4.out]; decide) 4)
  generalize comS s4 4 1 lvL = s5 at *
  refine HC.out.mono ?_
  rintro e w5 ⟨rfl, hc, hks⟩
  have HJ5 := hid (HJ4.out.step hc hks)
  have HK5 := hid (HK4.out.trans (KS.less hks (fun j e => .inl (.inl e))))
  have HPl5 := hid (pgs_ks HPl4.out hks (fun g off e _ => by injection e with e; injection e with e1 e2; exact .inr e1.symm))
  have HX5 := hid ((hks.block w2.heap.size (Array.getElem?_eq_some_iff.1 HX4.out).1 (.inr rfl)).trans HX4.out)
  clear hc hks HC HJ4 HK4 HPl4 HX4 HF4 HS4 HG4
  go_wp2_with fail
  have HSC := hid (jscan HJ5.out lv_ok (by rw [HG5.out]; decide) HF5.out (by decide))
  refine HSC.out.mono ?_
  rintro e w6 ⟨r, s6, K6, hr, he, hKK, hc, hks, hsm, hfw⟩
  obtain rfl := hr.det HV5.out
  obtain ⟨mp, mc, rfl, hpm, hmg⟩ := he
  have HJ6 := hid (HJ5.out.at hks hc hKK)
  have HK6 := hid (HK5.out.trans (KS.less hks (fun j e => .inl (.inl e))))
  have HPl6 := hid (pgs_ks HPl5.out hks (fun g off e _ => by injection e with e; injection e with e1 e2; exact .inr e1.symm))
  have HX6 := hid ((hks.block w2.heap.size (Array.getElem?_eq_some_iff.1 HX5.out).1 (.inr rfl)).trans HX5.out)
  have HPm6 := hid hpm
  have HMG := hid hmg
  have HKL := hid (show ∀ j, j < w.heap.size → K6 j from fun j e => hKK j (.inl (.inl e)))
  have HK6l := hid (hKK w2.heap.size (.inr rfl))
  have HSZ := hid (show w2.heap.size < w5.heap.size from (Array.getElem?_eq_some_iff.1 HX5.out).1)
  have HF6 := hid hfw
  have HG6 := hid (show s6.pages.length = 10 by rw [hsm.pages]; exact HG5.out)
  have HV6 := hid (show vw s6 4 = pgJ 4 1 (1 : Nat) (0 : Nat) 2 1 lvA 0 0 by rw [hsm.vw, HW5.out]; rfl)
  clear hr hpm hmg hKK hc hks hsm hfw HSC HJ5 HK5 HX5 HPl5 HF5 HG5 HS5 HV5 HW5
  go_wp2_with fail
  have HDD := hid fun (V : World) (hv : Below w6.heap.size w6 V) => (show V.cell? ⟨w2.heap.size, 0, none⟩ = some (.int .i64 2) ∧ V.cell? ⟨w2.heap.size, 1, none⟩ = some (.int .i64 1) ∧ V.cell? ⟨w2.heap.size, 2, none⟩ = some (.string lvA) from by
    have h := (hv.block w2.heap.size (Array.getElem?_eq_some_iff.1 HX6.out).1).trans HX6.out
    exact ⟨by rw [cell_of_row _ _ _ _ _ _ h]; rfl, by rw [cell_of_row _ _ _ _ _ _ h]; rfl, by rw [cell_of_row _ _ _ _ _ _ h]; rfl⟩)
  have y0 := HDD.out _ (Below.refl w6.heap.size w6).drew
  have x0 := HDD.out _ (Below.refl w6.heap.size w6)
  have BA := hid (((Below.refl w6.heap.size w6).alloc (Nat.le_refl _) (.cells #[.int .i64 2, .int .i64 1, .string lvA, .int .i64 2, .int .i64 1, .string lvA, .int .i64 2, .int .i64 1, .string lvA, .int .i64 2, .int .i64 1, .string lvA] 62)).drew)
  have HQ4 := hid (show Pgs (w6.alloc (.cells #[.int .i64 2, .int .i64 1, .string lvA, .int .i64 2, .int .i64 1, .string lvA, .int .i64 2, .int .i64 1, .string lvA, .int .i64 2, .int .i64 1, .string lvA] 62)).drew (some ⟨w6.heap.size, 0, none⟩) lv4 from fun j hj => by
    have h := (show (w6.alloc (.cells #[.int .i64 2, .int .i64 1, .string lvA, .int .i64 2, .int .i64 1, .string lvA, .int .i64 2, .int .i64 1, .string lvA, .int .i64 2, .int .i64 1, .string lvA] 62)).drew.heap[w6.heap.size]? = some (.cells #[.int .i64 2, .int .i64 1, .string lvA, .int .i64 2, .int .i64 1, .string lvA, .int .i64 2, .int .i64 1, .string lvA, .int .i64 2, .int .i64 1, .string lvA] 62) from heap_alloc_new w6 (.cells #[.int .i64 2, .int .i64 1, .string lvA, .int .i64 2, .int .i64 1, .string lvA, .int .i64 2, .int .i64 1, .string lvA, .int .i64 2, .int .i64 1, .string lvA] 62))
    have : j = 0 ∨ j = 1 ∨ j = 2 ∨ j = 3 := by simp at hj; omega
    rcases this with rfl | rfl | rfl | rfl <;> exact ⟨w6.heap.size, 0, rfl, (Array.getElem?_eq_some_iff.1 h).1, by rw [cell_of_row _ _ _ _ _ _ h]; rfl, by rw [cell_of_row _ _ _ _ _ _ h]; rfl, by rw [cell_of_row _ _ _ _ _ _ h]; rfl⟩)
  have HC4 := hid (show Calls Tryz.prog 10 #[.pointer (some ⟨w1.heap.size, 0, none⟩), .slice (some ⟨w6.heap.size, 0, none⟩) 4 4] (w6.alloc (.cells #[.int .i64 2, .int .i64 1, .string lvA, .int .i64 2, .int .i64 1, .string lvA, .int .i64 2, .int .i64 1, .string lvA, .int .i64 2, .int .i64 1, .string lvA] 62)).drew fun e w' => e = .returned (.int .i64 3) ∧ Below (w6.alloc (.cells #[.int .i64 2, .int .i64 1, .string lvA, .int .i64 2, .int .i64 1, .string lvA, .int .i64 2, .int .i64 1, .string lvA, .int .i64 2, .int .i64 1, .string lvA] 62)).drew.heap.size (w6.alloc (.cells #[.int .i64 2, .int .i64 1, .string lvA, .int .i64 2, .int .i64 1, .string lvA, .int .i64 2, .int .i64 1, .string lvA, .int .i64 2, .int .i64 1, .string lvA] 62)).drew w' from jcom_full (HJ6.out.next BA.out).j (HJ6.out.next BA.out).lst (by decide) (some ⟨w6.heap.size, 0, none⟩) lv4 4 HQ4.out (by decide) (by decide) lv_all4 3 rfl (by decide))
  go_region_held3 (fun V => V.cell? ⟨w2.heap.size, 0, none⟩ = some (.int .i64 2) ∧ V.cell? ⟨w2.heap.size, 1, none⟩ = some (.int .i64 1) ∧ V.cell? ⟨w2.heap.size, 2, none⟩ = some (.string lvA)) (first | exact x0 | exact y0 | exact y1 | go_keep)
    (first
      | (go_at_call 10; with_reducible refine HC4.out.mono ?_; rintro e w7 ⟨rfl, hb⟩; have B7 := hid (BA.out.trans (hb.mono BA.out.size)); have y1 := HDD.out _ B7.out; clear hb)
      | fail)
  have HJ7 := hid (HJ6.out.next B7.out)
  have HK7 := hid (HK6.out.trans (KS.of B7.out))
  have HPl7 := hid (HPl6.out.below B7.out)
  have HPm7 := hid (HPm6.out.below B7.out)
  have HC7 := hid (jcom_none HJ7.out.j none 0)
  clear HC4 HQ4 BA x0 y0 y1 HDD B7 HPl6 HPm6 HK6 HX6 HJ6
  go_wp2_with fail
  refine HC7.out.mono ?_
  rintro e w' ⟨rfl, hw⟩
  obtain rfl := hw.symm
  clear HC7
  have HN7 := hid (next_ok HJ7.out.j (by decide))
  go_wp2_with fail
  refine HN7.out.mono ?_
  rintro e w8 ⟨rfl, hw⟩
  have HJ8 := hid (show Jk K6 w1.heap.size D w8 s6 4 4 2 by rw [hw]; exact HJ7.out.tx 2)
  have HK8 := hid (show KS (fun j => j < w.heap.size) w w8 by rw [hw]; exact KS.set HK7.out _ _ _ HB1.out.size)
  have HPl8 := hid (show Pgs w8 (some ⟨w2.heap.size, 0, none⟩) lvL by rw [hw]; exact pgs_set HPl7.out _ _ _ (fun g off e => by injection e with e; injection e with e1 e2; have := HB2'.out; omega))
  have HPm8 := hid (show Pgs w8 mp lvL by rw [hw]; exact pgs_set HPm7.out _ _ _ (fun g off e => by have h1 := (HMG.out g off e).2; have := HSZ.out; have := HB2'.out; omega))
  clear hw HN7 HJ7 HK7 HPl7 HPm7
  have HSC := hid (jscan HJ8.out ⟨by decide, by decide, by decide, by decide, by decide⟩ (by rw [HG6.out]; decide) HF6.out (by decide))
  have HV8 := hid (show Scans (vw s6) 4 4 2 0 [] none from scan_other (t' := 1) (by decide) (by rw [HV6.out]; exact isJ_pgJ (by decide) (by decide) (may1 1 0 (by decide) (by decide) (by decide) lv_s1) (by decide)) (by decide))
  go_wp2_with fail
  refine HSC.out.mono ?_
  rintro e w9 ⟨r, s9, K9, hr, he, hKK, hc, hks, hsm, hfw⟩
  obtain rfl := hr.det HV8.out
  have he : e = .returned (.tuple #[.slice none 0 0, .bool false]) := he
  subst he
  have HJ9 := hid (HJ8.out.at hks hc hKK)
  have HK9 := hid (HK8.out.trans (KS.less hks HKL.out))
  have HPl9 := hid (pgs_ks HPl8.out hks (fun g off e _ => by injection e with e; injection e with e1 e2; exact e1 ▸ HK6l.out))
  have HPm9 := hid (pgs_ks HPm8.out hks (fun g off e _ => (HMG.out g off e).1))
  clear hr hKK hc hks hsm hfw HSC HJ8 HK8 HPl8 HPm8 HV8
  have HPA := hid fun (V : World) (hv : Below w9.heap.size w9 V) => (show Calls Tryz.prog 22 #[.slice mp 2 mc, .slice (some ⟨w2.heap.size, 0, none⟩) 2 2] V fun e w' => e = .returned (.bool true) ∧ Below V.heap.size V w' from by
    have h := pages_any lvL lvL mp (some ⟨w2.heap.size, 0, none⟩) mc 2 V (HPm9.out.below hv) (HPl9.out.below hv) (by decide)
    rw [show decide (lvL = lvL) = true from decide_eq_true rfl] at h; exact h)
  have HTX := hid fun (V : World) (hv : Below w9.heap.size w9 V) => tx_ok (HJ9.out.j.below hv)
  have HRM := hid fun (V : World) (hv : Below w9.heap.size w9 V) => room_ok (HJ9.out.j.below hv) 3 rfl (by decide)
  go_wp2_with fail
  refine (HPA.out _ (Below.refl _ _)).mono ?_
  rintro e wa ⟨rfl, hb⟩
  have HBa := hid hb
  clear hb
  go_wp2_with fail
  refine (HTX.out _ HBa.out).mono ?_
  rintro e w' ⟨rfl, hw⟩
  obtain rfl := hw.symm
  go_wp2_with fail
  refine (HRM.out _ HBa.out).mono ?_
  rintro e w' ⟨rfl, hw⟩
  obtain rfl := hw.symm
  go_wp2_with fail
  go_ret
  exact ⟨rfl, HK0.out _ (HK9.out.trans (KS.of HBa.out))⟩
end Go.Proofs.YtaonifdfhlbaiaaGreatDoor.Jn

/- What openers of this package's structs lean on. -/
namespace Go.Proofs.YtaonifdfhlbaiaaGreatDoor.En
open Go.RowKit
theorem wf_u32 {x : Int} (h : (Lit.int .u32 x).wf = true) : 0 ≤ x ∧ x < 4294967296 := Fd.wf_u32 h
theorem wf_i64 {x : Int} (h : (Lit.int .i64 x).wf = true) : -9223372036854775808 ≤ x ∧ x ≤ 9223372036854775807 := Fd.wf_i64 h
end Go.Proofs.YtaonifdfhlbaiaaGreatDoor.En

/- Structs that come in, opened (written by a program of mine). -/
namespace Go.Proofs.YtaonifdfhlbaiaaGreatDoor.En
open Go.RowKit
open Go.Lib (hid)
open Go.ChangeShapes Go.WideShapes Go.Joins Go.Deep
section
variable {H : Type} {enc : TypeId × Value → H} {W : World} {base : Nat} {sp : Nat → Bool} {hd : Bool}
theorem cz_Pg_s : Tryz.prog.cellsOf 39 = 1 := by kernel_rfl
theorem cz_int : Tryz.prog.cellsOf 3 = 1 := by kernel_rfl
theorem cz_page : Tryz.prog.cellsOf 62 = 3 := by kernel_rfl
theorem cz_string : Tryz.prog.cellsOf 9 = 1 := by kernel_rfl
theorem cz_u32 : Tryz.prog.cellsOf 70 = 1 := by kernel_rfl
theorem cz_one {l : List Value} {j c : Nat} {x : Value} (hx : l[j]? = some x) (hc : c = 1) : (l.drop j).take c = [x] := by
  subst hc
  obtain ⟨h, e⟩ := List.getElem?_eq_some_iff.1 hx
  rw [List.drop_eq_getElem_cons h, e]; rfl
theorem cz_two {l : List Value} {j c : Nat} {x y : Value} (hx : l[j]? = some x) (hy : l[j + 1]? = some y) (hc : c = 2) : (l.drop j).take c = [x, y] := by
  subst hc
  obtain ⟨h, e⟩ := List.getElem?_eq_some_iff.1 hx
  obtain ⟨h', e'⟩ := List.getElem?_eq_some_iff.1 hy
  rw [List.drop_eq_getElem_cons h, List.drop_eq_getElem_cons h', e, e']; rfl
theorem cz_three {l : List Value} {j c : Nat} {x y z : Value} (hx : l[j]? = some x) (hy : l[j + 1]? = some y) (hz : l[j + 2]? = some z) (hc : c = 3) : (l.drop j).take c = [x, y, z] := by
  subst hc
  obtain ⟨h, e⟩ := List.getElem?_eq_some_iff.1 hx
  obtain ⟨h', e'⟩ := List.getElem?_eq_some_iff.1 hy
  obtain ⟨h'', e''⟩ := List.getElem?_eq_some_iff.1 hz
  rw [List.drop_eq_getElem_cons h, List.drop_eq_getElem_cons h', List.drop_eq_getElem_cons h'', e, e', e'']; rfl
set_option maxRecDepth 100000 in
theorem pz_cells {n : Nat} {l : List Value} {x : DataW H × List MemPlace} (hl : l.length = 3) (h : DataW.trod enc Tryz.prog W base sp hd n 62 l = some x) :
    ∃ (k m : Int) (t : ByteArray), l = [.int .i64 k, .int .i64 m, .string t] ∧ (-9223372036854775808 ≤ k ∧ k ≤ 9223372036854775807) ∧ (-9223372036854775808 ≤ m ∧ m ≤ 9223372036854775807) ∧ t.size ≤ 9223372036854775807 := by
  obtain ⟨x0, x1, x2, rfl⟩ : ∃ x0 x1 x2, l = [x0, x1, x2] := by
    match l, hl with
    | [x0, x1, x2], _ => exact ⟨x0, x1, x2, rfl⟩
  obtain ⟨xs, m, _, _, _, hlen, hff⟩ := DataW.trod_struct Tryz.underlying62 h
  have hlen2 : xs.length = 3 := hlen
  have some_at : ∀ j, j < 3 → (xs[j]?).isSome = true := fun j hj => by rw [List.getElem?_eq_getElem (by omega)]; rfl
  obtain ⟨y0, hy0⟩ := Option.isSome_iff_exists.1 (some_at 0 (by omega))
  obtain ⟨y1, hy1⟩ := Option.isSome_iff_exists.1 (some_at 1 (by omega))
  obtain ⟨y2, hy2⟩ := Option.isSome_iff_exists.1 (some_at 2 (by omega))
  have h0 := hff 0 _ rfl
  have h1 := hff 1 _ rfl
  have h2 := hff 2 _ rfl
  rw [hy0] at h0
  rw [hy1] at h1
  rw [hy2] at h2
  have g0 : DataW.trod enc Tryz.prog W base sp hd m 3 [x0] = some y0 := by rw [← show (([x0, x1, x2] : List Value).drop 0).take (Tryz.prog.cellsOf 3) = [x0] from cz_one rfl cz_int]; exact h0
  have g1 : DataW.trod enc Tryz.prog W base sp hd m 3 [x1] = some y1 := by rw [← show (([x0, x1, x2] : List Value).drop 1).take (Tryz.prog.cellsOf 3) = [x1] from cz_one rfl cz_int]; exact h1
  have g2 : DataW.trod enc Tryz.prog W base sp hd m 9 [x2] = some y2 := by rw [← show (([x0, x1, x2] : List Value).drop 2).take (Tryz.prog.cellsOf 9) = [x2] from cz_one rfl cz_string]; exact h2
  obtain ⟨a0, e0, _, wf0⟩ := DataW.trod_int Tryz.underlying3 g0
  obtain ⟨a1, e1, _, wf1⟩ := DataW.trod_int Tryz.underlying3 g1
  obtain ⟨a2, e2, _, wf2⟩ := DataW.trod_string Tryz.underlying9 g2
  simp only [List.cons.injEq, and_true] at e0 e1 e2
  subst e0; subst e1; subst e2
  exact ⟨a0, a1, a2, rfl, wf_i64 wf0, wf_i64 wf1, (by unfold maxLen at wf2; omega)⟩
/-- what such a struct holds -/
structure PgD where
  a0 : Int
  a1 : Int
  t2 : ByteArray
def PgD.cells (d : PgD) : List Value := [.int .i64 d.a0, .int .i64 d.a1, .string d.t2]
structure PgD.Ok (w : World) (d : PgD) : Prop where
  f0 : (-9223372036854775808 ≤ d.a0 ∧ d.a0 ≤ 9223372036854775807)
  f1 : (-9223372036854775808 ≤ d.a1 ∧ d.a1 ≤ 9223372036854775807)
  f2 : d.t2.size ≤ 9223372036854775807
theorem PgD.Ok.below {w w' : World} {d : PgD} (h : d.Ok w) (_ : Below w.heap.size w w') : d.Ok w' := ⟨h.f0, h.f1, h.f2⟩
theorem cz_Pg : Tryz.prog.cellsOf 62 = 3 := by kernel_rfl
set_option maxRecDepth 100000 in
set_option maxHeartbeats 1000000 in
theorem pg_cells {n : Nat} {l : List Value} {x : DataW H × List MemPlace} (hl : l.length = 3) (hf : DataW.trod enc Tryz.prog W base sp hd n 62 l = some x) : ∃ d : PgD, l = d.cells ∧ d.Ok W := by
  obtain ⟨x0, x1, x2, rfl⟩ : ∃ x0 x1 x2, l = [x0, x1, x2] := by
    match l, hl with
    | [x0, x1, x2], _ => exact ⟨x0, x1, x2, rfl⟩
  obtain ⟨xs, m, _, _, _, hlen, hff⟩ := DataW.trod_struct Tryz.underlying62 hf
  have hlen2 : xs.length = 3 := hlen
  have some_at : ∀ j, j < 3 → (xs[j]?).isSome = true := fun j hj => by rw [List.getElem?_eq_getElem (by omega)]; rfl
  obtain ⟨y0, hy0⟩ := Option.isSome_iff_exists.1 (some_at 0 (by omega))
  have h0 := hff 0 _ rfl
  rw [hy0] at h0
  have g0 : DataW.trod enc Tryz.prog W base sp hd m 3 [x0] = some y0 := by rw [← show (([x0, x1, x2] : List Value).drop 0).take (Tryz.prog.cellsOf 3) = [x0] from cz_one rfl cz_int]; exact h0
  obtain ⟨y1, hy1⟩ := Option.isSome_iff_exists.1 (some_at 1 (by omega))
  have h1 := hff 1 _ rfl
  rw [hy1] at h1
  have g1 : DataW.trod enc Tryz.prog W base sp hd m 3 [x1] = some y1 := by rw [← show (([x0, x1, x2] : List Value).drop 1).take (Tryz.prog.cellsOf 3) = [x1] from cz_one rfl cz_int]; exact h1
  obtain ⟨y2, hy2⟩ := Option.isSome_iff_exists.1 (some_at 2 (by omega))
  have h2 := hff 2 _ rfl
  rw [hy2] at h2
  have g2 : DataW.trod enc Tryz.prog W base sp hd m 9 [x2] = some y2 := by rw [← show (([x0, x1, x2] : List Value).drop 2).take (Tryz.prog.cellsOf 9) = [x2] from cz_one rfl cz_string]; exact h2
  obtain ⟨a0, e0, _, wf0⟩ := DataW.trod_int Tryz.underlying3 g0
  simp only [List.cons.injEq, and_true] at e0
  subst e0
  obtain ⟨a1, e1, _, wf1⟩ := DataW.trod_int Tryz.underlying3 g1
  simp only [List.cons.injEq, and_true] at e1
  subst e1
  obtain ⟨t2, e2, _, wt2⟩ := DataW.trod_string Tryz.underlying9 g2
  simp only [List.cons.injEq, and_true] at e2
  subst e2
  exact ⟨⟨a0, a1, t2⟩, rfl, ⟨wf_i64 wf0, wf_i64 wf1, (by unfold maxLen at wt2; show t2.size ≤ 9223372036854775807; omega)⟩⟩
/-- a value that is such a struct -/
def PgV (w : World) (v : Value) : Prop := ∃ d : PgD, v = .agg d.cells.toArray ∧ d.Ok w
set_option maxRecDepth 100000 in
theorem open_Pg {v : Value} {d : DataW H} {p : List MemPlace} (hv : Value.okWide Tryz.prog W .any base 62 v) (h : DataW.Trod enc Tryz.prog W 0 (fun _ => true) true 62 v d p) : PgV W v := by
  obtain ⟨cs, rfl, hsz⟩ := okWide_struct Tryz.underlying62 hv
  obtain ⟨fuel, hf⟩ := h
  rw [cz_Pg] at hsz
  obtain ⟨l⟩ := cs
  obtain ⟨d, rfl, hd⟩ := pg_cells (l := l) hsz hf
  exact ⟨d, rfl, hd⟩
/-- an element of a slice of such structs, from a cell on -/
structure PgAt (w : World) (b o : Nat) (d : PgD) : Prop where
  d0 : w.cell? ⟨b, o, none⟩ = some (.int .i64 d.a0)
  d1 : w.cell? ⟨b, o + 1, none⟩ = some (.int .i64 d.a1)
  d2 : w.cell? ⟨b, o + 2, none⟩ = some (.string d.t2)
  ok : d.Ok w
theorem PgAt.below {w w' : World} {b o : Nat} {d : PgD} (h : PgAt w b o d) (hlt : b < w.heap.size) (hb : Below w.heap.size w w') : PgAt w' b o d := ⟨(hb.cell (p := ⟨b, o, none⟩) hlt).trans h.d0, (hb.cell (p := ⟨b, o + 1, none⟩) hlt).trans h.d1, (hb.cell (p := ⟨b, o + 2, none⟩) hlt).trans h.d2, h.ok.below hb⟩
def IsPgs (w : World) (a : Option Addr) (len : Nat) : Prop :=
  len ≤ maxLen ∧ (len = 0 ∨ ∃ b off, a = some ⟨b, off, none⟩ ∧ b < w.heap.size ∧ ∀ i, i < len → ∃ d, PgAt w b (off + i * 3) d)
theorem IsPgs.below {w w' : World} {a : Option Addr} {len : Nat} (h : IsPgs w a len) (hb : Below w.heap.size w w') : IsPgs w' a len := by
  refine ⟨h.1, ?_⟩
  rcases h.2 with h0 | ⟨b, off, e, hlt, hd⟩
  · exact .inl h0
  · exact .inr ⟨b, off, e, Nat.lt_of_lt_of_le hlt hb.size, fun i hi => by obtain ⟨d, h2⟩ := hd i hi; exact ⟨d, h2.below hlt hb⟩⟩
set_option maxRecDepth 100000 in
set_option maxHeartbeats 1000000 in
theorem pgs_trod {n : Nat} {cs : List Value} {x : DataW H × List MemPlace} {v : Value} (hcs0 : cs = [v]) (hf : DataW.trod enc Tryz.prog W base sp hd n 39 cs = some x) : ∃ a len cap, v = .slice a len cap ∧ IsPgs W a len := by
  rcases open_slice Tryz.underlying39 hf with ⟨hcs, _⟩ | ⟨x, l, c, m, n, D, Pl, hcs, _, hlc, hcm, hm, _, hi⟩
  · rw [hcs] at hcs0
    simp at hcs0
    subst hcs0
    exact ⟨none, 0, 0, rfl, Nat.zero_le _, .inl rfl⟩
  · rw [hcs] at hcs0
    simp at hcs0
    subst hcs0
    refine ⟨_, _, _, rfl, ?_⟩
    by_cases h0 : l = 0
    · exact ⟨by rw [h0]; exact Nat.zero_le _, .inl h0⟩
    · have hml : l ≤ m := by rw [hm]; split <;> omega
      have cell : ∀ i, i < l → ∃ d : PgD, (∀ j y, d.cells[j]? = some y → W.cell? ((x.add (i * 3)).add j) = some y) ∧ d.Ok W := by
        intro i hil
        obtain ⟨cs', hc, ht'⟩ := hi i (by omega)
        rw [cz_Pg] at hc
        obtain ⟨_, hl6, hat⟩ := World.cells?_some hc
        obtain ⟨d, rfl, rest⟩ := pg_cells hl6 ht'
        refine ⟨d, fun j y hy => ?_, rest⟩
        rw [hat j (by have := (List.getElem?_eq_some_iff.1 hy).1; simpa [PgD.cells] using this), hy]
      obtain ⟨blk, off, spot⟩ := x
      obtain ⟨d0, hc0, _⟩ := cell 0 (by omega)
      have hfirst := hc0 0 _ rfl
      have hspot : spot = none := by simpa [Addr.add] using World.cell?_spot hfirst
      subst hspot
      have hadd : ∀ o i, (⟨blk, o, none⟩ : Addr).add i = ⟨blk, o + i, none⟩ := fun o i => by unfold Addr.add; split <;> simp_all
      refine ⟨by unfold maxLen at hcm ⊢; omega, .inr ⟨blk, off, rfl, ?_, fun i hil => ?_⟩⟩
      · rw [hadd, hadd] at hfirst; exact block_lt_of_cell hfirst
      · obtain ⟨d, hc, g⟩ := cell i hil
        have e0 := hc 0 _ rfl
        have e1 := hc 1 _ rfl
        have e2 := hc 2 _ rfl
        rw [hadd, hadd] at e0 e1 e2
        exact ⟨d, e0, e1, e2, g⟩
set_option maxRecDepth 100000 in
theorem open_Pgs {v : Value} {d : DataW H} {p : List MemPlace} (hv : Value.okWide Tryz.prog W .any base 39 v) (h : DataW.Trod enc Tryz.prog W 0 (fun _ => true) true 39 v d p) : ∃ a len cap, v = .slice a len cap ∧ IsPgs W a len := by
  obtain ⟨a, len, cap, rfl⟩ := okWide_slice Tryz.underlying39 hv
  obtain ⟨fuel, hf⟩ := h
  exact pgs_trod (cs := (Value.slice a len cap).cells.toList) (by simp [Value.cells]) hf
/-- what such a struct holds -/
structure EnD where
  a0 : Int
  a1 : Int
  a2 : Int
  k3 : Int
  n3 : Int
  t3 : ByteArray
  a4 : Int
  a5 : Nat
def EnD.cells (d : EnD) : List Value := [.int .i64 d.a0, .int .i64 d.a1, .int .i64 d.a2, .int .i64 d.k3, .int .i64 d.n3, .string d.t3, .int .i64 d.a4, .int .u32 (d.a5 : Int)]
structure EnD.Ok (w : World) (d : EnD) : Prop where
  f0 : (-9223372036854775808 ≤ d.a0 ∧ d.a0 ≤ 9223372036854775807)
  f1 : (-9223372036854775808 ≤ d.a1 ∧ d.a1 ≤ 9223372036854775807)
  f2 : (-9223372036854775808 ≤ d.a2 ∧ d.a2 ≤ 9223372036854775807)
  f3 : ((-9223372036854775808 ≤ d.k3 ∧ d.k3 ≤ 9223372036854775807) ∧ (-9223372036854775808 ≤ d.n3 ∧ d.n3 ≤ 9223372036854775807) ∧ d.t3.size ≤ 9223372036854775807)
  f4 : (-9223372036854775808 ≤ d.a4 ∧ d.a4 ≤ 9223372036854775807)
  f5 : d.a5 < 4294967296
theorem EnD.Ok.below {w w' : World} {d : EnD} (h : d.Ok w) (_ : Below w.heap.size w w') : d.Ok w' := ⟨h.f0, h.f1, h.f2, h.f3, h.f4, h.f5⟩
theorem cz_En : Tryz.prog.cellsOf 75 = 8 := by kernel_rfl
set_option maxRecDepth 100000 in
set_option maxHeartbeats 1000000 in
theorem en_cells {n : Nat} {l : List Value} {x : DataW H × List MemPlace} (hl : l.length = 8) (hf : DataW.trod enc Tryz.prog W base sp hd n 75 l = some x) : ∃ d : EnD, l = d.cells ∧ d.Ok W := by
  obtain ⟨x0, x1, x2, x3, x4, x5, x6, x7, rfl⟩ : ∃ x0 x1 x2 x3 x4 x5 x6 x7, l = [x0, x1, x2, x3, x4, x5, x6, x7] := by
    match l, hl with
    | [x0, x1, x2, x3, x4, x5, x6, x7], _ => exact ⟨x0, x1, x2, x3, x4, x5, x6, x7, rfl⟩
  obtain ⟨xs, m, _, _, _, hlen, hff⟩ := DataW.trod_struct Tryz.underlying75 hf
  have hlen2 : xs.length = 6 := hlen
  have some_at : ∀ j, j < 6 → (xs[j]?).isSome = true := fun j hj => by rw [List.getElem?_eq_getElem (by omega)]; rfl
  obtain ⟨y0, hy0⟩ := Option.isSome_iff_exists.1 (some_at 0 (by omega))
  have h0 := hff 0 _ rfl
  rw [hy0] at h0
  have g0 : DataW.trod enc Tryz.prog W base sp hd m 3 [x0] = some y0 := by rw [← show (([x0, x1, x2, x3, x4, x5, x6, x7] : List Value).drop 0).take (Tryz.prog.cellsOf 3) = [x0] from cz_one rfl cz_int]; exact h0
  obtain ⟨y1, hy1⟩ := Option.isSome_iff_exists.1 (some_at 1 (by omega))
  have h1 := hff 1 _ rfl
  rw [hy1] at h1
  have g1 : DataW.trod enc Tryz.prog W base sp hd m 3 [x1] = some y1 := by rw [← show (([x0, x1, x2, x3, x4, x5, x6, x7] : List Value).drop 1).take (Tryz.prog.cellsOf 3) = [x1] from cz_one rfl cz_int]; exact h1
  obtain ⟨y2, hy2⟩ := Option.isSome_iff_exists.1 (some_at 2 (by omega))
  have h2 := hff 2 _ rfl
  rw [hy2] at h2
  have g2 : DataW.trod enc Tryz.prog W base sp hd m 3 [x2] = some y2 := by rw [← show (([x0, x1, x2, x3, x4, x5, x6, x7] : List Value).drop 2).take (Tryz.prog.cellsOf 3) = [x2] from cz_one rfl cz_int]; exact h2
  obtain ⟨y3, hy3⟩ := Option.isSome_iff_exists.1 (some_at 3 (by omega))
  have h3 := hff 3 _ rfl
  rw [hy3] at h3
  have g3 : DataW.trod enc Tryz.prog W base sp hd m 62 [x3, x4, x5] = some y3 := by rw [← show (([x0, x1, x2, x3, x4, x5, x6, x7] : List Value).drop 3).take (Tryz.prog.cellsOf 62) = [x3, x4, x5] from cz_three rfl rfl rfl cz_page]; exact h3
  obtain ⟨y4, hy4⟩ := Option.isSome_iff_exists.1 (some_at 4 (by omega))
  have h4 := hff 4 _ rfl
  rw [hy4] at h4
  have g4 : DataW.trod enc Tryz.prog W base sp hd m 3 [x6] = some y4 := by rw [← show (([x0, x1, x2, x3, x4, x5, x6, x7] : List Value).drop 6).take (Tryz.prog.cellsOf 3) = [x6] from cz_one rfl cz_int]; exact h4
  obtain ⟨y5, hy5⟩ := Option.isSome_iff_exists.1 (some_at 5 (by omega))
  have h5 := hff 5 _ rfl
  rw [hy5] at h5
  have g5 : DataW.trod enc Tryz.prog W base sp hd m 70 [x7] = some y5 := by rw [← show (([x0, x1, x2, x3, x4, x5, x6, x7] : List Value).drop 7).take (Tryz.prog.cellsOf 70) = [x7] from cz_one rfl cz_u32]; exact h5
  obtain ⟨a0, e0, _, wf0⟩ := DataW.trod_int Tryz.underlying3 g0
  simp only [List.cons.injEq, and_true] at e0
  subst e0
  obtain ⟨a1, e1, _, wf1⟩ := DataW.trod_int Tryz.underlying3 g1
  simp only [List.cons.injEq, and_true] at e1
  subst e1
  obtain ⟨a2, e2, _, wf2⟩ := DataW.trod_int Tryz.underlying3 g2
  simp only [List.cons.injEq, and_true] at e2
  subst e2
  obtain ⟨k3, n3, t3, e, hk3, hn3, ht3⟩ := pz_cells rfl g3
  cases e
  obtain ⟨a4, e4, _, wf4⟩ := DataW.trod_int Tryz.underlying3 g4
  simp only [List.cons.injEq, and_true] at e4
  subst e4
  obtain ⟨a5, e5, _, wf5⟩ := DataW.trod_int Tryz.underlying70 g5
  simp only [List.cons.injEq, and_true] at e5
  subst e5
  obtain ⟨a5, rfl⟩ : ∃ n : Nat, a5 = (n : Int) := ⟨a5.toNat, by have := wf_u32 wf5; omega⟩
  exact ⟨⟨a0, a1, a2, k3, n3, t3, a4, a5⟩, rfl, ⟨wf_i64 wf0, wf_i64 wf1, wf_i64 wf2, ⟨hk3, hn3, ht3⟩, wf_i64 wf4, (by have := wf_u32 wf5; show a5 < 4294967296; omega)⟩⟩
/-- a value that is such a struct -/
def EnV (w : World) (v : Value) : Prop := ∃ d : EnD, v = .agg d.cells.toArray ∧ d.Ok w
set_option maxRecDepth 100000 in
theorem open_En {v : Value} {d : DataW H} {p : List MemPlace} (hv : Value.okWide Tryz.prog W .any base 75 v) (h : DataW.Trod enc Tryz.prog W 0 (fun _ => true) true 75 v d p) : EnV W v := by
  obtain ⟨cs, rfl, hsz⟩ := okWide_struct Tryz.underlying75 hv
  obtain ⟨fuel, hf⟩ := h
  rw [cz_En] at hsz
  obtain ⟨l⟩ := cs
  obtain ⟨d, rfl, hd⟩ := en_cells (l := l) hsz hf
  exact ⟨d, rfl, hd⟩
/-- what such a struct holds -/
structure SmsD where
  p0 : Option Addr
  n0 : Nat
  c0 : Nat
  a1 : Int
  a2 : Int
  a3 : Int
def SmsD.cells (d : SmsD) : List Value := [.slice d.p0 d.n0 d.c0, .int .i64 d.a1, .int .i64 d.a2, .int .i64 d.a3]
structure SmsD.Ok (w : World) (d : SmsD) : Prop where
  f0 : IsPgs w d.p0 d.n0
  f1 : (-9223372036854775808 ≤ d.a1 ∧ d.a1 ≤ 9223372036854775807)
  f2 : (-9223372036854775808 ≤ d.a2 ∧ d.a2 ≤ 9223372036854775807)
  f3 : (-9223372036854775808 ≤ d.a3 ∧ d.a3 ≤ 9223372036854775807)
theorem SmsD.Ok.below {w w' : World} {d : SmsD} (h : d.Ok w) (hb : Below w.heap.size w w') : d.Ok w' := ⟨h.f0.below hb, h.f1, h.f2, h.f3⟩
/-- a value that is such a struct -/
def SmsV (w : World) (v : Value) : Prop := ∃ d : SmsD, v = .agg d.cells.toArray ∧ d.Ok w
end
end Go.Proofs.YtaonifdfhlbaiaaGreatDoor.En

/- Pages that came in, as a list. -/
namespace Go.Proofs.YtaonifdfhlbaiaaGreatDoor.En
open Go.RowKit
theorem pgs_list {w : World} {a : Option Addr} {len : Nat} (h : IsPgs w a len) : ∃ L : List PageT, L.length = len ∧ Pgs w a L ∧ ∀ p ∈ L, (-9223372036854775808 ≤ p.1 ∧ p.1 ≤ 9223372036854775807) ∧ (-9223372036854775808 ≤ p.2.1 ∧ p.2.1 ≤ 9223372036854775807) ∧ p.2.2.size ≤ 9223372036854775807 := by
  rcases h.2 with h0 | ⟨b, off, e, hlt, hd⟩
  · exact ⟨[], h0.symm, (fun i hi => absurd hi (by simp)), (fun p hp => absurd hp (by simp))⟩
  · refine ⟨(List.range len).attach.map fun i => ((hd i.1 (List.mem_range.1 i.2)).choose.a0, (hd i.1 (List.mem_range.1 i.2)).choose.a1, (hd i.1 (List.mem_range.1 i.2)).choose.t2), by simp, fun i hi => ?_, fun p hp => ?_⟩
    · have hi' : i < len := by simpa using hi
      have hs := (hd i hi').choose_spec
      refine ⟨b, off, e, hlt, ?_, ?_, ?_⟩
      · simpa using hs.d0
      · simpa using hs.d1
      · simpa using hs.d2
    · obtain ⟨i, -, rfl⟩ := List.mem_map.1 hp
      have hs := (hd i.1 (List.mem_range.1 i.2)).choose_spec
      exact ⟨hs.ok.f0, hs.ok.f1, hs.ok.f2⟩
end Go.Proofs.YtaonifdfhlbaiaaGreatDoor.En

/- What openers of the laws' structs lean on. -/
namespace Go.Proofs.YtaonifdfhlbaiaaGreatDoor.Jn
open Go.RowKit
theorem wf_u32 {x : Int} (h : (Lit.int .u32 x).wf = true) : 0 ≤ x ∧ x < 4294967296 := Fd.wf_u32 h
theorem wf_i64 {x : Int} (h : (Lit.int .i64 x).wf = true) : -9223372036854775808 ≤ x ∧ x ≤ 9223372036854775807 := Fd.wf_i64 h
end Go.Proofs.YtaonifdfhlbaiaaGreatDoor.Jn
