/- KeyBits walked. -/
import Derived.Test.YtgnacoejahpjoaaKyOpen
import Derived.Test.YtgnacoejahpjoaaKyLive
namespace Go.Proofs.Ytgnacoejahpjoaa
open Go.RowKit
open Go.Lib (hid)
open Ky
open Go.ChangeShapes Go.WideShapes

section
variable {H : Type} {enc : TypeId × Value → H} {W : World} {base : Nat}
theorem KeyBits_open0 {v : Value} {d : DataW H} {p : List MemPlace} (hv : Value.okWide Try.prog W .any base 23 v) (h : DataW.Trod enc Try.prog W 0 (fun _ => true) true 23 v d p) : KeyV W v := open_key hv h
end
theorem bits_rel (k : List Nat) (n m : Nat) (h : n ≤ m) : ((bitsK k n : Nat) : Int) = ((bitsK k m : Nat) : Int) / 2 ^ (m - n) := by
  have e := bitsK_shift k n (m - n)
  rw [show n + (m - n) = m by omega] at e
  rw [← e]; simp
theorem wrap_pow (N : Nat) (h : N ≤ 30) : wrap64 ((2 : Int) ^ N) = 2 ^ N := by
  have h1 : (2 : Nat) ^ N ≤ 2 ^ 30 := Nat.pow_le_pow_right (by omega) h
  have h2 : (2 : Nat) ^ 30 = 1073741824 := by decide
  have e : (2 : Int) ^ N = ((2 ^ N : Nat) : Int) := by simp
  rw [e]
  generalize 2 ^ N = p at h1
  unfold wrap64
  omega
theorem bits_lt (k : List Nat) (n : Nat) : ((bitsK k n : Nat) : Int) < 2 ^ n := by
  have := bitsK_lt k n
  exact_mod_cast this
/-- live, at the end -/
theorem live_end (w W : World) (hb : Below W.heap.size W w) : Calls Try.prog 11 #[] w fun e w' => e = .returned (.bool true) ∧ Below W.heap.size W w' :=
  (live_any w).mono fun _ _ h => ⟨h.1, hb.trans (h.2.mono hb.size)⟩
set_option maxRecDepth 100000 in
set_option maxHeartbeats 2000000 in
theorem KeyBits_walk (v0 : Value) (n m : Int) (W : World) (h0 : KeyV W v0) (h1 : (Lit.int .i64 n).wf = true) (h2 : (Lit.int .i64 m).wf = true) :
    Calls Try.prog 8 #[v0, .int .i64 n, .int .i64 m] W fun e w' => e = .returned (.bool true) ∧ Below W.heap.size W w' := by
  obtain ⟨p0, l0, c0, rfl, k0, m0⟩ := h0
  have hn := wf_i64 h1
  have hm := wf_i64 h2
  clear h1 h2
  by_cases hl : 20 < l0.length
  · have e1 : decide ((20 : Int) < (l0.length : Int)) = true := by rw [decide_eq_true_iff]; omega
    have HB := hid (Below.refl W.heap.size W)
    clear hl k0
    go_enter Try.func8, Try.ntmps8
    go_wp2_with (go_at_call 11; refine (live_end _ W HB.out).mono ?_; rintro e w1 ⟨rfl, hb⟩; have HB1 := hid hb; clear hb)
    go_ret
    exact ⟨rfl, HB1.out⟩
  · have e1 : decide ((20 : Int) < (l0.length : Int)) = false := by rw [decide_eq_false_iff_not]; omega
    have HA := hid fun n w' (hk : Pt w' p0 l0) => bits_ok l0 p0 c0 n w' hk (by omega)
    have HK := hid k0
    clear hl k0
    have HB := hid (Below.refl W.heap.size W)
    cases o1 : bitsOk l0.length n with
    | false =>
      obtain ⟨a1, a2⟩ := bits_no o1
      have HN := hid fun w' (hk : Pt w' p0 l0) => HA.out n w' hk
      have HM := hid fun w' (hk : Pt w' p0 l0) => HA.out m w' hk
      rw [a1, a2] at HN
      clear a1 a2 o1 HA
      generalize bitsV l0 m = y at HM
      generalize err (bitsOk l0.length m) = f at HM
      go_enter Try.func8, Try.ntmps8
      go_wp2_with (first
        | (go_at_call 12; (with_reducible refine (HN.out _ HK.out).mono ?_); rintro e w1 ⟨rfl, r1, hw⟩; have HK1 : Hid (Pt w1 p0 l0) := hid (by rw [hw]; exact HK.out.drewN r1); have HB1 : Hid (Below W.heap.size W w1) := hid (by rw [hw]; exact below_drewN HB.out r1); clear hw)
        | (go_at_call 12; (with_reducible refine (HM.out _ HK1.out).mono ?_); rintro e w2 ⟨rfl, r2, hw⟩; have HB2 : Hid (Below W.heap.size W w2) := hid (by rw [hw]; exact below_drewN HB1.out r2); clear hw)
        | (go_at_call 11; (with_reducible refine (live_end _ W HB2.out).mono ?_); rintro e w3 ⟨rfl, hb⟩; have HB3 := hid hb; clear hb)
        | fail)
      go_ret
      exact ⟨rfl, HB3.out⟩
    | true =>
      cases o2 : bitsOk l0.length m with
      | false =>
        obtain ⟨a1, a2⟩ := bits_no o2
        have HN := hid fun w' (hk : Pt w' p0 l0) => HA.out n w' hk
        have HM := hid fun w' (hk : Pt w' p0 l0) => HA.out m w' hk
        rw [a1, a2] at HM
        rw [o1, err_true true rfl] at HN
        clear a1 a2 o1 o2 HA
        generalize bitsV l0 n = y at HN
        go_enter Try.func8, Try.ntmps8
        go_wp2_with (first
          | (go_at_call 12; (with_reducible refine (HN.out _ HK.out).mono ?_); rintro e w1 ⟨rfl, r1, hw⟩; have HK1 : Hid (Pt w1 p0 l0) := hid (by rw [hw]; exact HK.out.drewN r1); have HB1 : Hid (Below W.heap.size W w1) := hid (by rw [hw]; exact below_drewN HB.out r1); clear hw)
          | (go_at_call 12; (with_reducible refine (HM.out _ HK1.out).mono ?_); rintro e w2 ⟨rfl, r2, hw⟩; have HB2 : Hid (Below W.heap.size W w2) := hid (by rw [hw]; exact below_drewN HB1.out r2); clear hw)
          | (go_at_call 11; (with_reducible refine (live_end _ W HB2.out).mono ?_); rintro e w3 ⟨rfl, hb⟩; have HB3 := hid hb; clear hb)
          | fail)
        go_ret
        exact ⟨rfl, HB3.out⟩
      | true =>
        have q := o1
        have q' := o2
        simp only [bitsOk, Bool.and_eq_true, decide_eq_true_eq] at q q'
        obtain ⟨N, rfl⟩ : ∃ N : Nat, n = (N : Int) := ⟨n.toNat, by omega⟩
        obtain ⟨M, rfl⟩ : ∃ M : Nat, m = (M : Int) := ⟨m.toNat, by omega⟩
        obtain ⟨a1, a2⟩ := bits_yes o1
        obtain ⟨b1, b2⟩ := bits_yes o2
        have HN := hid fun w' (hk : Pt w' p0 l0) => HA.out (N : Int) w' hk
        have HM := hid fun w' (hk : Pt w' p0 l0) => HA.out (M : Int) w' hk
        rw [a1, a2] at HN
        rw [b1, b2] at HM
        clear o1 o2 a1 a2 b1 b2 HA
        have f1 : decide ((N : Int) < 0) = false := by simp
        have f3 : decide (30 < (M : Int)) = false := by rw [decide_eq_false_iff_not]; omega
        by_cases hnm : M < N
        · have f2 : decide ((M : Int) < (N : Int)) = true := by simp; omega
          have f2' : decide (M < N) = true := by simpa using hnm
          generalize bitsK l0 N = x at HN
          generalize bitsK l0 M = y at HM
          clear hnm q q'
          go_enter Try.func8, Try.ntmps8
          go_wp2_with (first
            | (go_at_call 12; (with_reducible refine (HN.out _ HK.out).mono ?_); rintro e w1 ⟨rfl, r1, hw⟩; have HK1 : Hid (Pt w1 p0 l0) := hid (by rw [hw]; exact HK.out.drewN r1); have HB1 : Hid (Below W.heap.size W w1) := hid (by rw [hw]; exact below_drewN HB.out r1); clear hw)
            | (go_at_call 12; (with_reducible refine (HM.out _ HK1.out).mono ?_); rintro e w2 ⟨rfl, r2, hw⟩; have HB2 : Hid (Below W.heap.size W w2) := hid (by rw [hw]; exact below_drewN HB1.out r2); clear hw)
            | (go_at_call 11; (with_reducible refine (live_end _ W HB2.out).mono ?_); rintro e w3 ⟨rfl, hb⟩; have HB3 := hid hb; clear hb)
            | fail)
          go_ret
          exact ⟨rfl, HB3.out⟩
        · obtain ⟨d, hd⟩ : ∃ d, M - N = d := ⟨_, rfl⟩
          have HR : Hid (((bitsK l0 N : Nat) : Int) = ((bitsK l0 M : Nat) : Int) / 2 ^ d) := hid (by have := bits_rel l0 N M (by omega); rw [hd] at this; exact this)
          have HL := hid (bits_lt l0 N)
          have f2 : decide (M < N) = false := by simpa using hnm
          have g1 : (M : Int) - (N : Int) = (d : Int) := by omega
          have hd30 : d ≤ 30 := by omega
          have hN30 : N ≤ 30 := by omega
          generalize bitsK l0 N = x at HR HL HN
          generalize bitsK l0 M = y at HR HM
          have t1 : ((x : Int) == (y : Int) / 2 ^ d) = true := by rw [beq_iff_eq]; exact HR.out
          have t3 : decide ((x : Int) < wrap64 (2 ^ N)) = true := by rw [wrap_pow N hN30, decide_eq_true_iff]; exact HL.out
          clear q q' hd hnm
          go_enter Try.func8, Try.ntmps8
          go_wp2_with (first
            | (go_at_call 12; (with_reducible refine (HN.out _ HK.out).mono ?_); rintro e w1 ⟨rfl, r1, hw⟩; have HK1 : Hid (Pt w1 p0 l0) := hid (by rw [hw]; exact HK.out.drewN r1); have HB1 : Hid (Below W.heap.size W w1) := hid (by rw [hw]; exact below_drewN HB.out r1); clear hw)
            | (go_at_call 12; (with_reducible refine (HM.out _ HK1.out).mono ?_); rintro e w2 ⟨rfl, r2, hw⟩; have HB2 : Hid (Below W.heap.size W w2) := hid (by rw [hw]; exact below_drewN HB1.out r2); clear hw)
            | (go_at_call 11; (with_reducible refine (live_end _ W HB2.out).mono ?_); rintro e w3 ⟨rfl, hb⟩; have HB3 := hid hb; clear hb)
            | fail)
          go_ret
          exact ⟨rfl, HB3.out⟩
end Go.Proofs.Ytgnacoejahpjoaa
