/- KeyOrder walked. -/
import Derived.Test.YtgnacoejahpjoaaKyOpen
import Derived.Test.YtgnacoejahpjoaaKyLive
namespace Go.Proofs.Ytgnacoejahpjoaa
open Go.RowKit
open Go.Lib (hid)
open Ky
open Go.ChangeShapes Go.WideShapes

section
variable {H : Type} {enc : TypeId × Value → H} {W : World} {base : Nat}
theorem KeyOrder_open0 {v : Value} {d : DataW H} {p : List MemPlace} (hv : Value.okWide Try.prog W .any base 23 v) (h : DataW.Trod enc Try.prog W 0 (fun _ => true) true 23 v d p) : KeyV W v := open_key hv h
theorem KeyOrder_open1 {v : Value} {d : DataW H} {p : List MemPlace} (hv : Value.okWide Try.prog W .any base 23 v) (h : DataW.Trod enc Try.prog W 0 (fun _ => true) true 23 v d p) : KeyV W v := open_key hv h
theorem KeyOrder_open2 {v : Value} {d : DataW H} {p : List MemPlace} (hv : Value.okWide Try.prog W .any base 23 v) (h : DataW.Trod enc Try.prog W 0 (fun _ => true) true 23 v d p) : KeyV W v := open_key hv h
end
theorem three_at {V : World} {v0 v1 v2 : Value} {ns : List Nat} (h : ∀ j (hj : j < ns.length), ∃ p c', [v0, v1, v2][j]? = some (.slice p ns[j] c')) (_hl : ns.length = 3) :
    ∀ j (hj : j < ns.length), ∃ p c', (V.alloc (.cells #[v0, v1, v2] 23)).cell? ⟨V.heap.size, j, none⟩ = some (.slice p ns[j] c') := fun j hj => by
  obtain ⟨p, c', e⟩ := h j hj
  refine ⟨p, c', ?_⟩
  rw [cell_of_row _ _ _ _ _ _ (heap_alloc_new V _), ← e]
  simp
theorem live_end (w W : World) (hb : Below W.heap.size W w) : Calls Try.prog 11 #[] w fun e w' => e = .returned (.bool true) ∧ Below W.heap.size W w' :=
  (live_any w).mono fun _ _ h => ⟨h.1, hb.trans (h.2.mono hb.size)⟩
theorem order_a (l m : List Nat) : (cmp l m != -cmp m l) = false := by rw [cmp_flip l m]; simp
theorem order_c (l m : List Nat) : ((!(cmp l m == 0)) == sameB l m) = false := by rw [same_cmp]; cases sameB l m <;> rfl
theorem order_d (l m : List Nat) : ((cmp l m == 0) == sameB l m) = true := by rw [same_cmp]; cases sameB l m <;> rfl
theorem order_b (l m : List Nat) : ((cmp l m == 0) != sameB l m) = false := by rw [same_cmp]; simp
set_option maxRecDepth 100000 in
set_option maxHeartbeats 2000000 in
theorem KeyOrder_walk (v0 v1 v2 : Value) (W : World) (h0 : KeyV W v0) (h1 : KeyV W v1) (h2 : KeyV W v2) :
    Calls Try.prog 6 #[v0, v1, v2] W fun e w' => e = .returned (.bool true) ∧ Below W.heap.size W w' := by
  obtain ⟨p0, l0, c0, rfl, k0, m0⟩ := h0
  obtain ⟨p1, l1, c1, rfl, k1, m1⟩ := h1
  obtain ⟨p2, l2, c2, rfl, k2, m2⟩ := h2
  have HS := hid (short_ok [l0.length, l1.length, l2.length] W.heap.size 3 (W.alloc (.cells #[.slice p0 l0.length c0, .slice p1 l1.length c1, .slice p2 l2.length c2] 23)) (by simp) (three_at (fun j hj => by
    have : j = 0 ∨ j = 1 ∨ j = 2 := by simp at hj; omega
    rcases this with rfl | rfl | rfl
    · exact ⟨_, _, rfl⟩
    · exact ⟨_, _, rfl⟩
    · exact ⟨_, _, rfl⟩) rfl))
  have HB := hid (below_alloc W (.cells #[.slice p0 l0.length c0, .slice p1 l1.length c1, .slice p2 l2.length c2] 23))
  have HK := hid (And.intro (k0.alloc (.cells #[.slice p0 l0.length c0, .slice p1 l1.length c1, .slice p2 l2.length c2] 23)) (And.intro (k1.alloc (.cells #[.slice p0 l0.length c0, .slice p1 l1.length c1, .slice p2 l2.length c2] 23)) (k2.alloc (.cells #[.slice p0 l0.length c0, .slice p1 l1.length c1, .slice p2 l2.length c2] 23))))
  clear k0 k1 k2
  cases hs : shortB [l0.length, l1.length, l2.length] with
  | false =>
    rw [hs] at HS
    clear hs
    go_enter Try.func6, Try.ntmps6
    go_wp2_with (go_at_call 10; refine HS.out.mono ?_; rintro e w1 ⟨rfl, rfl⟩)
    refine (live_any _).mono ?_
    rintro e w2 ⟨rfl, hb⟩
    have HB2 := hid (HB.out.trans (hb.mono HB.out.size)); clear hb
    go_wp2_with fail
    go_ret
    exact ⟨rfl, HB2.out⟩
  | true =>
    have HL : Hid (l0.length ≤ 1000000 ∧ l1.length ≤ 1000000 ∧ l2.length ≤ 1000000) := hid (by simp [shortB] at hs; omega)
    have HA := hid (order_a l0 l1)
    have HE := hid (And.intro (order_b l0 l1) (And.intro (order_c l0 l1) (order_d l0 l1)))
    have HT : Hid (0 < cmp l0 l1 ∨ 0 < cmp l1 l2 ∨ cmp l0 l2 ≤ 0) := hid (by
      by_cases t1 : 0 < cmp l0 l1
      · exact .inl t1
      · by_cases t2 : 0 < cmp l1 l2
        · exact .inr (.inl t2)
        · exact .inr (.inr (cmp_trans (a := l0) (b := l1) (c := l2) (by omega) (by omega))))
    have HC01 := hid fun w' (hk : Pt w' p0 l0 ∧ Pt w' p1 l1 ∧ Pt w' p2 l2) => compare_ok l0 l1 p0 p1 c0 c1 w' hk.1 hk.2.1 HL.out.1
    have HC12 := hid fun w' (hk : Pt w' p0 l0 ∧ Pt w' p1 l1 ∧ Pt w' p2 l2) => compare_ok l1 l2 p1 p2 c1 c2 w' hk.2.1 hk.2.2 HL.out.2.1
    have HC10 := hid fun w' (hk : Pt w' p0 l0 ∧ Pt w' p1 l1 ∧ Pt w' p2 l2) => compare_ok l1 l0 p1 p0 c1 c0 w' hk.2.1 hk.1 HL.out.2.1
    have HC02 := hid fun w' (hk : Pt w' p0 l0 ∧ Pt w' p1 l1 ∧ Pt w' p2 l2) => compare_ok l0 l2 p0 p2 c0 c2 w' hk.1 hk.2.2 HL.out.1
    have HSM := hid fun w' (hk : Pt w' p0 l0 ∧ Pt w' p1 l1 ∧ Pt w' p2 l2) => same_ok l0 l1 p0 p1 c0 c1 w' hk.1 hk.2.1 HL.out.1
    rw [hs] at HS
    clear hs
    have b01 := cmp_cases l0 l1
    have b10 := cmp_cases l1 l0
    have HN : Hid (-1 ≤ cmp l0 l1 ∧ cmp l0 l1 ≤ 1 ∧ -1 ≤ cmp l1 l0 ∧ cmp l1 l0 ≤ 1) := hid (by omega)
    clear b01 b10
    generalize cmp l0 l1 = x01 at HA HE HT HC01 HN
    generalize cmp l1 l0 = x10 at HA HC10 HN
    generalize cmp l1 l2 = x12 at HT HC12
    generalize cmp l0 l2 = x02 at HT HC02
    generalize sameB l0 l1 = sb at HE HSM
    have n1 := HN.out.2.2.1
    have n2 := HN.out.2.2.2
    have a := HA.out
    have b := HE.out.1
    have b2 := HE.out.2.1
    have b3 := HE.out.2.2
    by_cases t1 : 0 < x01
    · have d1 : decide (0 < x01) = true := by simpa using t1
      clear t1
      go_enter Try.func6, Try.ntmps6
      go_wp2_with (first
        | (go_at_call 10; refine HS.out.mono ?_; rintro e w1 ⟨rfl, rfl⟩)
        | (go_at_call 14; (with_reducible refine (HC01.out _ HK.out).mono ?_); rintro e w1 ⟨rfl, rfl⟩)
        | (go_at_call 14; (with_reducible refine (HC12.out _ HK.out).mono ?_); rintro e w1 ⟨rfl, rfl⟩)
        | (go_at_call 14; (with_reducible refine (HC10.out _ HK.out).mono ?_); rintro e w1 ⟨rfl, rfl⟩)
        | (go_at_call 29; (with_reducible refine (HSM.out _ HK.out).mono ?_); rintro e w1 ⟨rfl, n, hw⟩; have HK1 : Hid (Pt w1 p0 l0 ∧ Pt w1 p1 l1 ∧ Pt w1 p2 l2) := hid (by rw [hw]; exact ⟨HK.out.1.drewN n, HK.out.2.1.drewN n, HK.out.2.2.drewN n⟩); have HB1 : Hid (Below W.heap.size W w1) := hid (by rw [hw]; exact below_drewN HB.out n); clear hw)
        | (go_at_call 14; (with_reducible refine (HC02.out _ HK1.out).mono ?_); rintro e w1' ⟨rfl, rfl⟩)
        | (go_at_call 11; (with_reducible refine (live_end _ W HB1.out).mono ?_); rintro e w3 ⟨rfl, hb⟩; have HB3 := hid hb; clear hb)
        | fail)
      go_ret
      exact ⟨rfl, HB3.out⟩
    · have d1 : decide (0 < x01) = false := by simpa using t1
      by_cases t2 : 0 < x12
      · have d2 : decide (0 < x12) = true := by simpa using t2
        clear t1 t2
        go_enter Try.func6, Try.ntmps6
        go_wp2_with (first
          | (go_at_call 10; refine HS.out.mono ?_; rintro e w1 ⟨rfl, rfl⟩)
          | (go_at_call 14; (with_reducible refine (HC01.out _ HK.out).mono ?_); rintro e w1 ⟨rfl, rfl⟩)
          | (go_at_call 14; (with_reducible refine (HC12.out _ HK.out).mono ?_); rintro e w1 ⟨rfl, rfl⟩)
          | (go_at_call 14; (with_reducible refine (HC10.out _ HK.out).mono ?_); rintro e w1 ⟨rfl, rfl⟩)
          | (go_at_call 29; (with_reducible refine (HSM.out _ HK.out).mono ?_); rintro e w1 ⟨rfl, n, hw⟩; have HK1 : Hid (Pt w1 p0 l0 ∧ Pt w1 p1 l1 ∧ Pt w1 p2 l2) := hid (by rw [hw]; exact ⟨HK.out.1.drewN n, HK.out.2.1.drewN n, HK.out.2.2.drewN n⟩); have HB1 : Hid (Below W.heap.size W w1) := hid (by rw [hw]; exact below_drewN HB.out n); clear hw)
          | (go_at_call 14; (with_reducible refine (HC02.out _ HK1.out).mono ?_); rintro e w1' ⟨rfl, rfl⟩)
          | (go_at_call 11; (with_reducible refine (live_end _ W HB1.out).mono ?_); rintro e w3 ⟨rfl, hb⟩; have HB3 := hid hb; clear hb)
          | fail)
        go_ret
        exact ⟨rfl, HB3.out⟩
      · have d2 : decide (0 < x12) = false := by simpa using t2
        have d3 : decide (x02 ≤ 0) = true := by have := HT.out; simp; omega
        clear t1 t2
        go_enter Try.func6, Try.ntmps6
        go_wp2_with (first
          | (go_at_call 10; refine HS.out.mono ?_; rintro e w1 ⟨rfl, rfl⟩)
          | (go_at_call 14; (with_reducible refine (HC01.out _ HK.out).mono ?_); rintro e w1 ⟨rfl, rfl⟩)
          | (go_at_call 14; (with_reducible refine (HC12.out _ HK.out).mono ?_); rintro e w1 ⟨rfl, rfl⟩)
          | (go_at_call 14; (with_reducible refine (HC10.out _ HK.out).mono ?_); rintro e w1 ⟨rfl, rfl⟩)
          | (go_at_call 29; (with_reducible refine (HSM.out _ HK.out).mono ?_); rintro e w1 ⟨rfl, n, hw⟩; have HK1 : Hid (Pt w1 p0 l0 ∧ Pt w1 p1 l1 ∧ Pt w1 p2 l2) := hid (by rw [hw]; exact ⟨HK.out.1.drewN n, HK.out.2.1.drewN n, HK.out.2.2.drewN n⟩); have HB1 : Hid (Below W.heap.size W w1) := hid (by rw [hw]; exact below_drewN HB.out n); clear hw)
          | (go_at_call 14; (with_reducible refine (HC02.out _ HK1.out).mono ?_); rintro e w1' ⟨rfl, rfl⟩)
          | (go_at_call 11; (with_reducible refine (live_end _ W HB1.out).mono ?_); rintro e w3 ⟨rfl, hb⟩; have HB3 := hid hb; clear hb)
          | fail)
        go_ret
        exact ⟨rfl, HB3.out⟩
end Go.Proofs.Ytgnacoejahpjoaa
