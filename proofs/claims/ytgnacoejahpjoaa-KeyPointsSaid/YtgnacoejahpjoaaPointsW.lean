/- KeyPoints walked. -/
import Derived.Test.YtgnacoejahpjoaaKyOpen
import Derived.Test.YtgnacoejahpjoaaKyLive
namespace Go.Proofs.Ytgnacoejahpjoaa
open Go.RowKit
open Go.Lib (hid)
open Ky
open Go.ChangeShapes Go.WideShapes

section
variable {H : Type} {enc : TypeId × Value → H} {W : World} {base : Nat}
theorem KeyPoints_open0 {v : Value} {d : DataW H} {p : List MemPlace} (hv : Value.okWide Try.prog W .any base 23 v) (h : DataW.Trod enc Try.prog W 0 (fun _ => true) true 23 v d p) : KeyV W v := open_key hv h
theorem KeyPoints_open1 {v : Value} {d : DataW H} {p : List MemPlace} (hv : Value.okWide Try.prog W .any base 23 v) (h : DataW.Trod enc Try.prog W 0 (fun _ => true) true 23 v d p) : KeyV W v := open_key hv h
end
theorem two_at {V : World} {v0 v1 : Value} {ns : List Nat} (h : ∀ j (hj : j < ns.length), ∃ p c', [v0, v1][j]? = some (.slice p ns[j] c')) :
    ∀ j (hj : j < ns.length), ∃ p c', (V.alloc (.cells #[v0, v1] 23)).cell? ⟨V.heap.size, j, none⟩ = some (.slice p ns[j] c') := fun j hj => by
  obtain ⟨p, c', e⟩ := h j hj
  refine ⟨p, c', ?_⟩
  rw [cell_of_row _ _ _ _ _ _ (heap_alloc_new V _), ← e]
  simp
theorem live_endP (w W : World) (hb : Below W.heap.size W w) : Calls Try.prog 11 #[] w fun e w' => e = .returned (.bool true) ∧ Below W.heap.size W w' :=
  (live_any w).mono fun _ _ h => ⟨h.1, hb.trans (h.2.mono hb.size)⟩
/-- the two points on the way -/
structure Tw (W w : World) (p0 p1 : Option Addr) (l0 l1 : List Nat) : Prop where
  a : Pt w p0 l0
  b : Pt w p1 l1
  below : Below W.heap.size W w
theorem Tw.drewN {W w : World} {p0 p1 : Option Addr} {l0 l1 : List Nat} (h : Tw W w p0 p1 l0 l1) (n : Nat) : Tw W (w.drewN n) p0 p1 l0 l1 := ⟨h.a.drewN n, h.b.drewN n, below_drewN h.below n⟩
set_option maxRecDepth 100000 in
set_option maxHeartbeats 2000000 in
theorem KeyPoints_walk (v0 v1 : Value) (n : Int) (W : World) (h0 : KeyV W v0) (h1 : KeyV W v1) (_hn : (Lit.int .i64 n).wf = true) :
    Calls Try.prog 3 #[v0, v1, .int .i64 n] W fun e w' => e = .returned (.bool true) ∧ Below W.heap.size W w' := by

  obtain ⟨p0, l0, c0, rfl, k0, m0⟩ := h0
  obtain ⟨p1, l1, c1, rfl, k1, m1⟩ := h1
  have HS := hid (short_ok [l0.length, l1.length] W.heap.size 2 (W.alloc (.cells #[.slice p0 l0.length c0, .slice p1 l1.length c1] 23)) (by simp) (two_at (fun j hj => by
    have : j = 0 ∨ j = 1 := by simp at hj; omega
    rcases this with rfl | rfl
    · exact ⟨_, _, rfl⟩
    · exact ⟨_, _, rfl⟩)))
  have HT : Hid (Tw W (W.alloc (.cells #[.slice p0 l0.length c0, .slice p1 l1.length c1] 23)) p0 p1 l0 l1) := hid ⟨k0.alloc _, k1.alloc _, below_alloc _ _⟩
  clear k0 k1
  cases hs : shortB [l0.length, l1.length] with
  | false =>
    rw [hs] at HS
    clear hs
    go_enter Try.func3, Try.ntmps3
    go_wp2_with (first | (go_at_call 10; refine HS.out.mono ?_; rintro e w1 ⟨rfl, rfl⟩) | (go_at_call 11; refine (live_endP _ W HT.out.below).mono ?_; rintro e w2 ⟨rfl, hb⟩; have HB2 := hid hb; clear hb))
    go_ret
    exact ⟨rfl, HB2.out⟩
  | true =>
    have HL : Hid (l0.length ≤ 1000000 ∧ l1.length ≤ 1000000) := hid (by simp [shortB] at hs; omega)
    rw [hs] at HS
    clear hs
    have H1 := hid fun w' (h : Tw W w' p0 p1 l0 l1) => bits_ok l0 p0 c0 n w' h.a HL.out.1
    have H2 := hid fun w' (h : Tw W w' p0 p1 l0 l1) => refBits_ok l0 p0 c0 n w' h.a HL.out.1
    have H3 := hid fun w' (h : Tw W w' p0 p1 l0 l1) => compare_ok l0 l1 p0 p1 c0 c1 w' h.a h.b HL.out.1
    have H4 := hid fun w' (h : Tw W w' p0 p1 l0 l1) => refCompare_ok l0 l1 p0 p1 c0 c1 w' h.a h.b HL.out.1
    have H5 := hid fun w' => check_ok p0 l0.length c0 n w'
    have H6 := hid fun w' => refCheck_ok p0 l0.length c0 n w'
    generalize bitsV l0 n = x at H1 H2
    generalize err (bitsOk l0.length n) = f at H1 H2
    generalize cmp l0 l1 = y at H3 H4
    generalize err (checkB l0.length n) = g at H5 H6
    go_enter Try.func3, Try.ntmps3
    go_wp2_with (first
      | (go_at_call 10; refine HS.out.mono ?_; rintro e w1 ⟨rfl, rfl⟩)
      | (go_at_call 12; (with_reducible refine (H1.out _ HT.out).mono ?_); rintro e w1 ⟨rfl, r1, hw⟩; have HT1 : Hid (Tw W w1 p0 p1 l0 l1) := hid (by rw [hw]; exact HT.out.drewN r1); clear hw)
      | (go_at_call 13; (with_reducible refine (H2.out _ HT1.out).mono ?_); rintro e w2 ⟨rfl, r2, hw⟩; have HT2 : Hid (Tw W w2 p0 p1 l0 l1) := hid (by rw [hw]; exact HT1.out.drewN r2); clear hw)
      | (go_at_call 14; (with_reducible refine (H3.out _ HT2.out).mono ?_); rintro e w2' ⟨rfl, rfl⟩)
      | (go_at_call 15; (with_reducible refine (H4.out _ HT2.out).mono ?_); rintro e w3 ⟨rfl, r3, hw⟩; have HT3 : Hid (Tw W w3 p0 p1 l0 l1) := hid (by rw [hw]; exact HT2.out.drewN r3); clear hw)
      | (go_at_call 16; (with_reducible refine (H5.out _).mono ?_); rintro e w2' ⟨rfl, rfl⟩)
      | (go_at_call 17; (with_reducible refine (H6.out _).mono ?_); rintro e w2' ⟨rfl, rfl⟩)
      | (go_at_call 11; (with_reducible refine (live_endP _ W HT3.out.below).mono ?_); rintro e w4 ⟨rfl, hb⟩; have HB4 := hid hb; clear hb)
      | fail)
    go_ret
    exact ⟨rfl, HB4.out⟩
end Go.Proofs.Ytgnacoejahpjoaa
