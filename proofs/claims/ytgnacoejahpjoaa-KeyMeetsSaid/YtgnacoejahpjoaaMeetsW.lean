/- KeyMeets walked. -/
import Derived.Test.YtgnacoejahpjoaaKyOpen
import Derived.Test.YtgnacoejahpjoaaKyLive
namespace Go.Proofs.Ytgnacoejahpjoaa
open Go.RowKit
open Go.Lib (hid)
open Ky
open Go.ChangeShapes Go.WideShapes

section
variable {H : Type} {enc : TypeId × Value → H} {W : World} {base : Nat}
theorem KeyMeets_open0 {v : Value} {d : DataW H} {p : List MemPlace} (hv : Value.okWide Try.prog W .any base 23 v) (h : DataW.Trod enc Try.prog W 0 (fun _ => true) true 23 v d p) : KeyV W v := open_key hv h
theorem KeyMeets_open1 {v : Value} {d : DataW H} {p : List MemPlace} (hv : Value.okWide Try.prog W .any base 33 v) (h : DataW.Trod enc Try.prog W 0 (fun _ => true) true 33 v d p) : BoxV W v := open_boxv hv h
theorem KeyMeets_open2 {v : Value} {d : DataW H} {p : List MemPlace} (hv : Value.okWide Try.prog W .any base 33 v) (h : DataW.Trod enc Try.prog W 0 (fun _ => true) true 33 v d p) : BoxV W v := open_boxv hv h
end
theorem live_endM (w W : World) (hb : Below W.heap.size W w) : Calls Try.prog 11 #[] w fun e w' => e = .returned (.bool true) ∧ Below W.heap.size W w' :=
  (live_any w).mono fun _ _ h => ⟨h.1, hb.trans (h.2.mono hb.size)⟩
theorem boxB_N (lo hi : List Nat) (n : Nat) : boxB lo hi n = boxN lo hi n := by
  unfold boxB boxN checkB
  rw [mayB_nat, Bool.eq_iff_iff]
  simp only [Bool.and_eq_true, decide_eq_true_eq]
  constructor
  · rintro ⟨⟨a, b⟩, c⟩; exact ⟨a, by omega, c⟩
  · rintro ⟨a, b, c⟩; exact ⟨⟨a, by omega⟩, c⟩
theorem boxB_len {lo hi : List Nat} {n : Nat} (h : boxB lo hi n = true) : lo.length = n ∧ hi.length = n ∧ n ≤ 6 := by
  rw [boxB_N] at h
  simp only [boxN, mayN, Bool.and_eq_true, decide_eq_true_eq] at h
  have := leAll_len h.2.2
  omega
theorem meetLo_comm (al ah bl bh : List Nat) : meetLo al ah bl bh = meetLo bl bh al ah := by unfold meetLo; rw [meetB_comm, hiOf_comm]
theorem meetHi_comm (al ah bl bh : List Nat) : meetHi al ah bl bh = meetHi bl bh al ah := by unfold meetHi; rw [meetB_comm, loOf_comm]
theorem sameBox_refl (a b : List Nat) : sameBoxB a b a b = true := by simp [sameBoxB, sameB]
theorem meetLo_len {al ah bl bh : List Nat} (h : al.length ≤ 6) : (meetLo al ah bl bh).length ≤ 6 := by unfold meetLo hiOf; split <;> simp <;> omega
theorem meetHi_len {al ah bl bh : List Nat} (h : ah.length ≤ 6) : (meetHi al ah bl bh).length ≤ 6 := by unfold meetHi loOf; split <;> simp <;> omega
set_option maxRecDepth 100000 in
set_option maxHeartbeats 4000000 in
theorem KeyMeets_walk (v0 v1 v2 : Value) (W : World) (h0 : KeyV W v0) (h1 : BoxV W v1) (h2 : BoxV W v2) :
    Calls Try.prog 7 #[v0, v1, v2] W fun e w' => e = .returned (.bool true) ∧ Below W.heap.size W w' := by
  obtain ⟨pk, k, ck, rfl, k0, mk⟩ := h0
  obtain ⟨_, _, rfl, ⟨p1, al, c1, rfl, k1, m1⟩, ⟨p2, ah, c2, rfl, k2, m2⟩⟩ := h1
  obtain ⟨_, _, rfl, ⟨p3, bl, c3, rfl, k3, m3⟩, ⟨p4, bh, c4, rfl, k4, m4⟩⟩ := h2
  have H0 := hid (((((((Cx.start W).more k4).more k3).more k2).more k1).more k0).box #[.slice p1 al.length c1, .slice p2 ah.length c2] |>.box #[.slice p3 bl.length c3, .slice p4 bh.length c4])
  simp only [World.size_alloc] at H0
  clear k0 k1 k2 k3 k4
  have HA := hid fun w' (a : Pt w' p1 al) (b : Pt w' p2 ah) => checkBox_ok al ah p1 p2 c1 c2 (k.length : Int) w' a b m1
  have HB := hid fun w' (a : Pt w' p3 bl) (b : Pt w' p4 bh) => checkBox_ok bl bh p3 p4 c3 c4 (k.length : Int) w' a b m3
  cases e1 : boxB al ah k.length with
  | false =>
    rw [e1, err_false false rfl] at HA
    clear e1
    go_enter Try.func7, Try.ntmps7
    go_wp2_with fail
    refine (HA.out _ (H0.out.pt (by simp)) (H0.out.pt (by simp))).mono ?_
    rintro e w1 ⟨rfl, hb⟩
    have H1 := hid (H0.out.step hb); clear hb
    go_wp2_with fail
    refine (live_endM _ W H1.out.below).mono ?_
    rintro e w2 ⟨rfl, hb⟩
    have HE := hid hb; clear hb
    go_wp2_with fail
    go_ret
    exact ⟨rfl, HE.out⟩
  | true =>
    cases e2 : boxB bl bh k.length with
    | false =>
      rw [e1, err_true true rfl] at HA
      rw [e2, err_false false rfl] at HB
      clear e1 e2
      go_enter Try.func7, Try.ntmps7
      go_wp2_with fail
      refine (HA.out _ (H0.out.pt (by simp)) (H0.out.pt (by simp))).mono ?_
      rintro e w1 ⟨rfl, hb⟩
      have H1 := hid (H0.out.step hb); clear hb
      have x := H1.out.cells (g := W.heap.size + 1) (x := .slice p3 bl.length c3) (y := .slice p4 bh.length c4) (by simp)
      go_wp2_with fail
      refine (HB.out _ (H1.out.pt (by simp)) (H1.out.pt (by simp))).mono ?_
      rintro e w2 ⟨rfl, hb⟩
      have H2 := hid (H1.out.step hb); clear hb
      go_wp2_with fail
      refine (live_endM _ W H2.out.below).mono ?_
      rintro e w3 ⟨rfl, hb⟩
      have HE := hid hb; clear hb
      go_wp2_with fail
      go_ret
      exact ⟨rfl, HE.out⟩
    | true =>
      have HN := hid (And.intro (boxB_len e1) (boxB_len e2))
      have HR := hid (meet_in (k := k) (by rw [← boxB_N]; exact e1) (by rw [← boxB_N]; exact e2))
      rw [e1, err_true true rfl] at HA
      rw [e2, err_true true rfl] at HB
      clear e1 e2
      have HM1 := hid fun w' (a : Pt w' p1 al) (b : Pt w' p2 ah) (c : Pt w' p3 bl) (d : Pt w' p4 bh) => meet_ok al ah bl bh p1 p2 p3 p4 c1 c2 c3 c4 w' a b c d (by have := HN.out; omega) (by have := HN.out; omega)
      have HM2 := hid fun w' (a : Pt w' p1 al) (b : Pt w' p2 ah) (c : Pt w' p3 bl) (d : Pt w' p4 bh) => meet_ok bl bh al ah p3 p4 p1 p2 c3 c4 c1 c2 w' c d a b (by have := HN.out; omega) (by have := HN.out; omega)
      rw [meetLo_comm bl bh al ah, meetHi_comm bl bh al ah, meetB_comm bl bh al ah] at HM2
      have HI1 := hid fun w' (a : Pt w' p1 al) (b : Pt w' p2 ah) (c : Pt w' pk k) => in_ok k al ah pk p1 p2 ck c1 c2 w' c a b mk m1
      have HI2 := hid fun w' (a : Pt w' p3 bl) (b : Pt w' p4 bh) (c : Pt w' pk k) => in_ok k bl bh pk p3 p4 ck c3 c4 w' c a b mk m3
      have HL := hid (And.intro (meetLo_len (al := al) (ah := ah) (bl := bl) (bh := bh) (by have := HN.out; omega)) (meetHi_len (al := al) (ah := ah) (bl := bl) (bh := bh) (by have := HN.out; omega)))
      generalize meetLo al ah bl bh = lo at HM1 HM2 HR HL
      generalize meetHi al ah bl bh = hi at HM1 HM2 HR HL
      generalize meetB al ah bl bh = x at HM1 HM2 HR
      have HI3 := hid fun w' (A A' : Option Addr) (c c' : Nat) (a : Pt w' A lo) (b : Pt w' A' hi) (d : Pt w' pk k) => in_ok k lo hi pk A A' ck c c' w' d a b mk (by have := HL.out; omega)
      have HS := hid fun w' (A A' B B' : Option Addr) (c c' d d' : Nat) (a : Pt w' A lo) (b : Pt w' A' hi) (e : Pt w' B lo) (f : Pt w' B' hi) => sameBox_ok lo hi lo hi A A' B B' c c' d d' w' a b e f (by have := HL.out; omega) (by have := HL.out; omega)
      rw [sameBox_refl] at HS
      generalize inB k al ah = ia at HI1 HR
      generalize inB k bl bh = ib at HI2 HR
      generalize inB k lo hi = im at HI3 HR
      have hr := HR.out
      clear HR
      cases ia <;> cases ib <;> cases x <;> cases im <;> first | (exfalso; revert hr; decide) | skip
      all_goals
        clear hr
        go_enter Try.func7, Try.ntmps7
        go_wp2_with fail
        refine (HA.out _ (H0.out.pt (by simp)) (H0.out.pt (by simp))).mono ?_
        rintro e w1 ⟨rfl, hb⟩
        have H1 := hid (H0.out.step hb); clear hb
        have x := H1.out.cells (g := W.heap.size + 1) (x := .slice p3 bl.length c3) (y := .slice p4 bh.length c4) (by simp)
        go_wp2_with fail
        refine (HB.out _ (H1.out.pt (by simp)) (H1.out.pt (by simp))).mono ?_
        rintro e w2 ⟨rfl, hb⟩
        have H2 := hid (H1.out.step hb); clear hb x
        have x := H2.out.cells (g := W.heap.size + 1) (x := .slice p3 bl.length c3) (y := .slice p4 bh.length c4) (by simp)
        have y := H2.out.cells (g := W.heap.size) (x := .slice p1 al.length c1) (y := .slice p2 ah.length c2) (by simp)
        go_wp2_with fail
        refine (HM1.out _ (H2.out.pt (by simp)) (H2.out.pt (by simp)) (H2.out.pt (by simp)) (H2.out.pt (by simp))).mono ?_
        rintro e w3 ⟨A, c, A', c', rfl, q1, q2, hb⟩
        have H3 := hid ((((H2.out.step hb).more q2).more q1).box #[.slice A lo.length c, .slice A' hi.length c']); clear hb q1 q2 x y
        have x := H3.out.cells (g := W.heap.size + 1) (x := .slice p3 bl.length c3) (y := .slice p4 bh.length c4) (by simp)
        have y := H3.out.cells (g := W.heap.size) (x := .slice p1 al.length c1) (y := .slice p2 ah.length c2) (by simp)
        go_wp2_with fail
        refine (HM2.out _ (H3.out.pt (p := p1) (by simp)) (H3.out.pt (p := p2) (by simp)) (H3.out.pt (p := p3) (by simp)) (H3.out.pt (p := p4) (by simp))).mono ?_
        rintro e w4 ⟨B, d, B', d', rfl, q1, q2, hb⟩
        have H4 := hid ((((H3.out.step hb).more q2).more q1).box #[.slice B lo.length d, .slice B' hi.length d']); clear hb q1 q2 x y
        have x := H4.out.cells (g := W.heap.size + 1) (x := .slice p3 bl.length c3) (y := .slice p4 bh.length c4) (by simp)
        have y := H4.out.cells (g := W.heap.size) (x := .slice p1 al.length c1) (y := .slice p2 ah.length c2) (by simp)
        go_wp2_with fail
        refine (HI1.out _ (H4.out.pt (p := p1) (by simp)) (H4.out.pt (p := p2) (by simp)) (H4.out.pt (p := pk) (l := k) (by simp))).mono ?_
        rintro e w5 ⟨rfl, hb⟩
        have H5 := hid (H4.out.step hb); clear hb x y
        have x := H5.out.cells (g := W.heap.size + 1) (x := .slice p3 bl.length c3) (y := .slice p4 bh.length c4) (by simp)
        have y := H5.out.cells (g := w3.heap.size) (x := .slice A lo.length c) (y := .slice A' hi.length c') (by simp)
        have z := H5.out.cells (g := w4.heap.size) (x := .slice B lo.length d) (y := .slice B' hi.length d') (by simp)
        have H6 := H5
        go_wp2_with (first
          | (go_at_call 20; (with_reducible refine (HI2.out _ (H6.out.pt (p := p3) (by simp)) (H6.out.pt (p := p4) (by simp)) (H6.out.pt (p := pk) (l := k) (by simp))).mono ?_); rintro e w6 ⟨rfl, hb⟩; have H7 := hid (H6.out.step hb); clear hb x y z H6; have H6 := H7; clear H7; have y := H6.out.cells (g := w3.heap.size) (x := .slice A lo.length c) (y := .slice A' hi.length c') (by simp); have z := H6.out.cells (g := w4.heap.size) (x := .slice B lo.length d) (y := .slice B' hi.length d') (by simp))
          | (go_at_call 24; (with_reducible refine (HS.out _ A A' B B' _ _ _ _ (H6.out.pt (by simp)) (H6.out.pt (by simp)) (H6.out.pt (by simp)) (H6.out.pt (by simp))).mono ?_); rintro e w7 ⟨rfl, hb⟩; have H7 := hid (H6.out.step hb); clear hb y z H6; have H6 := H7; clear H7; have y := H6.out.cells (g := w3.heap.size) (x := .slice A lo.length c) (y := .slice A' hi.length c') (by simp))
          | (go_at_call 20; (with_reducible refine (HI3.out _ A A' _ _ (H6.out.pt (by simp)) (H6.out.pt (by simp)) (H6.out.pt (p := pk) (l := k) (by simp))).mono ?_); rintro e w8 ⟨rfl, hb⟩; have H7 := hid (H6.out.step hb); clear hb y H6; have H6 := H7; clear H7)
          | (go_at_call 11; (with_reducible refine (live_endM _ W H6.out.below).mono ?_); rintro e w9 ⟨rfl, hb⟩; have HE := hid hb; clear hb)
          | fail)
        go_ret
        exact ⟨rfl, HE.out⟩
end Go.Proofs.Ytgnacoejahpjoaa
