/- KeyCorner walked. -/
import Derived.Test.YtgnacoejahpjoaaKyOpen
import Derived.Test.YtgnacoejahpjoaaKyLive
namespace Go.Proofs.Ytgnacoejahpjoaa
open Go.RowKit
open Go.Lib (hid)
open Ky
open Go.ChangeShapes Go.WideShapes

section
variable {H : Type} {enc : TypeId × Value → H} {W : World} {base : Nat}
theorem KeyCorner_open0 {v : Value} {d : DataW H} {p : List MemPlace} (hv : Value.okWide Try.prog W .any base 33 v) (h : DataW.Trod enc Try.prog W 0 (fun _ => true) true 33 v d p) : BoxV W v := open_boxv hv h
theorem KeyCorner_open1 {v : Value} {d : DataW H} {p : List MemPlace} (hv : Value.okWide Try.prog W .any base 23 v) (h : DataW.Trod enc Try.prog W 0 (fun _ => true) true 23 v d p) : KeyV W v := open_key hv h
end
theorem live_endC (w W : World) (hb : Below W.heap.size W w) : Calls Try.prog 11 #[] w fun e w' => e = .returned (.bool true) ∧ Below W.heap.size W w' :=
  (live_any w).mono fun _ _ h => ⟨h.1, hb.trans (h.2.mono hb.size)⟩
theorem boxB_NC (lo hi : List Nat) (n : Nat) : boxB lo hi n = boxN lo hi n := by
  unfold boxB boxN checkB
  rw [mayB_nat, Bool.eq_iff_iff]
  simp only [Bool.and_eq_true, decide_eq_true_eq]
  constructor
  · rintro ⟨⟨a, b⟩, c⟩; exact ⟨a, by omega, c⟩
  · rintro ⟨a, b, c⟩; exact ⟨⟨a, by omega⟩, c⟩
theorem boxC {lo hi : List Nat} {n : Nat} (h : boxB lo hi n = true) : lo.length = n ∧ hi.length = n ∧ 1 ≤ n ∧ n ≤ 6 ∧ leAll lo hi = true := by
  rw [boxB_NC] at h
  simp only [boxN, mayN, Bool.and_eq_true, decide_eq_true_eq] at h
  have := leAll_len h.2.2
  exact ⟨by omega, by omega, by omega, by omega, h.2.2⟩
theorem meet_oneC {k lo hi : List Nat} (h : boxB lo hi k.length = true) : meetB lo hi k k = inB k lo hi ∧ (inB k lo hi = true → meetLo lo hi k k = k ∧ meetHi lo hi k k = k) := by
  have hm := meet_one (k := k) (lo := lo) (hi := hi) (by rw [← boxB_NC]; exact h)
  refine ⟨hm, fun hi2 => ?_⟩
  have hm2 := hm.trans hi2
  have h2 := hi2
  simp only [inB, Bool.and_eq_true] at h2
  exact ⟨by simp [meetLo, hm2, hiOf_one h2.1], by simp [meetHi, hm2, loOf_one h2.2]⟩
theorem low_le (k : List Nat) : leAll (List.replicate k.length 0) k = true := by
  rw [leAll_iff]; exact ⟨by simp, fun i h h' => by simp⟩
theorem high_ge {w : World} {p : Option Addr} {k : List Nat} (h : Pt w p k) : leAll k (List.replicate k.length 4294967295) = true := by
  rw [leAll_iff]; exact ⟨by simp, fun i h1 h' => by have := h.fit i h1; simp; omega⟩
theorem sameBox_one (k : List Nat) : sameBoxB k k k k = true := by simp [sameBoxB, sameB]
set_option maxRecDepth 100000 in
set_option maxHeartbeats 4000000 in
theorem KeyCorner_walk (v0 v1 : Value) (W : World) (h0 : BoxV W v0) (h1 : KeyV W v1) :
    Calls Try.prog 9 #[v0, v1] W fun e w' => e = .returned (.bool true) ∧ Below W.heap.size W w' := by
  obtain ⟨pk, k, ck, rfl, k0, mk⟩ := h1
  obtain ⟨_, _, rfl, ⟨p1, al, c1, rfl, k1, m1⟩, ⟨p2, ah, c2, rfl, k2, m2⟩⟩ := h0
  have H0 := hid (((((Cx.start W).more k2).more k1).more k0).box #[.slice p1 al.length c1, .slice p2 ah.length c2])
  have HF := hid (high_ge k0)
  clear k0 k1 k2
  have HA := hid fun w' (a : Pt w' p1 al) (b : Pt w' p2 ah) => checkBox_ok al ah p1 p2 c1 c2 (k.length : Int) w' a b m1
  cases e1 : boxB al ah k.length with
  | false =>
    rw [e1, err_false false rfl] at HA
    clear e1
    go_enter Try.func9, Try.ntmps9
    go_wp2_with fail
    refine (HA.out _ (H0.out.pt (by simp)) (H0.out.pt (by simp))).mono ?_
    rintro e w1 ⟨rfl, hb⟩
    have H1 := hid (H0.out.step hb); clear hb
    go_wp2_with fail
    refine (live_endC _ W H1.out.below).mono ?_
    rintro e w2 ⟨rfl, hb⟩
    have HE := hid hb; clear hb
    go_wp2_with fail
    go_ret
    exact ⟨rfl, HE.out⟩
  | true =>
    have hN := boxC e1
    have HN := hid hN
    obtain ⟨hm1, hm2⟩ := meet_oneC e1
    rw [e1, err_true true rfl] at HA
    have HM1 := hid fun w' (a : Pt w' p1 al) (b : Pt w' p2 ah) (c : Pt w' pk k) => meet_ok al ah k k p1 p2 pk pk c1 c2 ck ck w' a b c c (by have := HN.out; omega) (by have := HN.out; omega)
    rw [hm1] at HM1
    have HI0 := hid fun w' (a : Pt w' p1 al) (b : Pt w' p2 ah) => in_ok al al ah p1 p1 p2 c1 c1 c2 w' a a b m1 m1
    have HI1 := hid fun w' (a : Pt w' p1 al) (b : Pt w' p2 ah) => in_ok ah al ah p2 p1 p2 c2 c1 c2 w' b a b m2 m1
    have HI2 := hid fun w' (a : Pt w' pk k) => in_ok k k k pk pk pk ck ck ck w' a a a mk mk
    have HI3 := hid fun w' (A A' : Option Addr) (c c' : Nat) (a : Pt w' pk k) (b : Pt w' A (List.replicate k.length 0)) (d : Pt w' A' (List.replicate k.length 4294967295)) => in_ok k (List.replicate k.length 0) (List.replicate k.length 4294967295) pk A A' ck c c' w' a b d mk (by rw [List.length_replicate]; exact mk)
    have HI4 := hid fun w' (a : Pt w' p1 al) (b : Pt w' p2 ah) (c : Pt w' pk k) => in_ok k al ah pk p1 p2 ck c1 c2 w' c a b mk m1
    have HW := hid fun w' => whole_ok (k.length : Int) w'
    rw [show wholeLo (k.length : Int) = List.replicate k.length 0 by unfold wholeLo lowW; rw [if_pos (by omega)]; rfl, show wholeHi (k.length : Int) = List.replicate k.length 4294967295 by unfold wholeHi highW; rw [if_pos (by omega)]; rfl] at HW
    rw [show inB al al ah = true by simp [inB, leAll_refl, hN.2.2.2.2]] at HI0
    rw [show inB ah al ah = true by simp [inB, leAll_refl, hN.2.2.2.2]] at HI1
    rw [show inB k k k = true by simp [inB, leAll_refl]] at HI2
    rw [show inB k (List.replicate k.length 0) (List.replicate k.length 4294967295) = true by simp only [inB, low_le, HF.out]; rfl] at HI3
    simp only [List.length_replicate] at HI3
    have HS := hid fun w' (A A' : Option Addr) (c c' : Nat) (a : Pt w' A k) (b : Pt w' A' k) (d : Pt w' pk k) => sameBox_ok k k k k A A' pk pk c c' ck ck w' a b d d (by have := HN.out; omega) (by have := HN.out; omega)
    rw [sameBox_one] at HS
    cases hx : inB k al ah with
    | true =>
      rw [hx] at HM1 HI4 hm2
      obtain ⟨q1, q2⟩ := hm2 rfl
      rw [q1, q2] at HM1
      clear q1 q2
      clear hx hm1 hm2 hN e1
      go_enter Try.func9, Try.ntmps9
      go_wp2_with fail
      refine (HA.out _ (H0.out.pt (by simp)) (H0.out.pt (by simp))).mono ?_
      rintro e w1 ⟨rfl, hb⟩
      have H1 := hid ((H0.out.step hb).box #[.slice pk k.length ck, .slice pk k.length ck])
      have x := H1.out.cells (g := W.heap.size) (x := .slice p1 al.length c1) (y := .slice p2 ah.length c2) (by simp)
      have y := H1.out.cells (g := w1.heap.size) (x := .slice pk k.length ck) (y := .slice pk k.length ck) (by simp)
      clear hb
      go_wp2_with fail
      refine (HM1.out _ (H1.out.pt (p := p1) (by simp)) (H1.out.pt (p := p2) (by simp)) (H1.out.pt (p := pk) (by simp))).mono ?_
      rintro e w3 ⟨A, c, A', c', rfl, q1, q2, hb⟩
      have H3 := hid ((((H1.out.step hb).more q2).more q1).box #[.slice A k.length c, .slice A' k.length c'])
      clear x y q1 q2 hb H1
      have x := H3.out.cells (g := W.heap.size) (x := .slice p1 al.length c1) (y := .slice p2 ah.length c2) (by simp)
      go_wp2_with fail
      refine (HI0.out _ (H3.out.pt (p := p1) (by simp)) (H3.out.pt (p := p2) (by simp))).mono ?_
      rintro e w4 ⟨rfl, hb⟩
      have H4 := hid (H3.out.step hb); clear hb H3 x
      have x := H4.out.cells (g := W.heap.size) (x := .slice p1 al.length c1) (y := .slice p2 ah.length c2) (by simp)
      go_wp2_with fail
      refine (HI1.out _ (H4.out.pt (p := p1) (by simp)) (H4.out.pt (p := p2) (by simp))).mono ?_
      rintro e w5 ⟨rfl, hb⟩
      have H5 := hid (H4.out.step hb); clear hb H4 x
      have x := H5.out.cells (g := w1.heap.size) (x := .slice pk k.length ck) (y := .slice pk k.length ck) (by simp)
      go_wp2_with fail
      refine (HI2.out _ (H5.out.pt (p := pk) (by simp))).mono ?_
      rintro e w6 ⟨rfl, hb⟩
      have H6 := hid (H5.out.step hb); clear hb H5 x
      go_wp2_with fail
      refine (HW.out _).mono ?_
      rintro e w7 ⟨B, d, B', d', rfl, q1, q2, hb⟩
      simp only [List.length_replicate]
      have H7 := hid (((H6.out.step hb).more q2).more q1); clear hb H6 q1 q2
      go_wp2_with fail
      refine (HI3.out _ _ _ _ _ (H7.out.pt (p := pk) (l := k) (by simp)) (H7.out.pt (p := B) (by simp)) (H7.out.pt (p := B') (by simp))).mono ?_
      rintro e w8 ⟨rfl, hb⟩
      have H8 := hid (H7.out.step hb); clear hb H7
      have x := H8.out.cells (g := W.heap.size) (x := .slice p1 al.length c1) (y := .slice p2 ah.length c2) (by simp)
      go_wp2_with fail
      refine (HI4.out _ (H8.out.pt (p := p1) (by simp)) (H8.out.pt (p := p2) (by simp)) (H8.out.pt (p := pk) (l := k) (by simp))).mono ?_
      rintro e w9 ⟨rfl, hb⟩
      have H9 := hid (H8.out.step hb); clear hb H8 x
      have x := H9.out.cells (g := w1.heap.size) (x := .slice pk k.length ck) (y := .slice pk k.length ck) (by simp)
      have y := H9.out.cells (g := w3.heap.size) (x := .slice A k.length c) (y := .slice A' k.length c') (by simp)
      go_wp2_with fail
      refine (HS.out _ _ _ _ _ (H9.out.pt (p := A) (by simp)) (H9.out.pt (p := A') (by simp)) (H9.out.pt (p := pk) (by simp))).mono ?_
      rintro e w10 ⟨rfl, hb⟩
      have H10 := hid (H9.out.step hb); clear hb H9 x y
      go_wp2_with fail
      refine (live_endC _ W H10.out.below).mono ?_
      rintro e w11 ⟨rfl, hb⟩
      have HE := hid hb; clear hb
      go_wp2_with fail
      go_ret
      exact ⟨rfl, HE.out⟩
    | false =>
      rw [hx] at HM1 HI4 hm2
      generalize meetLo al ah k k = lo at HM1
      generalize meetHi al ah k k = hi at HM1
      clear hx hm1 hm2 hN e1
      go_enter Try.func9, Try.ntmps9
      go_wp2_with fail
      refine (HA.out _ (H0.out.pt (by simp)) (H0.out.pt (by simp))).mono ?_
      rintro e w1 ⟨rfl, hb⟩
      have H1 := hid ((H0.out.step hb).box #[.slice pk k.length ck, .slice pk k.length ck])
      have x := H1.out.cells (g := W.heap.size) (x := .slice p1 al.length c1) (y := .slice p2 ah.length c2) (by simp)
      have y := H1.out.cells (g := w1.heap.size) (x := .slice pk k.length ck) (y := .slice pk k.length ck) (by simp)
      clear hb
      go_wp2_with fail
      refine (HM1.out _ (H1.out.pt (p := p1) (by simp)) (H1.out.pt (p := p2) (by simp)) (H1.out.pt (p := pk) (by simp))).mono ?_
      rintro e w3 ⟨A, c, A', c', rfl, q1, q2, hb⟩
      have H3 := hid ((((H1.out.step hb).more q2).more q1).box #[.slice A lo.length c, .slice A' hi.length c'])
      clear x y q1 q2 hb H1
      have x := H3.out.cells (g := W.heap.size) (x := .slice p1 al.length c1) (y := .slice p2 ah.length c2) (by simp)
      go_wp2_with fail
      refine (HI0.out _ (H3.out.pt (p := p1) (by simp)) (H3.out.pt (p := p2) (by simp))).mono ?_
      rintro e w4 ⟨rfl, hb⟩
      have H4 := hid (H3.out.step hb); clear hb H3 x
      have x := H4.out.cells (g := W.heap.size) (x := .slice p1 al.length c1) (y := .slice p2 ah.length c2) (by simp)
      go_wp2_with fail
      refine (HI1.out _ (H4.out.pt (p := p1) (by simp)) (H4.out.pt (p := p2) (by simp))).mono ?_
      rintro e w5 ⟨rfl, hb⟩
      have H5 := hid (H4.out.step hb); clear hb H4 x
      have x := H5.out.cells (g := w1.heap.size) (x := .slice pk k.length ck) (y := .slice pk k.length ck) (by simp)
      go_wp2_with fail
      refine (HI2.out _ (H5.out.pt (p := pk) (by simp))).mono ?_
      rintro e w6 ⟨rfl, hb⟩
      have H6 := hid (H5.out.step hb); clear hb H5 x
      go_wp2_with fail
      refine (HW.out _).mono ?_
      rintro e w7 ⟨B, d, B', d', rfl, q1, q2, hb⟩
      simp only [List.length_replicate]
      have H7 := hid (((H6.out.step hb).more q2).more q1); clear hb H6 q1 q2
      go_wp2_with fail
      refine (HI3.out _ _ _ _ _ (H7.out.pt (p := pk) (l := k) (by simp)) (H7.out.pt (p := B) (by simp)) (H7.out.pt (p := B') (by simp))).mono ?_
      rintro e w8 ⟨rfl, hb⟩
      have H8 := hid (H7.out.step hb); clear hb H7
      have x := H8.out.cells (g := W.heap.size) (x := .slice p1 al.length c1) (y := .slice p2 ah.length c2) (by simp)
      go_wp2_with fail
      refine (HI4.out _ (H8.out.pt (p := p1) (by simp)) (H8.out.pt (p := p2) (by simp)) (H8.out.pt (p := pk) (l := k) (by simp))).mono ?_
      rintro e w9 ⟨rfl, hb⟩
      have H9 := hid (H8.out.step hb); clear hb H8 x
      go_wp2_with fail
      refine (live_endC _ W H9.out.below).mono ?_
      rintro e w11 ⟨rfl, hb⟩
      have HE := hid hb; clear hb
      go_wp2_with fail
      go_ret
      exact ⟨rfl, HE.out⟩
end Go.Proofs.Ytgnacoejahpjoaa
