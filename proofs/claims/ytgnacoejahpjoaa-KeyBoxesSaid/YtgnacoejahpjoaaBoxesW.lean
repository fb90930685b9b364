/- KeyBoxes walked. -/
import Derived.Test.YtgnacoejahpjoaaKyOpen
import Derived.Test.YtgnacoejahpjoaaKyLive
import Derived.Test.YtgnacoejahpjoaaKyRMeet
namespace Go.Proofs.Ytgnacoejahpjoaa
open Go.RowKit
open Go.Lib (hid)
open Ky
open Go.ChangeShapes Go.WideShapes

section
variable {H : Type} {enc : TypeId × Value → H} {W : World} {base : Nat}
theorem KeyBoxes_open0 {v : Value} {d : DataW H} {p : List MemPlace} (hv : Value.okWide Try.prog W .any base 23 v) (h : DataW.Trod enc Try.prog W 0 (fun _ => true) true 23 v d p) : KeyV W v := open_key hv h
theorem KeyBoxes_open1 {v : Value} {d : DataW H} {p : List MemPlace} (hv : Value.okWide Try.prog W .any base 33 v) (h : DataW.Trod enc Try.prog W 0 (fun _ => true) true 33 v d p) : BoxV W v := open_boxv hv h
theorem KeyBoxes_open2 {v : Value} {d : DataW H} {p : List MemPlace} (hv : Value.okWide Try.prog W .any base 33 v) (h : DataW.Trod enc Try.prog W 0 (fun _ => true) true 33 v d p) : BoxV W v := open_boxv hv h
end
theorem live_endX (w W : World) (hb : Below W.heap.size W w) : Calls Try.prog 11 #[] w fun e w' => e = .returned (.bool true) ∧ Below W.heap.size W w' :=
  (live_any w).mono fun _ _ h => ⟨h.1, hb.trans (h.2.mono hb.size)⟩
theorem five_at {V : World} {v0 v1 v2 v3 v4 : Value} {ns : List Nat} (h : ∀ j (hj : j < ns.length), ∃ p c', [v0, v1, v2, v3, v4][j]? = some (.slice p ns[j] c')) :
    ∀ j (hj : j < ns.length), ∃ p c', (V.alloc (.cells #[v0, v1, v2, v3, v4] 23)).cell? ⟨V.heap.size, j, none⟩ = some (.slice p ns[j] c') := fun j hj => by
  obtain ⟨p, c', e⟩ := h j hj
  refine ⟨p, c', ?_⟩
  rw [cell_of_row _ _ _ _ _ _ (heap_alloc_new V _), ← e]
  simp
theorem sameBoxX (a b : List Nat) : sameBoxB a b a b = true := by simp [sameBoxB, sameB]
theorem keepc {V V' : World} {b o : Nat} {v : Value} (h : V.cell? ⟨b, o, none⟩ = some v) (hb : Below V.heap.size V V') : V'.cell? ⟨b, o, none⟩ = some v := (hb.cell (World.block_lt_of_cell? V ⟨b, o, none⟩ h)).trans h
theorem keep6 {V V' : World} {b1 b2 b3 : Nat} {v1 v2 v3 v4 v5 v6 : Value} (h : V.cell? ⟨b1, 0, none⟩ = some v1 ∧ V.cell? ⟨b1, 1, none⟩ = some v2 ∧ V.cell? ⟨b2, 0, none⟩ = some v3 ∧ V.cell? ⟨b2, 1, none⟩ = some v4 ∧ V.cell? ⟨b3, 0, none⟩ = some v5 ∧ V.cell? ⟨b3, 1, none⟩ = some v6) (hb : Below V.heap.size V V') :
    V'.cell? ⟨b1, 0, none⟩ = some v1 ∧ V'.cell? ⟨b1, 1, none⟩ = some v2 ∧ V'.cell? ⟨b2, 0, none⟩ = some v3 ∧ V'.cell? ⟨b2, 1, none⟩ = some v4 ∧ V'.cell? ⟨b3, 0, none⟩ = some v5 ∧ V'.cell? ⟨b3, 1, none⟩ = some v6 :=
  ⟨keepc h.1 hb, keepc h.2.1 hb, keepc h.2.2.1 hb, keepc h.2.2.2.1 hb, keepc h.2.2.2.2.1 hb, keepc h.2.2.2.2.2 hb⟩
theorem meetLo_le (al ah bl bh : List Nat) : (meetLo al ah bl bh).length ≤ al.length := by unfold meetLo hiOf; split <;> simp <;> omega
theorem meetHi_le (al ah bl bh : List Nat) : (meetHi al ah bl bh).length ≤ ah.length := by unfold meetHi loOf; split <;> simp <;> omega
/-- the points on the way -/
structure Pts5 (W V : World) (pk p1 p2 p3 p4 A A' B B' : Option Addr) (k al ah bl bh lo hi : List Nat) : Prop where
  k : Pt V pk k
  al : Pt V p1 al
  ah : Pt V p2 ah
  bl : Pt V p3 bl
  bh : Pt V p4 bh
  a : Pt V A lo
  a' : Pt V A' hi
  b : Pt V B lo
  b' : Pt V B' hi
  below : Below W.heap.size W V
theorem Pts5.step {W V V' : World} {pk p1 p2 p3 p4 A A' B B' : Option Addr} {k al ah bl bh lo hi : List Nat} (h : Pts5 W V pk p1 p2 p3 p4 A A' B B' k al ah bl bh lo hi) (hb : Below V.heap.size V V') : Pts5 W V' pk p1 p2 p3 p4 A A' B B' k al ah bl bh lo hi :=
  ⟨h.k.below hb, h.al.below hb, h.ah.below hb, h.bl.below hb, h.bh.below hb, h.a.below hb, h.a'.below hb, h.b.below hb, h.b'.below hb, h.below.trans (hb.mono h.below.size)⟩
set_option maxRecDepth 100000 in
set_option maxHeartbeats 8000000 in
theorem KeyBoxes_walk (v0 v1 v2 : Value) (W : World) (h0 : KeyV W v0) (h1 : BoxV W v1) (h2 : BoxV W v2) :
    Calls Try.prog 4 #[v0, v1, v2] W fun e w' => e = .returned (.bool true) ∧ Below W.heap.size W w' := by
  obtain ⟨pk, k, ck, rfl, k0, mk⟩ := h0
  obtain ⟨_, _, rfl, ⟨p1, al, c1, rfl, k1, m1⟩, ⟨p2, ah, c2, rfl, k2, m2⟩⟩ := h1
  obtain ⟨_, _, rfl, ⟨p3, bl, c3, rfl, k3, m3⟩, ⟨p4, bh, c4, rfl, k4, m4⟩⟩ := h2
  have H0 := hid (((((((Cx.start W).more k4).more k3).more k2).more k1).more k0).box #[.slice p1 al.length c1, .slice p2 ah.length c2] |>.box #[.slice p3 bl.length c3, .slice p4 bh.length c4])
  simp only [World.size_alloc] at H0
  clear k0 k1 k2 k3 k4
  have HS := hid fun (V : World) => short_ok [k.length, al.length, ah.length, bl.length, bh.length] V.heap.size 5 (V.alloc (.cells #[.slice pk k.length ck, .slice p1 al.length c1, .slice p2 ah.length c2, .slice p3 bl.length c3, .slice p4 bh.length c4] 23)) (by simp) (five_at (fun j hj => by
    have : j = 0 ∨ j = 1 ∨ j = 2 ∨ j = 3 ∨ j = 4 := by simp at hj; omega
    rcases this with rfl | rfl | rfl | rfl | rfl
    · exact ⟨_, _, rfl⟩
    · exact ⟨_, _, rfl⟩
    · exact ⟨_, _, rfl⟩
    · exact ⟨_, _, rfl⟩
    · exact ⟨_, _, rfl⟩))
  have H1 := hid (H0.out.alloc (.cells #[.slice pk k.length ck, .slice p1 al.length c1, .slice p2 ah.length c2, .slice p3 bl.length c3, .slice p4 bh.length c4] 23))
  cases hs : shortB [k.length, al.length, ah.length, bl.length, bh.length] with
  | false =>
    have HS1 := hid (HS.out ((W.alloc (.cells #[.slice p1 al.length c1, .slice p2 ah.length c2] 33)).alloc (.cells #[.slice p3 bl.length c3, .slice p4 bh.length c4] 33)))
    rw [hs] at HS1
    simp only [World.size_alloc] at HS1
    clear hs HS
    go_enter Try.func4, Try.ntmps4
    go_wp2_with fail
    refine HS1.out.mono ?_
    rintro e w1 ⟨rfl, rfl⟩
    go_wp2_with fail
    refine (live_endX _ W H1.out.below).mono ?_
    rintro e w2 ⟨rfl, hb⟩
    have HE := hid hb; clear hb
    go_wp2_with fail
    go_ret
    exact ⟨rfl, HE.out⟩
  | true =>
    have HL : Hid (k.length ≤ 20 ∧ al.length ≤ 20 ∧ ah.length ≤ 20 ∧ bl.length ≤ 20 ∧ bh.length ≤ 20) := hid (by simp [shortB] at hs; omega)
    have HS1 := hid (HS.out ((W.alloc (.cells #[.slice p1 al.length c1, .slice p2 ah.length c2] 33)).alloc (.cells #[.slice p3 bl.length c3, .slice p4 bh.length c4] 33)))
    rw [hs] at HS1
    simp only [World.size_alloc] at HS1
    clear hs HS
    have HM1 := hid fun w' (a : Pt w' p1 al) (b : Pt w' p2 ah) (c : Pt w' p3 bl) (d : Pt w' p4 bh) => meet_ok al ah bl bh p1 p2 p3 p4 c1 c2 c3 c4 w' a b c d (by have := HL.out; omega) (by have := HL.out; omega)
    have HM2 := hid fun w' (a : Pt w' p1 al) (b : Pt w' p2 ah) (c : Pt w' p3 bl) (d : Pt w' p4 bh) => refMeet_ok al ah bl bh p1 p2 p3 p4 c1 c2 c3 c4 w' a b c d (by have := HL.out; omega)
    have HLN := hid (And.intro (meetLo_le al ah bl bh) (meetHi_le al ah bl bh))
    generalize meetLo al ah bl bh = lo at HM1 HM2 HLN
    generalize meetHi al ah bl bh = hi at HM1 HM2 HLN
    generalize meetB al ah bl bh = x at HM1 HM2
    go_enter Try.func4, Try.ntmps4
    go_wp2_with fail
    refine HS1.out.mono ?_
    rintro e w1 ⟨rfl, rfl⟩
    have u := H1.out.cells (g := W.heap.size) (x := .slice p1 al.length c1) (y := .slice p2 ah.length c2) (by simp)
    have v := H1.out.cells (g := W.heap.size + 1) (x := .slice p3 bl.length c3) (y := .slice p4 bh.length c4) (by simp)
    go_wp2_with fail
    refine (HM1.out _ (H1.out.pt (by simp)) (H1.out.pt (by simp)) (H1.out.pt (by simp)) (H1.out.pt (by simp))).mono ?_
    rintro e w2 ⟨A, c, A', c', rfl, q1, q2, hb⟩
    have H3 := hid ((((H1.out.step hb).more q2).more q1).box #[.slice A lo.length c, .slice A' hi.length c']); clear hb q1 q2 u v
    have u := H3.out.cells (g := W.heap.size) (x := .slice p1 al.length c1) (y := .slice p2 ah.length c2) (by simp)
    have v := H3.out.cells (g := W.heap.size + 1) (x := .slice p3 bl.length c3) (y := .slice p4 bh.length c4) (by simp)
    go_wp2_with fail
    refine (HM2.out _ (H3.out.pt (p := p1) (by simp)) (H3.out.pt (p := p2) (by simp)) (H3.out.pt (p := p3) (by simp)) (H3.out.pt (p := p4) (by simp))).mono ?_
    rintro e w3 ⟨B, d, B', d', rfl, q1, q2, hb⟩
    have H4 := hid ((((H3.out.step hb).more q2).more q1).box #[.slice B lo.length d, .slice B' hi.length d']); clear hb q1 q2 u v
    have u := H4.out.cells (g := W.heap.size) (x := .slice p1 al.length c1) (y := .slice p2 ah.length c2) (by simp)
    have v := H4.out.cells (g := w2.heap.size) (x := .slice A lo.length c) (y := .slice A' hi.length c') (by simp)
    have w := H4.out.cells (g := w3.heap.size) (x := .slice B lo.length d) (y := .slice B' hi.length d') (by simp)
    have HP : Hid (Pts5 W (w3.alloc (.cells #[.slice B lo.length d, .slice B' hi.length d'] 33)) pk p1 p2 p3 p4 A A' B B' k al ah bl bh lo hi) := hid
      ⟨H4.out.pt (p := pk) (l := k) (by simp), H4.out.pt (p := p1) (by simp), H4.out.pt (p := p2) (by simp), H4.out.pt (p := p3) (by simp), H4.out.pt (p := p4) (by simp), H4.out.pt (p := A) (by simp), H4.out.pt (p := A') (by simp), H4.out.pt (p := B) (by simp), H4.out.pt (p := B') (by simp), H4.out.below⟩
    have s0 := And.intro u.1 (And.intro u.2 (And.intro v.1 (And.intro v.2 (And.intro w.1 w.2))))
    have S0 := hid s0
    clear u v w s0 H0 H1 H3 H4 HM1 HM2 HS1
    go_wp2_with fail
    have s0 := S0.out
    clear S0
    generalize hV : w3.alloc (.cells #[.slice B lo.length d, .slice B' hi.length d'] 33) = V at HP s0 ⊢
    clear hV
    have HI1 := hid fun w' (h : Pts5 W w' pk p1 p2 p3 p4 A A' B B' k al ah bl bh lo hi) => in_ok k al ah pk p1 p2 ck c1 c2 w' h.k h.al h.ah mk m1
    have HI2 := hid fun w' (h : Pts5 W w' pk p1 p2 p3 p4 A A' B B' k al ah bl bh lo hi) => refIn_ok k al ah pk p1 p2 ck c1 c2 w' h.k h.al h.ah mk
    have HC1 := hid fun w' (h : Pts5 W w' pk p1 p2 p3 p4 A A' B B' k al ah bl bh lo hi) => checkBox_ok al ah p1 p2 c1 c2 (k.length : Int) w' h.al h.ah m1
    have HC2 := hid fun w' (h : Pts5 W w' pk p1 p2 p3 p4 A A' B B' k al ah bl bh lo hi) => refCheckBox_ok al ah p1 p2 c1 c2 (k.length : Int) w' h.al h.ah m1
    have HSB := hid fun w' (h : Pts5 W w' pk p1 p2 p3 p4 A A' B B' k al ah bl bh lo hi) => sameBox_ok lo hi lo hi A A' B B' c c' d d' w' h.a h.a' h.b h.b' (by have := HLN.out; have := HL.out; omega) (by have := HLN.out; have := HL.out; omega)
    rw [sameBoxX] at HSB
    generalize inB k al ah = b1 at HI1 HI2
    generalize err (boxB al ah k.length) = b2 at HC1 HC2
    have t1 : (b1 == b1) = true := by simp
    have t2 : (b2 == b2) = true := by simp
    have t3 : (x == x) = true := by simp
    have hP0 := hid (HP.out.step (Below.refl V.heap.size V).drew)
    have y0 := keep6 s0 (Below.refl V.heap.size V).drew
    clear s0
    go_region_held3 (fun w' => w'.cell? ⟨W.heap.size, 0, none⟩ = some (.slice p1 al.length c1) ∧ w'.cell? ⟨W.heap.size, 1, none⟩ = some (.slice p2 ah.length c2) ∧ w'.cell? ⟨w2.heap.size, 0, none⟩ = some (.slice A lo.length c) ∧ w'.cell? ⟨w2.heap.size, 1, none⟩ = some (.slice A' hi.length c') ∧ w'.cell? ⟨w3.heap.size, 0, none⟩ = some (.slice B lo.length d) ∧ w'.cell? ⟨w3.heap.size, 1, none⟩ = some (.slice B' hi.length d'))
      (first | exact y0 | exact y1 | exact y2 | exact y3 | exact y4 | exact y5 | exact y6 | fail)
      (first
        | (go_at_call 20; (with_reducible refine (HI1.out _ hP0.out).mono ?_); rintro e x1 ⟨rfl, hb⟩; have hP1 := hid (hP0.out.step hb); have y1 := keep6 y0 hb; clear hb)
        | (go_at_call 21; (with_reducible refine (HI2.out _ hP1.out).mono ?_); rintro e x2 ⟨rfl, hb⟩; have hP2 := hid (hP1.out.step hb); have y2 := keep6 y1 hb; clear hb)
        | (go_at_call 22; (with_reducible refine (HC1.out _ hP2.out).mono ?_); rintro e x3 ⟨rfl, hb⟩; have hP3 := hid (hP2.out.step hb); have y3 := keep6 y2 hb; clear hb)
        | (go_at_call 23; (with_reducible refine (HC2.out _ hP3.out).mono ?_); rintro e x4 ⟨rfl, hb⟩; have hP4 := hid (hP3.out.step hb); have y4 := keep6 y3 hb; clear hb)
        | (go_at_call 24; (with_reducible refine (HSB.out _ hP4.out).mono ?_); rintro e x5 ⟨rfl, hb⟩; have hP5 := hid (hP4.out.step hb); have y5 := keep6 y4 hb; clear hb)
        | (go_at_call 11; (with_reducible refine (live_any _).mono ?_); rintro e x6 ⟨rfl, hb⟩; have hP6 := hid (hP5.out.step hb); have y6 := keep6 y5 hb; clear hb)
        | fail)
    go_wp2_with fail
    go_ret
    exact ⟨rfl, hP6.out.below⟩
end Go.Proofs.Ytgnacoejahpjoaa
