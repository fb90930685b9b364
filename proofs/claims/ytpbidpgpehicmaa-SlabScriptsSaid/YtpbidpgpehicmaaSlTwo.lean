/- Both slabs beside one another, through a round of a script. -/
import Derived.Test.YtpbidpgpehicmaaSlRv2
import Derived.Test.YtpbidpgpehicmaaSlGro
namespace Go.Proofs.Ytpbidpgpehicmaa.Sl
open Go.RowKit Go.Shelf
open Go.Lib (hid)

/-- the program's slab at b, the document's at b', apart, and both apart from K's blocks -/
structure Two (K : Nat → Prop) (b b' : Nat) (V : World) (S : List Nat) (C : List Int) (S' : List Nat) (C' : List Int) : Prop where
  ex : ∃ g h g' h', Slb V b g h (zs S) C ∧ Rlb V b' g' h' (zs S') C' ∧ (∀ j, B3 b g h j → ¬ K j) ∧ (∀ j, B3 b' g' h' j → ¬ K j) ∧ (∀ j, B3 b g h j → ¬ B3 b' g' h' j)
  fit : Fits S C
  fit' : Fits S' C'
  wf : ∀ x ∈ C, (Lit.int .i64 x).wf = true
  lt : ∀ j, K j → j < V.heap.size
section
variable {K : Nat → Prop} {b b' : Nat} {V V' : World} {S S' : List Nat} {C C' : List Int}
theorem Two.next (h : Two K b b' V S C S' C') (hb : Below V.heap.size V V') : Two K b b' V' S C S' C' := by
  obtain ⟨g, k, g', k', h1, h2, h3⟩ := h.ex
  exact ⟨⟨g, k, g', k', h1.below hb, h2.below hb, h3⟩, h.fit, h.fit', h.wf, fun j hj => Nat.lt_of_lt_of_le (h.lt j hj) hb.size⟩
theorem Two.less {K' : Nat → Prop} (h : Two K b b' V S C S' C') (hk : ∀ j, K' j → K j) : Two K' b b' V S C S' C' := by
  obtain ⟨g, k, g', k', h1, h2, h3, h4, h5⟩ := h.ex
  exact ⟨⟨g, k, g', k', h1, h2, fun j hj e => h3 j hj (hk j e), fun j hj e => h4 j hj (hk j e), h5⟩, h.fit, h.fit', h.wf, fun j hj => h.lt j (hk j hj)⟩
/-- a block that has come is kept, too -/
theorem Two.more (h : Two K b b' V S C S' C') (hb : Below V.heap.size V V') (x : Nat) (hx : V.heap.size ≤ x) (hx2 : x < V'.heap.size) : Two (fun j => K j ∨ j = x) b b' V' S C S' C' := by
  obtain ⟨g, k, g', k', h1, h2, h3, h4, h5⟩ := h.ex
  refine ⟨⟨g, k, g', k', h1.below hb, h2.below hb, fun j hj e => ?_, fun j hj e => ?_, h5⟩, h.fit, h.fit', h.wf, fun j hj => ?_⟩
  · have := h1.lts j hj
    rcases e with e | e
    · exact h3 j hj e
    · omega
  · have := h2.lts j hj
    rcases e with e | e
    · exact h4 j hj e
    · omega
  · rcases hj with e | e
    · exact Nat.lt_of_lt_of_le (h.lt j e) hb.size
    · rw [e]; exact hx2
theorem Two.lv (h : Two K b b' V S C S' C') : ∃ g' h', Lv (fun j => K j ∨ B3 b' g' h' j) V b S C ∧ Rlb V b' g' h' (zs S') C' ∧ (∀ j, B3 b' g' h' j → ¬ K j) := by
  obtain ⟨g, k, g', k', h1, h2, h3, h4, h5⟩ := h.ex
  refine ⟨g', k', ⟨⟨g, k, h1, fun j hj e => ?_⟩, h.fit, h.wf, fun j hj => ?_⟩, h2, h4⟩
  · rcases e with e | e
    · exact h3 j hj e
    · exact h5 j hj e
  · rcases hj with e | e
    · exact h.lt j e
    · exact h2.lts j e
theorem Two.of_lv {g' h' : Nat} {S2 : List Nat} {C2 : List Int} (hl : Lv (fun j => K j ∨ B3 b' g' h' j) V' b S2 C2) (ho : On (fun j => K j ∨ B3 b' g' h' j) V V') (hr : Rlb V b' g' h' (zs S') C') (hn : ∀ j, B3 b' g' h' j → ¬ K j) (F : Fits S' C') : Two K b b' V' S2 C2 S' C' ∧ On K V V' := by
  obtain ⟨g, k, hs, h3⟩ := hl.ex
  refine ⟨⟨⟨g, k, g', h', hs, hr.keep fun j hj => ho.block' j (.inr hj) (hr.lts j hj), fun j hj e => h3 j hj (.inl e), hn, fun j hj e => h3 j hj (.inr e)⟩, hl.fit, F, hl.wf, fun j hj => hl.lt j (.inl hj)⟩, onl_mono ho fun j hj e => hj (.inl e)⟩
theorem Two.rv (h : Two K b b' V S C S' C') : ∃ g k, Rv (fun j => K j ∨ B3 b g k j) V b' S' C' ∧ Slb V b g k (zs S) C ∧ (∀ j, B3 b g k j → ¬ K j) := by
  obtain ⟨g, k, g', k', h1, h2, h3, h4, h5⟩ := h.ex
  refine ⟨g, k, ⟨⟨g', k', h2, fun j hj e => ?_⟩, h.fit', fun j hj => ?_⟩, h1, h3⟩
  · rcases e with e | e
    · exact h4 j hj e
    · exact h5 j e hj
  · rcases hj with e | e
    · exact h.lt j e
    · exact h1.lts j e
theorem Two.of_rv {g k : Nat} {S2 : List Nat} {C2 : List Int} (h : Two K b b' V S C S' C') (hl : Rv (fun j => K j ∨ B3 b g k j) V' b' S2 C2) (ho : On (fun j => K j ∨ B3 b g k j) V V') (hr : Slb V b g k (zs S) C) (hn : ∀ j, B3 b g k j → ¬ K j) : Two K b b' V' S C S2 C2 ∧ On K V V' := by
  obtain ⟨g', k', hs, h3⟩ := hl.ex
  refine ⟨⟨⟨g, k, g', k', hr.keep fun j hj => ho.block' j (.inr hj) (hr.lts j hj), hs, hn, fun j hj e => h3 j hj (.inl e), fun j hj e => h3 j e (.inr hj)⟩, h.fit, hl.fit, h.wf, fun j hj => hl.lt j (.inl hj)⟩, onl_mono ho fun j hj e => hj (.inl e)⟩
/-- each call, whatever is asked -/
theorem Two.grow (h : Two K b b' V S C S' C') (d i : Int) :
    Calls Try.prog 12 #[.pointer (some ⟨b, 0, none⟩), .int .i64 d, .int .i64 i] V fun e V' => e = .returned (.int .i64 (growU S C d i).1) ∧ Two K b b' V' (growU S C d i).2.1 (growU S C d i).2.2 S' C' ∧ On K V V' := by
  obtain ⟨g', k', hl, hr, hn⟩ := h.lv
  exact (lv_grow hl d i).mono fun e V' ⟨he, h1, h2⟩ => ⟨he, Two.of_lv h1 h2 hr hn h.fit'⟩
theorem Two.rgrow (h : Two K b b' V S C S' C') (d i : Int) :
    Calls Try.prog 13 #[.pointer (some ⟨b', 0, none⟩), .int .i64 d, .int .i64 i] V fun e V' => e = .returned (.int .i64 (growU S' C' d i).1) ∧ Two K b b' V' S C (growU S' C' d i).2.1 (growU S' C' d i).2.2 ∧ On K V V' := by
  obtain ⟨g, k, hl, hr, hn⟩ := h.rv
  exact (rv_grow hl d i).mono fun e V' ⟨he, h1, h2⟩ => ⟨he, h.of_rv h1 h2 hr hn⟩
theorem Two.shrink (h : Two K b b' V S C S' C') (d i : Int) :
    Calls Try.prog 14 #[.pointer (some ⟨b, 0, none⟩), .int .i64 d, .int .i64 i] V fun e V' => e = .returned (.int .i64 (shrinkU S C d i).1) ∧ Two K b b' V' (shrinkU S C d i).2.1 (shrinkU S C d i).2.2 S' C' ∧ On K V V' := by
  obtain ⟨g', k', hl, hr, hn⟩ := h.lv
  exact (lv_shrink hl d i).mono fun e V' ⟨he, h1, h2⟩ => ⟨he, Two.of_lv h1 h2 hr hn h.fit'⟩
theorem Two.rshrink (h : Two K b b' V S C S' C') (d i : Int) :
    Calls Try.prog 15 #[.pointer (some ⟨b', 0, none⟩), .int .i64 d, .int .i64 i] V fun e V' => e = .returned (.int .i64 (shrinkU S' C' d i).1) ∧ Two K b b' V' S C (shrinkU S' C' d i).2.1 (shrinkU S' C' d i).2.2 ∧ On K V V' := by
  obtain ⟨g, k, hl, hr, hn⟩ := h.rv
  exact (rv_shrink hl d i).mono fun e V' ⟨he, h1, h2⟩ => ⟨he, h.of_rv h1 h2 hr hn⟩
theorem not_or {K B : Nat → Prop} {V : World} {p : Option Addr} {l : List Value} (h : CellsD (fun j => ¬ K j) V p l) : CellsD (fun j => ¬ (K j ∨ B j)) V p l := fun j hj => by
  obtain ⟨x, o, e1, e2, e3, e4⟩ := h j hj
  exact ⟨x, o, e1, e2, fun e => e3 fun hk => e (.inl hk), e4⟩
theorem Two.fill (h : Two K b b' V S C S' C') (lo hi : List Int) (p q : Option Addr) (c1 c2 : Nat) (hp : CellsD (fun j => ¬ K j) V p (iv lo)) (hq : CellsD (fun j => ¬ K j) V q (iv hi)) (hl : lo.length ≤ 1000000) (hl2 : hi.length ≤ 1000000) (n : Int) (hw : (Lit.int .i64 n).wf = true) :
    Calls Try.prog 16 #[.pointer (some ⟨b, 0, none⟩), .slice p lo.length c1, .slice q hi.length c2, .int .i64 n] V fun e V' => e = .returned (.int .i64 (fillU S C lo hi n).1) ∧ Two K b b' V' S (fillU S C lo hi n).2 S' C' ∧ On K V V' := by
  obtain ⟨g', k', hx, hr, hn⟩ := h.lv
  exact (lv_fill hx lo hi p q c1 c2 (not_or hp) (not_or hq) hl hl2 n hw).mono fun e V' ⟨he, h1, h2⟩ => ⟨he, Two.of_lv h1 h2 hr hn h.fit'⟩
theorem Two.rfill (h : Two K b b' V S C S' C') (lo hi : List Int) (p q : Option Addr) (c1 c2 : Nat) (hp : CellsD (fun j => ¬ K j) V p (iv lo)) (hq : CellsD (fun j => ¬ K j) V q (iv hi)) (hl : lo.length ≤ 1000000) (hl2 : hi.length ≤ 1000000) (n : Int) :
    Calls Try.prog 17 #[.pointer (some ⟨b', 0, none⟩), .slice p lo.length c1, .slice q hi.length c2, .int .i64 n] V fun e V' => e = .returned (.int .i64 (fillU S' C' lo hi n).1) ∧ Two K b b' V' S C S' (fillU S' C' lo hi n).2 ∧ On K V V' := by
  obtain ⟨g, k, hx, hr, hn⟩ := h.rv
  exact (rv_fill hx lo hi p q c1 c2 (not_or hp) (not_or hq) hl hl2 n).mono fun e V' ⟨he, h1, h2⟩ => ⟨he, h.of_rv h1 h2 hr hn⟩
theorem Two.seen (h : Two K b b' V S C S' C') (lo hi : List Int) (p q : Option Addr) (c1 c2 : Nat) (hp : CellsAt V p (iv lo)) (hq : CellsAt V q (iv hi)) (hl : lo.length ≤ 1000000) (hl2 : hi.length ≤ 1000000) :
    Calls Try.prog 22 #[.pointer (some ⟨b, 0, none⟩), .slice p lo.length c1, .slice q hi.length c2] V fun e V' => ∃ r c, e = .returned (.tuple #[.slice r (seenU S C lo hi).2.length c, .int .i64 (seenU S C lo hi).1]) ∧ CellsAt V' r (iv (seenU S C lo hi).2) ∧ Below V.heap.size V V' := by
  obtain ⟨g', k', hx, _⟩ := h.lv
  exact lv_seen hx lo hi p q c1 c2 hp hq hl hl2
theorem Two.rseen (h : Two K b b' V S C S' C') (lo hi : List Int) (p q : Option Addr) (c1 c2 : Nat) (hp : CellsAt V p (iv lo)) (hq : CellsAt V q (iv hi)) (hl : lo.length ≤ 1000000) (hl2 : hi.length ≤ 1000000) :
    Calls Try.prog 23 #[.pointer (some ⟨b', 0, none⟩), .slice p lo.length c1, .slice q hi.length c2] V fun e V' => ∃ r c, e = .returned (.tuple #[.slice r (seenU S' C' lo hi).2.length c, .int .i64 (seenU S' C' lo hi).1]) ∧ CellsAt V' r (iv (seenU S' C' lo hi).2) ∧ Below V.heap.size V V' := by
  obtain ⟨g', k', hx, _⟩ := h.rv
  exact rv_seen hx lo hi p q c1 c2 hp hq hl hl2
theorem below_of_drewN {e x : Ending} {V V' : World} (h : e = x ∧ ∃ n, V' = V.drewN n) : e = x ∧ Below V.heap.size V V' := by
  obtain ⟨he, n, rfl⟩ := h
  exact ⟨he, below_drewN (Below.refl _ _) n⟩
theorem Two.get (h : Two K b b' V S C S' C') (l : List Int) (p : Option Addr) (c : Nat) (hp : CellsAt V p (iv l)) (hl : l.length ≤ 1000000) :
    Calls Try.prog 18 #[.pointer (some ⟨b, 0, none⟩), .slice p l.length c] V fun e V' => e = .returned (.tuple #[.int .i64 (getAns S C l).1, .int .i64 (getAns S C l).2]) ∧ Below V.heap.size V V' := by
  obtain ⟨g', k', hx, _⟩ := h.lv
  exact (lv_get hx l p c hp hl).mono fun e V' hh => below_of_drewN hh
theorem Two.rget (h : Two K b b' V S C S' C') (l : List Int) (p : Option Addr) (c : Nat) (hp : CellsAt V p (iv l)) (hl : l.length ≤ 1000000) :
    Calls Try.prog 19 #[.pointer (some ⟨b', 0, none⟩), .slice p l.length c] V fun e V' => e = .returned (.tuple #[.int .i64 (getAns S' C' l).1, .int .i64 (getAns S' C' l).2]) ∧ Below V.heap.size V V' := by
  obtain ⟨g', k', hx, _⟩ := h.rv
  exact (rv_get hx l p c hp hl).mono fun e V' hh => below_of_drewN hh
theorem Two.place (h : Two K b b' V S C S' C') (l : List Int) (p : Option Addr) (c : Nat) (hp : CellsAt V p (iv l)) (hl : l.length ≤ 1000000) :
    Calls Try.prog 20 #[.pointer (some ⟨b, 0, none⟩), .slice p l.length c] V fun e V' => e = .returned (.tuple #[.int .i64 (placeAns S l).1, .int .i64 (placeAns S l).2]) ∧ Below V.heap.size V V' := by
  obtain ⟨g', k', hx, _⟩ := h.lv
  exact (lv_place hx l p c hp hl).mono fun e V' hh => below_of_drewN hh
theorem Two.rplace (h : Two K b b' V S C S' C') (l : List Int) (p : Option Addr) (c : Nat) (hp : CellsAt V p (iv l)) (hl : l.length ≤ 1000000) :
    Calls Try.prog 21 #[.pointer (some ⟨b', 0, none⟩), .slice p l.length c] V fun e V' => e = .returned (.tuple #[.int .i64 (placeAns S' l).1, .int .i64 (placeAns S' l).2]) ∧ Below V.heap.size V V' := by
  obtain ⟨g', k', hx, _⟩ := h.rv
  exact (rv_place hx l p c hp hl).mono fun e V' hh => below_of_drewN hh
theorem Two.sizes (h : Two K b b' V S C S' C') :
    Calls Try.prog 25 #[.pointer (some ⟨b, 0, none⟩)] V fun e V' => ∃ p c, e = .returned (.slice p S.length c) ∧ CellsAt V' p (iv (zs S)) ∧ Below V.heap.size V V' := by
  obtain ⟨g', k', hx, _⟩ := h.lv
  exact lv_sizes hx
theorem Two.cells (h : Two K b b' V S C S' C') :
    Calls Try.prog 26 #[.pointer (some ⟨b, 0, none⟩)] V fun e V' => ∃ p c, e = .returned (.slice p C.length c) ∧ CellsAt V' p (iv C) ∧ Below V.heap.size V V' := by
  obtain ⟨g', k', hx, _⟩ := h.lv
  exact (lv_cells hx).mono fun e V' ⟨p, c, he, h1, h2, _⟩ => ⟨p, c, he, h1, h2⟩
/-- what the document's slab shows -/
theorem Two.shows (h : Two K b b' V S C S' C') : ∃ g h k m, ∀ X : World, Below V.heap.size V X → X.cell? ⟨b', 0, none⟩ = some (.slice (some ⟨g, 0, none⟩) S'.length k) ∧ X.cell? ⟨b', 1, none⟩ = some (.slice (some ⟨h, 0, none⟩) C'.length m) ∧ CellsAt X (some ⟨g, 0, none⟩) (iv (zs S')) ∧ CellsAt X (some ⟨h, 0, none⟩) (iv C') := by
  obtain ⟨g, k, hl, _⟩ := h.rv
  obtain ⟨g', k', k2, m2, hr, _⟩ := hl.rf
  exact ⟨g', k', k2, m2, fun X hX => ⟨(hr.below hX).cells.1, (hr.below hX).cells.2, (hr.below hX).sz.cells, (hr.below hX).co.cells⟩⟩
theorem Two.same (h : Two K b b' V S C S' C') : S.length ≤ 6 ∧ C.length ≤ 4096 ∧ S'.length ≤ 6 ∧ C'.length ≤ 4096 := ⟨h.fit.few, by rw [h.fit.len]; exact h.fit.most, h.fit'.few, by rw [h.fit'.len]; exact h.fit'.most⟩
end
end Go.Proofs.Ytpbidpgpehicmaa.Sl
