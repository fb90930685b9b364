/- A slab on its way through a law: what else there is stays. -/
import Derived.Test.YtnmhdlincgefeaaSlUniR
namespace Go.Proofs.Ytnmhdlincgefeaa.Sl
open Go.RowKit Go.Shelf
open Go.Lib (hid)


/-- a slab at b in blocks that are none of K; K's blocks are there -/
structure Lv (K : Nat → Prop) (V : World) (b : Nat) (S : List Nat) (C : List Int) : Prop where
  ex : ∃ g h, Slb V b g h (zs S) C ∧ ∀ j, B3 b g h j → ¬ K j
  fit : Fits S C
  wf : ∀ x ∈ C, (Lit.int .i64 x).wf = true
  lt : ∀ j, K j → j < V.heap.size
/-- K's blocks are as they were -/
abbrev On (K : Nat → Prop) (V V' : World) : Prop := Onl (fun j => ¬ K j) V V'
theorem On.block' {K : Nat → Prop} {V V' : World} (h : On K V V') (j : Nat) (hK : K j) (hj : j < V.heap.size) : V'.heap[j]? = V.heap[j]? := h.block j hj fun e => e hK
theorem On.below {K : Nat → Prop} {V V' : World} {N : Nat} (h : On K V V') (hN : N ≤ V.heap.size) (hK : ∀ j, j < N → K j) : Below N V V' := ⟨h.os, h.tape, h.output, h.size, fun k hk => h.block' k (hK k hk) (by omega)⟩
theorem on_below {K : Nat → Prop} {V V' : World} (h : Below V.heap.size V V') : On K V V' := Onl.ofBelow h
theorem Lv.next {K : Nat → Prop} {V V' : World} {b : Nat} {S : List Nat} {C : List Int} (h : Lv K V b S C) (hb : Below V.heap.size V V') : Lv K V' b S C := by
  obtain ⟨g, k, hs, hn⟩ := h.ex
  exact ⟨⟨g, k, hs.below hb, hn⟩, h.fit, h.wf, fun j hj => Nat.lt_of_lt_of_le (h.lt j hj) hb.size⟩
theorem Lv.drewN {K : Nat → Prop} {V : World} {b : Nat} {S : List Nat} {C : List Int} (h : Lv K V b S C) (n : Nat) : Lv K (V.drewN n) b S C := h.next (below_drewN (Below.refl _ _) n)
/-- what came in new is kept, too -/
theorem Lv.more {K : Nat → Prop} {V V' : World} {b : Nat} {S : List Nat} {C : List Int} (h : Lv K V b S C) (hb : Below V.heap.size V V') : Lv (fun j => K j ∨ (V.heap.size ≤ j ∧ j < V'.heap.size)) V' b S C := by
  obtain ⟨g, k, hs, hn⟩ := h.ex
  refine ⟨⟨g, k, hs.below hb, fun j hj hk => ?_⟩, h.fit, h.wf, fun j hj => ?_⟩
  · rcases hk with hk | hk
    · exact hn j hj hk
    · have := hs.lts j hj; omega
  · rcases hj with hj | hj
    · exact Nat.lt_of_lt_of_le (h.lt j hj) hb.size
    · exact hj.2
theorem Lv.less {K K' : Nat → Prop} {V : World} {b : Nat} {S : List Nat} {C : List Int} (h : Lv K V b S C) (hk : ∀ j, K' j → K j) : Lv K' V b S C := by
  obtain ⟨g, k, hs, hn⟩ := h.ex
  exact ⟨⟨g, k, hs, fun j hj hk' => hn j hj (hk j hk')⟩, h.fit, h.wf, fun j hj => h.lt j (hk j hj)⟩
theorem lv_turned {K : Nat → Prop} {V V' : World} {b g h : Nat} {S' : List Nat} {C' : List Int} (hn : ∀ j, B3 b g h j → ¬ K j) (hl : ∀ j, K j → j < V.heap.size) (ht : Turned V b g h S' C' V') (hf : Fits S' C') (hw : ∀ x ∈ C', (Lit.int .i64 x).wf = true) : Lv K V' b S' C' ∧ On K V V' := by
  obtain ⟨h', hs, hh, ho⟩ := ht
  have hn' : ∀ j, B3 b g h' j → ¬ K j := fun j hj hk => by
    rcases hj with e | e | e
    · exact hn j (.inl e) hk
    · exact hn j (.inr (.inl e)) hk
    · rcases hh with e2 | e2
      · exact hn j (.inr (.inr (e.trans e2))) hk
      · have := hl j hk; omega
  exact ⟨⟨⟨g, h', hs, hn'⟩, hf, hw, fun j hj => Nat.lt_of_lt_of_le (hl j hj) ho.size⟩, onl_mono ho fun j hj hk => hn j hj hk⟩
theorem fill_mem (n : Int) (ps : List Nat) (C : List Int) : ∀ x ∈ fillL n ps C, x = n ∨ x ∈ C := by
  unfold fillL
  induction ps generalizing C with
  | nil => intro x hx; exact .inr hx
  | cons p ps ih =>
    intro x hx
    rw [List.foldl_cons] at hx
    rcases ih _ x hx with h | h
    · exact .inl h
    · rcases List.mem_or_eq_of_mem_set h with h | h
      · exact .inr h
      · exact .inl h
theorem fillU_mem (S : List Nat) (C : List Int) (lo hi : List Int) (n : Int) : ∀ x ∈ (fillU S C lo hi n).2, x = n ∨ x ∈ C := fun x hx => by
  unfold fillU at hx
  split at hx
  · exact fill_mem n _ C x hx
  · exact .inr hx
theorem lv_of {K : Nat → Prop} {V : World} (hK : ∀ j, K j → j < V.heap.size) (l C : List Int) (p q : Option Addr) (c c' : Nat) (h : CellsAt V p (iv l)) (h2 : CellsAt V q (iv C)) (hl : l.length ≤ 1000000) (hl2 : C.length ≤ 1000000) (hw : ∀ x ∈ C, (Lit.int .i64 x).wf = true) (hn : prodAns l = some C.length) :
    Calls Try.prog 9 #[.slice p l.length c, .slice q C.length c'] V fun e V' => ∃ b, e = .returned (.tuple #[.pointer (some ⟨b, 0, none⟩), .int .i64 0]) ∧ (∃ S, l = zs S ∧ Lv K V' b S C) ∧ Below V.heap.size V V' := by
  refine (of_ok l C p q c c' V h h2 hl hl2 hn).mono ?_
  rintro e V' ⟨b, g, k, rfl, hs, hge, hb⟩
  unfold prodAns at hn
  split at hn
  · rename_i hx
    obtain ⟨S, rfl, hpos, hC, hm⟩ := prodN_nat 1 l _ (Nat.le_refl _) (by omega) hn
    rw [zs_len] at hx
    rw [Nat.one_mul] at hC
    refine ⟨b, rfl, ⟨S, rfl, ⟨⟨g, k, hs, fun j hj hk => by have := hge j hj; have := hK j hk; omega⟩, ⟨fun e => by rw [e] at hx; simp at hx, hx.2, hpos, by omega, hC⟩, hw, fun j hj => Nat.lt_of_lt_of_le (hK j hj) hb.size⟩⟩, hb⟩
  · cases hn
section
variable {K : Nat → Prop} {V : World} {b : Nat} {S : List Nat} {C : List Int}
theorem lv_fill (h : Lv K V b S C) (lo hi : List Int) (p q : Option Addr) (c1 c2 : Nat) (hp : CellsD (fun j => ¬ K j) V p (iv lo)) (hq : CellsD (fun j => ¬ K j) V q (iv hi)) (hl : lo.length ≤ 1000000) (hl2 : hi.length ≤ 1000000) (n : Int) (hw : (Lit.int .i64 n).wf = true) :
    Calls Try.prog 21 #[.pointer (some ⟨b, 0, none⟩), .slice p lo.length c1, .slice q hi.length c2, .int .i64 n] V fun e V' => e = .returned (.int .i64 (fillU S C lo hi n).1) ∧ Lv K V' b S (fillU S C lo hi n).2 ∧ On K V V' := by
  obtain ⟨g, k, hs, hn⟩ := h.ex
  have off : ∀ {r : Option Addr} {l : List Value}, CellsD (fun j => ¬ K j) V r l → CellsD (· = k) V r l := fun hc j hj => by
    obtain ⟨b', o, e1, e2, e3, e4⟩ := hc j hj
    exact ⟨b', o, e1, e2, fun e => e3 (by rw [e]; exact hn k (.inr (.inr rfl))), e4⟩
  refine (fill_uni V b g k S C hs h.fit lo hi p q c1 c2 (off hp) (off hq) hl hl2 n).mono ?_
  rintro e V' ⟨rfl, ht, hf⟩
  refine ⟨rfl, lv_turned hn h.lt ht hf fun x hx => ?_⟩
  rcases fillU_mem S C lo hi n x hx with e | e
  · rw [e]; exact hw
  · exact h.wf x e
theorem lv_sizes (h : Lv K V b S C) :
    Calls Try.prog 26 #[.pointer (some ⟨b, 0, none⟩)] V fun e V' => ∃ p c, e = .returned (.slice p S.length c) ∧ CellsAt V' p (iv (zs S)) ∧ Below V.heap.size V V' := by
  obtain ⟨g, k, hs, _⟩ := h.ex
  refine (sizes_ok hs (by rw [zs_len]; have := h.fit.few; omega)).mono ?_
  rintro e V' ⟨p, c, rfl, _, hc, hb, _⟩
  exact ⟨p, c, by rw [zs_len], hc, hb⟩
theorem lv_cells (h : Lv K V b S C) :
    Calls Try.prog 16 #[.pointer (some ⟨b, 0, none⟩)] V fun e V' => ∃ p c, e = .returned (.slice p C.length c) ∧ CellsAt V' p (iv C) ∧ Below V.heap.size V V' ∧ CellsD (fun j => j < V.heap.size) V' p (iv C) := by
  obtain ⟨g, k, hs, _⟩ := h.ex
  have hf := h.fit
  refine (cells_ok hs (by rw [hf.len]; have := hf.most; omega)).mono ?_
  rintro e V' ⟨p, c, rfl, _, hc, hb, h0⟩
  obtain ⟨rfl, hr⟩ := h0 (by rw [hf.len]; exact prodL_pos S hf.pos)
  refine ⟨_, c, rfl, hc, hb, fun j hj => ?_⟩
  rw [iv_length] at hj
  exact ⟨_, 0, rfl, hr.lt, by omega, by rw [Nat.zero_add, hr.cell j hj, iv_at C j hj]⟩
end
end Go.Proofs.Ytnmhdlincgefeaa.Sl
