/- live of slab's law. -/
import Derived.Test.YtpbidpgpehicmaaSlLv
import Derived.Test.YtpbidpgpehicmaaSlEq
namespace Go.Proofs.Ytpbidpgpehicmaa.Sl
open Go.RowKit Go.Shelf
open Go.Lib (hid)

/-- a row of ints as a literal makes it -/
def obj (l : List Int) : Obj := .cells (iv l).toArray 3 (0, 0)
theorem row_obj (w : World) (l : List Int) : Row (w.alloc (obj l)) w.heap.size l := ⟨[], by rw [List.append_nil]; exact heap_alloc_new w (obj l)⟩
theorem cells_obj (w : World) (l : List Int) : CellsAt (w.alloc (obj l)) (some ⟨w.heap.size, 0, none⟩) (iv l) := (row_obj w l).cells
theorem cells_obj2 (w : World) (l m : List Int) : CellsAt ((w.alloc (obj l)).alloc (obj m)) (some ⟨w.heap.size, 0, none⟩) (iv l) := (cells_obj w l).below (below_alloc _ _)
/-- a slab x of what was new since w, and another z that holds 7 -/
def Lw (w V : World) (b z : Nat) (S : List Nat) (C : List Int) : Prop :=
  ∃ K : Nat → Prop, Lv K V b S C ∧ (∃ g h, Slb V z g h [1, 1, 1] [7] ∧ ∀ j, B3 z g h j → K j) ∧ (∀ j, j < w.heap.size → K j) ∧ Below w.heap.size w V
theorem Lw.next {w V V' : World} {b z : Nat} {S : List Nat} {C : List Int} (h : Lw w V b z S C) (hb : Below V.heap.size V V') : Lw w V' b z S C := by
  obtain ⟨K, hl, ⟨g, k, hs, hz⟩, hk, hw⟩ := h
  exact ⟨K, hl.next hb, ⟨g, k, hs.below hb, hz⟩, hk, hw.trans (hb.mono hw.size)⟩
theorem Lw.below {w V : World} {b z : Nat} {S : List Nat} {C : List Int} (h : Lw w V b z S C) : Below w.heap.size w V := h.choose_spec.2.2.2
theorem Lw.turn {w V V' : World} {K : Nat → Prop} {b z g k : Nat} {S' : List Nat} {C' : List Int} (hs : Slb V z g k [1, 1, 1] [7]) (hz : ∀ j, B3 z g k j → K j) (hk : ∀ j, j < w.heap.size → K j) (hw : Below w.heap.size w V) (hl : Lv K V' b S' C') (ho : On K V V') : Lw w V' b z S' C' :=
  ⟨K, hl, ⟨g, k, hs.keep fun j hj => ho.block' j (hz j hj) (hs.lts j hj), hz⟩, hk, hw.trans (ho.below hw.size hk)⟩
theorem lw_begin {w V0 V V' : World} {b z g k : Nat} {S : List Nat} {C : List Int} (hx : Lv (fun j => j < w.heap.size) V b S C) (hw : Below w.heap.size w V) (hV : Below V.heap.size V V0) (hs : Slb V' z g k [1, 1, 1] [7]) (hge : ∀ j, B3 z g k j → V0.heap.size ≤ j) (hb : Below V0.heap.size V0 V') : Lw w V' b z S C := by
  have hb' : Below V.heap.size V V' := hV.trans (hb.mono hV.size)
  refine ⟨_, hx.more hb', ⟨g, k, hs, fun j hj => .inr ⟨?_, hs.lts j hj⟩⟩, fun j hj => .inl hj, hw.trans (hb'.mono hw.size)⟩
  have := hge j hj
  have := hV.size
  omega
theorem lw_grow {w V : World} {b z : Nat} {S S' : List Nat} {C C' : List Int} (h : Lw w V b z S C) (d i e0 : Int) (he : growU S C d i = (e0, S', C')) :
    Calls Try.prog 12 #[.pointer (some ⟨b, 0, none⟩), .int .i64 d, .int .i64 i] V fun e V' => e = .returned (.int .i64 e0) ∧ Lw w V' b z S' C' := by
  obtain ⟨K, hl, ⟨g, k, hs, hz⟩, hk, hw⟩ := h
  have hg := lv_grow hl d i
  rw [he] at hg
  refine hg.mono ?_
  rintro e V' ⟨rfl, h1, h2⟩
  exact ⟨rfl, Lw.turn hs hz hk hw h1 h2⟩
theorem lw_shrink {w V : World} {b z : Nat} {S S' : List Nat} {C C' : List Int} (h : Lw w V b z S C) (d i e0 : Int) (he : shrinkU S C d i = (e0, S', C')) :
    Calls Try.prog 14 #[.pointer (some ⟨b, 0, none⟩), .int .i64 d, .int .i64 i] V fun e V' => e = .returned (.int .i64 e0) ∧ Lw w V' b z S' C' := by
  obtain ⟨K, hl, ⟨g, k, hs, hz⟩, hk, hw⟩ := h
  have hg := lv_shrink hl d i
  rw [he] at hg
  refine hg.mono ?_
  rintro e V' ⟨rfl, h1, h2⟩
  exact ⟨rfl, Lw.turn hs hz hk hw h1 h2⟩
theorem lw_fill {w V : World} {b z : Nat} {S : List Nat} {C C' : List Int} (h : Lw w V b z S C) (lo hi : List Int) (n e0 : Int) (hl : lo.length ≤ 1000000) (hl2 : hi.length ≤ 1000000) (hn : (Lit.int .i64 n).wf = true) (he : fillU S C lo hi n = (e0, C')) :
    Calls Try.prog 16 #[.pointer (some ⟨b, 0, none⟩), .slice (some ⟨V.heap.size, 0, none⟩) lo.length lo.length, .slice (some ⟨V.heap.size + 1, 0, none⟩) hi.length hi.length, .int .i64 n] ((V.alloc (obj lo)).alloc (obj hi)) fun e V' => e = .returned (.int .i64 e0) ∧ Lw w V' b z S C' := by
  obtain ⟨K, hx, ⟨g, k, hs, hz⟩, hk, hw⟩ := h
  have hb := below_two V (obj lo) (obj hi)
  have h1 := row_obj V lo
  have h2 := row_obj (V.alloc (obj lo)) hi
  rw [World.size_alloc] at h2
  have h1' := h1.below (below_alloc _ (obj hi))
  have hx' := hx.more hb
  have cd : ∀ (G : Nat) (l : List Int), Row ((V.alloc (obj lo)).alloc (obj hi)) G l → V.heap.size ≤ G → CellsD (fun j => ¬ (K j ∨ (V.heap.size ≤ j ∧ j < ((V.alloc (obj lo)).alloc (obj hi)).heap.size))) ((V.alloc (obj lo)).alloc (obj hi)) (some ⟨G, 0, none⟩) (iv l) := fun G l hr hG j hj => by
    rw [iv_length] at hj
    exact ⟨G, 0, rfl, hr.lt, fun hn => hn (.inr ⟨hG, hr.lt⟩), by rw [Nat.zero_add, hr.cell j hj, iv_at l j hj]⟩
  have hf := lv_fill hx' lo hi _ _ lo.length hi.length (cd _ _ h1' (Nat.le_refl _)) (cd _ _ h2 (Nat.le_succ _)) hl hl2 n hn
  rw [he] at hf
  refine hf.mono ?_
  rintro e V' ⟨rfl, q1, q2⟩
  exact ⟨rfl, Lw.turn (hs.below hb) (fun j hj => .inl (hz j hj)) (fun j hj => .inl (hk j hj)) (hw.trans (hb.mono hw.size)) q1 q2⟩
theorem lw_get {w V : World} {b z : Nat} {S : List Nat} {C : List Int} (h : Lw w V b z S C) (l : List Int) (x e0 : Int) (hl : l.length ≤ 1000000) (he : getAns S C l = (x, e0)) :
    Calls Try.prog 18 #[.pointer (some ⟨b, 0, none⟩), .slice (some ⟨V.heap.size, 0, none⟩) l.length l.length] (V.alloc (obj l)) fun e V' => e = .returned (.tuple #[.int .i64 x, .int .i64 e0]) ∧ Lw w V' b z S C ∧ Below V.heap.size V V' := by
  have h' := h.next (below_alloc V (obj l))
  obtain ⟨K, hx, _⟩ := h'
  have hg := lv_get hx l _ l.length (cells_obj V l) hl
  rw [he] at hg
  refine hg.mono ?_
  rintro e V' ⟨rfl, n, rfl⟩
  have hb : Below V.heap.size V ((V.alloc (obj l)).drewN n) := below_drewN (below_alloc V _) n
  exact ⟨rfl, h.next hb, hb⟩
theorem lw_place {w V : World} {b z : Nat} {S : List Nat} {C : List Int} (h : Lw w V b z S C) (l : List Int) (x : Nat) (e0 : Int) (hl : l.length ≤ 1000000) (he : placeAns S l = (x, e0)) :
    Calls Try.prog 20 #[.pointer (some ⟨b, 0, none⟩), .slice (some ⟨V.heap.size, 0, none⟩) l.length l.length] (V.alloc (obj l)) fun e V' => e = .returned (.tuple #[.int .i64 x, .int .i64 e0]) ∧ Lw w V' b z S C ∧ Below V.heap.size V V' := by
  have h' := h.next (below_alloc V (obj l))
  obtain ⟨K, hx, _⟩ := h'
  have hg := lv_place hx l _ l.length (cells_obj V l) hl
  rw [he] at hg
  refine hg.mono ?_
  rintro e V' ⟨rfl, n, rfl⟩
  have hb : Below V.heap.size V ((V.alloc (obj l)).drewN n) := below_drewN (below_alloc V _) n
  exact ⟨rfl, h.next hb, hb⟩
theorem lw_seen {w V : World} {b z : Nat} {S : List Nat} {C : List Int} (h : Lw w V b z S C) (lo hi R : List Int) (e0 : Int) (hl : lo.length ≤ 1000000) (hl2 : hi.length ≤ 1000000) (he : seenU S C lo hi = (e0, R)) :
    Calls Try.prog 22 #[.pointer (some ⟨b, 0, none⟩), .slice (some ⟨V.heap.size, 0, none⟩) lo.length lo.length, .slice (some ⟨V.heap.size + 1, 0, none⟩) hi.length hi.length] ((V.alloc (obj lo)).alloc (obj hi)) fun e V' => ∃ r c, e = .returned (.tuple #[.slice r R.length c, .int .i64 e0]) ∧ CellsAt V' r (iv R) ∧ Lw w V' b z S C := by
  have hb := below_two V (obj lo) (obj hi)
  have h' := h.next hb
  obtain ⟨K, hx, _⟩ := h'
  have c2 := cells_obj (V.alloc (obj lo)) hi
  rw [World.size_alloc] at c2
  have hg := lv_seen hx lo hi _ _ lo.length hi.length (cells_obj2 V lo hi) c2 hl hl2
  rw [he] at hg
  refine hg.mono ?_
  rintro e V' ⟨r, c, rfl, hc, hb2⟩
  exact ⟨r, c, rfl, hc, (h.next hb).next hb2⟩
theorem lw_cells {w V : World} {b z : Nat} {S : List Nat} {C : List Int} (h : Lw w V b z S C) :
    Calls Try.prog 26 #[.pointer (some ⟨b, 0, none⟩)] V fun e V' => ∃ p c, e = .returned (.slice p C.length c) ∧ CellsAt V' p (iv C) ∧ Lw w V' b z S C ∧ Below V.heap.size V V' := by
  obtain ⟨K, hx, _⟩ := id h
  refine (lv_cells hx).mono ?_
  rintro e V' ⟨p, c, rfl, hc, hb, _⟩
  exact ⟨p, c, rfl, hc, h.next hb, hb⟩
theorem lw_sizes {w V : World} {b z : Nat} {S : List Nat} {C : List Int} (h : Lw w V b z S C) :
    Calls Try.prog 25 #[.pointer (some ⟨b, 0, none⟩)] V fun e V' => ∃ p c, e = .returned (.slice p S.length c) ∧ CellsAt V' p (iv (zs S)) ∧ Lw w V' b z S C ∧ Below V.heap.size V V' := by
  obtain ⟨K, hx, _⟩ := id h
  refine (lv_sizes hx).mono ?_
  rintro e V' ⟨p, c, rfl, hc, hb⟩
  exact ⟨p, c, rfl, hc, h.next hb, hb⟩
theorem lw_seven {w V : World} {b z : Nat} {S : List Nat} {C : List Int} (h : Lw w V b z S C) :
    Calls Try.prog 26 #[.pointer (some ⟨z, 0, none⟩)] V fun e V' => ∃ p c, e = .returned (.slice p 1 c) ∧ CellsAt V' p (iv [7]) ∧ Below w.heap.size w V' ∧ Below V.heap.size V V' := by
  obtain ⟨K, _, ⟨g, k, hs, _⟩, _, hw⟩ := h
  refine (cells_ok hs (by decide)).mono ?_
  rintro e V' ⟨p, c, rfl, _, hc, hb, _⟩
  exact ⟨p, c, rfl, hc, hw.trans (hb.mono hw.size), hb⟩
theorem ints_lit (V : World) (l m : List Int) (p : Option Addr) (c : Nat) (hp : CellsAt V p (iv l)) (hl : l.length ≤ 1000000) (t : Bool) (ht : decide (l = m) = t) :
    Calls Try.prog 24 #[.slice p l.length c, .slice (some ⟨V.heap.size, 0, none⟩) m.length m.length] (V.alloc (obj m)) fun e V' => e = .returned (.bool t) ∧ Below V.heap.size V V' := by
  have h := ints_ok l m p _ c m.length (V.alloc (obj m)) (hp.below (below_alloc _ _)) (cells_obj V m) hl
  rw [ht] at h
  refine h.mono ?_
  rintro e V' ⟨rfl, n, rfl⟩
  exact ⟨rfl, below_drewN (below_alloc V _) n⟩
theorem m_grow : growU [2, 2] [1, 2, 3, 4] 1 0 = (0, [2, 3], [1, 1, 2, 3, 3, 4]) := by decide
theorem m_get : getAns [2, 3] [1, 1, 2, 3, 3, 4] [1, 2] = (4, 0) := by decide
theorem m_shr1 : shrinkU [2, 3] [1, 1, 2, 3, 3, 4] 1 1 = (1, [2, 3], [1, 1, 2, 3, 3, 4]) := by
  unfold shrinkU
  rw [if_pos (by decide), if_neg]
  intro h
  have := h 2 (by decide) (by decide)
  revert this; decide
theorem m_shr2 : shrinkU [2, 3] [1, 1, 2, 3, 3, 4] 1 0 = (0, [2, 2], [1, 2, 3, 4]) := by
  unfold shrinkU
  rw [if_pos (by decide), if_pos]
  · decide
  · intro n hn hm
    have : n < 6 := hn
    match n, this with
    | 0, _ => revert hm; decide
    | 1, _ => decide
    | 2, _ => revert hm; decide
    | 3, _ => revert hm; decide
    | 4, _ => decide
    | 5, _ => revert hm; decide
theorem m_fill : fillU [2, 2] [1, 2, 3, 4] [0, 0] [1, 0] 9 = (0, [9, 2, 9, 4]) := by decide
theorem m_seen : seenU [2, 2] [9, 2, 9, 4] [0, 0] [1, 1] = (0, [9, 2, 4]) := by decide
theorem m_place : placeAns [2, 2] [1, 0] = (2, 0) := by decide
end Go.Proofs.Ytpbidpgpehicmaa.Sl
