/- Halves of a box, where it can be halved. -/
import Derived.Test.YtnmhdlincgefeaaPtHalf2
namespace Go.Proofs.Ytnmhdlincgefeaa.Pt
open Go.RowKit
open Go.Lib (hid)
open Go.Proofs.Ytnmhdlincgefeaa.Ky
open Go.Proofs.Ytnmhdlincgefeaa.Bk

/-- the two boxes that are halved: where their values stand, and their four points -/
structure Mid (W V : World) (g7 g8 : Nat) (L1 L2 L3 L4 : List Nat) (n m c1 c2 c3 c4 a1 a2 a3 a4 : Nat) : Prop where
  below : Below W.heap.size W V
  b7 : V.heap[g7]? = some (.cells #[.slice (some ⟨a1, 0, none⟩) n c1, .slice (some ⟨a2, 0, none⟩) m c2] 43)
  b8 : V.heap[g8]? = some (.cells #[.slice (some ⟨a3, 0, none⟩) n c3, .slice (some ⟨a4, 0, none⟩) m c4] 43)
  r1 : Rw V a1 L1
  r2 : Rw V a2 L2
  r3 : Rw V a3 L3
  r4 : Rw V a4 L4
  ge : W.heap.size ≤ a1
  l1 : a1 < a2
  l2 : a2 < a3
  l3 : a3 < a4
  g7 : W.heap.size ≤ g7
  g8 : W.heap.size ≤ g8
def MidP (W : World) (lo hi : List Nat) (n m : Nat) (s7 s8 : Value) (V : World) : Prop :=
  ∃ g7 g8 c1 c2 c3 c4 a1 a2 a3 a4, s7 = .pointer (some ⟨g7, 0, none⟩) ∧ s8 = .pointer (some ⟨g8, 0, none⟩) ∧ Mid W V g7 g8 lo hi lo hi n m c1 c2 c3 c4 a1 a2 a3 a4
theorem Rw.ne_two {v : World} {a1 : Nat} {lo : List Nat} (h : Rw v a1 lo) (hl : 0 < lo.length) {g : Nat} {x y : Value} (hg : v.heap[g]? = some (.cells #[x, y] 43)) (hx : ∀ z, x ≠ .int .u32 z) : a1 ≠ g := by
  rintro rfl
  have h1 := h.cell 0 hl
  rw [cell_of_row _ _ _ _ _ _ hg] at h1
  simp at h1
  exact hx _ h1
section
variable {W V : World} {g7 g8 : Nat} {L1 L2 L3 L4 : List Nat} {n m c1 c2 c3 c4 a1 a2 a3 a4 : Nat}
theorem Mid.drew (h : Mid W V g7 g8 L1 L2 L3 L4 n m c1 c2 c3 c4 a1 a2 a3 a4) : Mid W V.drew g7 g8 L1 L2 L3 L4 n m c1 c2 c3 c4 a1 a2 a3 a4 :=
  ⟨h.below.drew, h.b7, h.b8, h.r1, h.r2, h.r3, h.r4, h.ge, h.l1, h.l2, h.l3, h.g7, h.g8⟩
theorem Mid.put2 (h : Mid W V g7 g8 L1 L2 L3 L4 n m c1 c2 c3 c4 a1 a2 a3 a4) (i x : Nat) (hi : i < L2.length) : Mid W (V.setCell ⟨a2, i, none⟩ (.int .u32 (x : Int))) g7 g8 L1 (L2.set i x) L3 L4 n m c1 c2 c3 c4 a1 a2 a3 a4 := by
  have d1 := h.l1
  have d2 := h.l2
  have d3 := h.l3
  have d4 := h.ge
  refine ⟨h.below.setCell (p := ⟨a2, i, none⟩) (by show W.heap.size ≤ a2; omega) _, ?_, ?_, h.r1.far (p := ⟨a2, i, none⟩) (by show a1 ≠ a2; omega) _, h.r2.set i x hi, h.r3.far (p := ⟨a2, i, none⟩) (by show a3 ≠ a2; omega) _, h.r4.far (p := ⟨a2, i, none⟩) (by show a4 ≠ a2; omega) _, h.ge, h.l1, h.l2, h.l3, h.g7, h.g8⟩
  · rw [Below.heap_setCell _ ⟨a2, i, none⟩ _ _ (fun e => h.r2.ne_two (by omega) h.b7 (by simp) e.symm)]; exact h.b7
  · rw [Below.heap_setCell _ ⟨a2, i, none⟩ _ _ (fun e => h.r2.ne_two (by omega) h.b8 (by simp) e.symm)]; exact h.b8
theorem Mid.put3 (h : Mid W V g7 g8 L1 L2 L3 L4 n m c1 c2 c3 c4 a1 a2 a3 a4) (i x : Nat) (hi : i < L3.length) : Mid W (V.setCell ⟨a3, i, none⟩ (.int .u32 (x : Int))) g7 g8 L1 L2 (L3.set i x) L4 n m c1 c2 c3 c4 a1 a2 a3 a4 := by
  have d1 := h.l1
  have d2 := h.l2
  have d3 := h.l3
  have d4 := h.ge
  refine ⟨h.below.setCell (p := ⟨a3, i, none⟩) (by show W.heap.size ≤ a3; omega) _, ?_, ?_, h.r1.far (p := ⟨a3, i, none⟩) (by show a1 ≠ a3; omega) _, h.r2.far (p := ⟨a3, i, none⟩) (by show a2 ≠ a3; omega) _, h.r3.set i x hi, h.r4.far (p := ⟨a3, i, none⟩) (by show a4 ≠ a3; omega) _, h.ge, h.l1, h.l2, h.l3, h.g7, h.g8⟩
  · rw [Below.heap_setCell _ ⟨a3, i, none⟩ _ _ (fun e => h.r3.ne_two (by omega) h.b7 (by simp) e.symm)]; exact h.b7
  · rw [Below.heap_setCell _ ⟨a3, i, none⟩ _ _ (fun e => h.r3.ne_two (by omega) h.b8 (by simp) e.symm)]; exact h.b8
theorem Mid.cells (h : Mid W V g7 g8 L1 L2 L3 L4 n m c1 c2 c3 c4 a1 a2 a3 a4) : (V.cell? ⟨g7, 0, none⟩ = some (.slice (some ⟨a1, 0, none⟩) n c1) ∧ V.cell? ⟨g7, 1, none⟩ = some (.slice (some ⟨a2, 0, none⟩) m c2)) ∧ (V.cell? ⟨g8, 0, none⟩ = some (.slice (some ⟨a3, 0, none⟩) n c3) ∧ V.cell? ⟨g8, 1, none⟩ = some (.slice (some ⟨a4, 0, none⟩) m c4)) :=
  ⟨⟨(two_cells h.b7).1, (two_cells h.b7).2.1⟩, ⟨(two_cells h.b8).1, (two_cells h.b8).2.1⟩⟩
end
theorem Rw.keep {w w' : World} {g N : Nat} {l : List Nat} (h : Rw w g l) (hk : Keep (fun k => k < N) w w') (hg : N ≤ g) : Rw w' g l := by
  have hlt := h.lt
  obtain ⟨cur, h1, h2⟩ := h
  exact ⟨cur, (hk.block g hlt (by show ¬ g < N; omega)).trans h1, h2⟩
theorem mem_of {l : List Nat} (h : ∀ (j : Nat) (hj : j < l.length), l[j] < 4294967296) : ∀ x ∈ l, x < 4294967296 := fun x hx => by
  obtain ⟨j, hj, rfl⟩ := List.getElem_of_mem hx
  exact h j hj
/-- the same, of points in new memory -/
def HalfNew (w : World) (lo hi : List Nat) (a : Int) (e : Ending) (w' : World) : Prop :=
  ∃ p1 c1 p2 c2 p3 c3 p4 c4, e = .returned (.tuple #[.agg #[.slice p1 (xlo lo hi a).length c1, .slice p2 (xhi lo hi a).length c2], .agg #[.slice p3 (ylo lo hi a).length c3, .slice p4 (yhi lo hi a).length c4], .bool (halfB lo hi a)]) ∧
    PtD (fun k => k < w.heap.size) w' p1 (xlo lo hi a) ∧ PtD (fun k => k < w.heap.size) w' p2 (xhi lo hi a) ∧ PtD (fun k => k < w.heap.size) w' p3 (ylo lo hi a) ∧ PtD (fun k => k < w.heap.size) w' p4 (yhi lo hi a) ∧ Below w.heap.size w w'
theorem HalfNew.post {w w' : World} {lo hi : List Nat} {a : Int} {e : Ending} (h : HalfNew w lo hi a e w') : HalfPost w lo hi a e w' := by
  obtain ⟨p1, c1, p2, c2, p3, c3, p4, c4, h1, h2, h3, h4, h5, h6⟩ := h
  exact ⟨p1, c1, p2, c2, p3, c3, p4, c4, h1, h2.pt, h3.pt, h4.pt, h5.pt, h6⟩
theorem Rw.ptd {w : World} {g N : Nat} {l : List Nat} (h : Rw w g l) (hg : N ≤ g) (hf : ∀ x ∈ l, x < 4294967296) : PtD (fun k => k < N) w (some ⟨g, 0, none⟩) l :=
  ⟨fun j hj => ⟨g, 0, rfl, h.lt, by omega, by rw [Nat.zero_add]; exact h.cell j hj⟩, fun j hj => hf _ (List.getElem_mem hj)⟩
/-- what is returned -/
theorem half_yes {w W V V' : World} {lo hi : List Nat} {i g7 g8 c1 c2 c3 c4 a1 a2 a3 a4 mid : Nat} (h : halfB lo hi (i : Int) = true) (hm : midN lo hi i = mid)
    (hj : Mid W V g7 g8 lo (hi.set i mid) (lo.set i (mid + 1)) hi lo.length hi.length c1 c2 c3 c4 a1 a2 a3 a4) (hW : w.heap.size + 3 ≤ W.heap.size) (hk : Keep (fun k => k < w.heap.size + 3) V V') (hb : Below w.heap.size w V')
    (hlo : ∀ x ∈ lo, x < 4294967296) (hhi : ∀ x ∈ hi, x < 4294967296) (h0 : mid + 1 < 4294967296) :
    HalfNew w lo hi (i : Int) (.returned (.tuple #[.agg #[.slice (some ⟨a1, 0, none⟩) lo.length c1, .slice (some ⟨a2, 0, none⟩) hi.length c2], .agg #[.slice (some ⟨a3, 0, none⟩) lo.length c3, .slice (some ⟨a4, 0, none⟩) hi.length c4], .bool true])) V' := by
  have d1 := hj.l1
  have d2 := hj.l2
  have d3 := hj.l3
  have d4 := hj.ge
  have e1 : xlo lo hi (i : Int) = lo := by unfold xlo; rw [h]; rfl
  have e2 : xhi lo hi (i : Int) = hi.set i mid := by unfold xhi; rw [h, Int.toNat_natCast, hm]; rfl
  have e3 : ylo lo hi (i : Int) = lo.set i (mid + 1) := by unfold ylo; rw [h, Int.toNat_natCast, hm]; rfl
  have e4 : yhi lo hi (i : Int) = hi := by unfold yhi; rw [h]; rfl
  unfold HalfNew
  rw [e1, e2, e3, e4, h, List.length_set, List.length_set]
  refine ⟨_, c1, _, c2, _, c3, _, c4, rfl, (hj.r1.keep hk (by omega)).ptd (by omega) hlo, (hj.r2.keep hk (by omega)).ptd (by omega) ?_, (hj.r3.keep hk (by omega)).ptd (by omega) ?_, (hj.r4.keep hk (by omega)).ptd (by omega) hhi, hb⟩
  · intro x hx
    rcases List.mem_or_eq_of_mem_set hx with h1 | rfl
    · exact hhi x h1
    · omega
  · intro x hx
    rcases List.mem_or_eq_of_mem_set hx with h1 | rfl
    · exact hlo x h1
    · omega
/-- how far the making of the two boxes is -/
structure JJ (W : World) (lo hi : List Nat) (n m : Nat) (f1 f3 f4 f5 f6 f7 : Bool) (u7 u8 u38 u40 : Value) (a1 c1 a2 c2 a3 c3 a4 c4 g7 g8 : Nat) (v : World) : Prop where
  below : Below W.heap.size W v
  k1 : f1 = true → u38 = .agg #[.slice (some ⟨a1, 0, none⟩) n c1, .slice (some ⟨a2, 0, none⟩) m c2] ∧ Rw v a1 lo ∧ Rw v a2 hi ∧ W.heap.size ≤ a1 ∧ a1 < a2
  k3 : f3 = true → f1 = true ∧ u40 = .agg #[.slice (some ⟨a3, 0, none⟩) n c3, .slice (some ⟨a4, 0, none⟩) m c4] ∧ Rw v a3 lo ∧ Rw v a4 hi ∧ a2 < a3 ∧ a3 < a4
  k4 : f4 = true → u7 = .pointer (some ⟨g7, 0, none⟩) ∧ W.heap.size ≤ g7 ∧ v.heap[g7]? = some (.cells (if f6 then #[.slice (some ⟨a1, 0, none⟩) n c1, .slice (some ⟨a2, 0, none⟩) m c2] else #[Value.slice none 0 0, .slice none 0 0]) 43)
  k5 : f5 = true → u8 = .pointer (some ⟨g8, 0, none⟩) ∧ W.heap.size ≤ g8 ∧ v.heap[g8]? = some (.cells (if f7 then #[.slice (some ⟨a3, 0, none⟩) n c3, .slice (some ⟨a4, 0, none⟩) m c4] else #[Value.slice none 0 0, .slice none 0 0]) 43)
  k45 : f4 = true → f5 = true → g7 ≠ g8
  k6 : f6 = true → f1 = true ∧ f3 = true ∧ f4 = true ∧ f5 = true
  k7 : f7 = true → f6 = true
theorem heap_lt {v : World} {g : Nat} {o : Obj} (h : v.heap[g]? = some o) : g < v.heap.size := (Array.getElem?_eq_some_iff.1 h).1
section
variable {W : World} {lo hi : List Nat} {n m : Nat} {f1 f3 f4 f5 f6 f7 : Bool} {u7 u8 u38 u40 : Value} {a1 c1 a2 c2 a3 c3 a4 c4 g7 g8 : Nat} {v w' : World}
theorem JJ.call1 (h : JJ W lo hi n m false f3 f4 f5 f6 f7 u7 u8 u38 u40 a1 c1 a2 c2 a3 c3 a4 c4 g7 g8 v) {g c g' c' : Nat} (t : Two v w' g g' lo hi) :
    JJ W lo hi n m true f3 f4 f5 f6 f7 u7 u8 (.agg #[.slice (some ⟨g, 0, none⟩) n c, .slice (some ⟨g', 0, none⟩) m c']) u40 g c g' c' a3 c3 a4 c4 g7 g8 w' := by
  have e6 : f6 = false := by cases e : f6 with | false => rfl | true => exact absurd (h.k6 e).1 (by simp)
  have e7 : f7 = false := by cases e : f7 with | false => rfl | true => have := h.k7 e; rw [e6] at this; cases this
  subst e6; subst e7
  refine ⟨h.below.trans (t.below.mono h.below.size), fun _ => ⟨rfl, t.one, t.two, Nat.le_trans h.below.size t.ge, t.lt⟩, fun e => absurd (h.k3 e).1 (by simp), fun e => ?_, fun e => ?_, h.k45, nofun, nofun⟩
  · obtain ⟨x1, x2, x3⟩ := h.k4 e
    exact ⟨x1, x2, (t.below.block _ (heap_lt x3)).trans x3⟩
  · obtain ⟨x1, x2, x3⟩ := h.k5 e
    exact ⟨x1, x2, (t.below.block _ (heap_lt x3)).trans x3⟩
theorem JJ.call2 (h : JJ W lo hi n m true false f4 f5 f6 f7 u7 u8 u38 u40 a1 c1 a2 c2 a3 c3 a4 c4 g7 g8 v) {g c g' c' : Nat} (t : Two v w' g g' lo hi) :
    JJ W lo hi n m true true f4 f5 f6 f7 u7 u8 u38 (.agg #[.slice (some ⟨g, 0, none⟩) n c, .slice (some ⟨g', 0, none⟩) m c']) a1 c1 a2 c2 g c g' c' g7 g8 w' := by
  have e6 : f6 = false := by cases e : f6 with | false => rfl | true => exact absurd (h.k6 e).2.1 (by simp)
  have e7 : f7 = false := by cases e : f7 with | false => rfl | true => have := h.k7 e; rw [e6] at this; cases this
  subst e6; subst e7
  obtain ⟨y1, y2, y3, y4, y5⟩ := h.k1 rfl
  refine ⟨h.below.trans (t.below.mono h.below.size), fun _ => ⟨y1, y2.below t.below, y3.below t.below, y4, y5⟩, fun _ => ⟨rfl, rfl, t.one, t.two, Nat.lt_of_lt_of_le y3.lt t.ge, t.lt⟩, fun e => ?_, fun e => ?_, h.k45, nofun, nofun⟩
  · obtain ⟨x1, x2, x3⟩ := h.k4 e
    exact ⟨x1, x2, (t.below.block _ (heap_lt x3)).trans x3⟩
  · obtain ⟨x1, x2, x3⟩ := h.k5 e
    exact ⟨x1, x2, (t.below.block _ (heap_lt x3)).trans x3⟩
theorem JJ.al7 (h : JJ W lo hi n m f1 f3 false f5 f6 f7 u7 u8 u38 u40 a1 c1 a2 c2 a3 c3 a4 c4 g7 g8 v) :
    JJ W lo hi n m f1 f3 true f5 f6 f7 (.pointer (some ⟨v.heap.size, 0, none⟩)) u8 u38 u40 a1 c1 a2 c2 a3 c3 a4 c4 v.heap.size g8 (v.alloc (.cells #[Value.slice none 0 0, .slice none 0 0] 43)) := by
  have e6 : f6 = false := by cases e : f6 with | false => rfl | true => exact absurd (h.k6 e).2.2.1 (by simp)
  have e7 : f7 = false := by cases e : f7 with | false => rfl | true => have := h.k7 e; rw [e6] at this; cases this
  subst e6; subst e7
  have hb := below_alloc v (.cells #[Value.slice none 0 0, .slice none 0 0] 43)
  refine ⟨h.below.trans (hb.mono h.below.size), fun e => ?_, fun e => ?_, fun _ => ⟨rfl, h.below.size, heap_alloc_new _ _⟩, fun e => ?_, fun _ e => ?_, nofun, nofun⟩
  · obtain ⟨y1, y2, y3, y4, y5⟩ := h.k1 e
    exact ⟨y1, y2.below hb, y3.below hb, y4, y5⟩
  · obtain ⟨y0, y1, y2, y3, y4, y5⟩ := h.k3 e
    exact ⟨y0, y1, y2.below hb, y3.below hb, y4, y5⟩
  · obtain ⟨x1, x2, x3⟩ := h.k5 e
    exact ⟨x1, x2, (hb.block _ (heap_lt x3)).trans x3⟩
  · have := heap_lt (h.k5 e).2.2; omega
theorem JJ.al8 (h : JJ W lo hi n m f1 f3 f4 false f6 f7 u7 u8 u38 u40 a1 c1 a2 c2 a3 c3 a4 c4 g7 g8 v) :
    JJ W lo hi n m f1 f3 f4 true f6 f7 u7 (.pointer (some ⟨v.heap.size, 0, none⟩)) u38 u40 a1 c1 a2 c2 a3 c3 a4 c4 g7 v.heap.size (v.alloc (.cells #[Value.slice none 0 0, .slice none 0 0] 43)) := by
  have e6 : f6 = false := by cases e : f6 with | false => rfl | true => exact absurd (h.k6 e).2.2.2 (by simp)
  have e7 : f7 = false := by cases e : f7 with | false => rfl | true => have := h.k7 e; rw [e6] at this; cases this
  subst e6; subst e7
  have hb := below_alloc v (.cells #[Value.slice none 0 0, .slice none 0 0] 43)
  refine ⟨h.below.trans (hb.mono h.below.size), fun e => ?_, fun e => ?_, fun e => ?_, fun _ => ⟨rfl, h.below.size, heap_alloc_new _ _⟩, fun e _ => ?_, nofun, nofun⟩
  · obtain ⟨y1, y2, y3, y4, y5⟩ := h.k1 e
    exact ⟨y1, y2.below hb, y3.below hb, y4, y5⟩
  · obtain ⟨y0, y1, y2, y3, y4, y5⟩ := h.k3 e
    exact ⟨y0, y1, y2.below hb, y3.below hb, y4, y5⟩
  · obtain ⟨x1, x2, x3⟩ := h.k4 e
    exact ⟨x1, x2, (hb.block _ (heap_lt x3)).trans x3⟩
  · have := heap_lt (h.k4 e).2.2; omega
theorem JJ.st6 (h : JJ W lo hi n m true true true true false f7 u7 u8 u38 u40 a1 c1 a2 c2 a3 c3 a4 c4 g7 g8 v) (h0 : 0 < lo.length) (h1 : 0 < hi.length) :
    JJ W lo hi n m true true true true true f7 u7 u8 u38 u40 a1 c1 a2 c2 a3 c3 a4 c4 g7 g8 ((v.setCell ⟨g7, 0, none⟩ (.slice (some ⟨a1, 0, none⟩) n c1)).setCell ⟨g7, 1, none⟩ (.slice (some ⟨a2, 0, none⟩) m c2)) := by
  have e7 : f7 = false := by cases e : f7 with | false => rfl | true => have := h.k7 e; cases this
  subst e7
  obtain ⟨x1, x2, x3⟩ := h.k4 rfl
  obtain ⟨z1, z2, z3⟩ := h.k5 rfl
  obtain ⟨y1, y2, y3, y4, y5⟩ := h.k1 rfl
  obtain ⟨_, t1, t2, t3, t4, t5⟩ := h.k3 rfl
  have x3' : v.heap[g7]? = some (.cells #[Value.slice none 0 0, .slice none 0 0] 43) := x3
  have far : ∀ {a : Nat} {l : List Nat}, Rw v a l → 0 < l.length → Rw ((v.setCell ⟨g7, 0, none⟩ (.slice (some ⟨a1, 0, none⟩) n c1)).setCell ⟨g7, 1, none⟩ (.slice (some ⟨a2, 0, none⟩) m c2)) a l := fun hr hl =>
    (hr.far (p := ⟨g7, 0, none⟩) (hr.ne_two hl x3' (by simp)) _).far (p := ⟨g7, 1, none⟩) (hr.ne_two hl x3' (by simp)) _
  refine ⟨(h.below.setCell (p := ⟨g7, 0, none⟩) x2 _).setCell (p := ⟨g7, 1, none⟩) x2 _, fun _ => ⟨y1, far y2 h0, far y3 h1, y4, y5⟩, fun _ => ⟨rfl, t1, far t2 h0, far t3 h1, t4, t5⟩, fun _ => ⟨x1, x2, two_set x3' _ _⟩, fun _ => ⟨z1, z2, ?_⟩, h.k45, fun _ => ⟨rfl, rfl, rfl, rfl⟩, nofun⟩
  have hne := h.k45 rfl rfl
  rw [Below.heap_setCell _ ⟨g7, 1, none⟩ _ _ (fun e => hne e.symm), Below.heap_setCell _ ⟨g7, 0, none⟩ _ _ (fun e => hne e.symm)]
  exact z3
theorem JJ.st7 (h : JJ W lo hi n m true true true true true false u7 u8 u38 u40 a1 c1 a2 c2 a3 c3 a4 c4 g7 g8 v) (h0 : 0 < lo.length) (h1 : 0 < hi.length) :
    JJ W lo hi n m true true true true true true u7 u8 u38 u40 a1 c1 a2 c2 a3 c3 a4 c4 g7 g8 ((v.setCell ⟨g8, 0, none⟩ (.slice (some ⟨a3, 0, none⟩) n c3)).setCell ⟨g8, 1, none⟩ (.slice (some ⟨a4, 0, none⟩) m c4)) := by
  obtain ⟨x1, x2, x3⟩ := h.k5 rfl
  obtain ⟨z1, z2, z3⟩ := h.k4 rfl
  obtain ⟨y1, y2, y3, y4, y5⟩ := h.k1 rfl
  obtain ⟨_, t1, t2, t3, t4, t5⟩ := h.k3 rfl
  have x3' : v.heap[g8]? = some (.cells #[Value.slice none 0 0, .slice none 0 0] 43) := x3
  have far : ∀ {a : Nat} {l : List Nat}, Rw v a l → 0 < l.length → Rw ((v.setCell ⟨g8, 0, none⟩ (.slice (some ⟨a3, 0, none⟩) n c3)).setCell ⟨g8, 1, none⟩ (.slice (some ⟨a4, 0, none⟩) m c4)) a l := fun hr hl =>
    (hr.far (p := ⟨g8, 0, none⟩) (hr.ne_two hl x3' (by simp)) _).far (p := ⟨g8, 1, none⟩) (hr.ne_two hl x3' (by simp)) _
  refine ⟨(h.below.setCell (p := ⟨g8, 0, none⟩) x2 _).setCell (p := ⟨g8, 1, none⟩) x2 _, fun _ => ⟨y1, far y2 h0, far y3 h1, y4, y5⟩, fun _ => ⟨rfl, t1, far t2 h0, far t3 h1, t4, t5⟩, fun _ => ⟨z1, z2, ?_⟩, fun _ => ⟨x1, x2, two_set x3' _ _⟩, h.k45, fun _ => ⟨rfl, rfl, rfl, rfl⟩, fun _ => rfl⟩
  have hne := h.k45 rfl rfl
  rw [Below.heap_setCell _ ⟨g8, 1, none⟩ _ _ hne, Below.heap_setCell _ ⟨g8, 0, none⟩ _ _ hne]
  exact z3
theorem JJ.zero7 (h : JJ W lo hi n m f1 f3 true f5 false f7 u7 u8 u38 u40 a1 c1 a2 c2 a3 c3 a4 c4 g7 g8 v) : v.cell? ⟨g7, 0, none⟩ = some (.slice none 0 0) ∧ v.cell? ⟨g7, 1, none⟩ = some (.slice none 0 0) ∧ v.frozen? ⟨g7, 0, none⟩ = false ∧ v.frozen? ⟨g7, 1, none⟩ = false :=
  two_cells (show v.heap[g7]? = some (.cells #[Value.slice none 0 0, .slice none 0 0] 43) from (h.k4 rfl).2.2)
theorem JJ.zero8 (h : JJ W lo hi n m f1 f3 f4 true f6 false u7 u8 u38 u40 a1 c1 a2 c2 a3 c3 a4 c4 g7 g8 v) : v.cell? ⟨g8, 0, none⟩ = some (.slice none 0 0) ∧ v.cell? ⟨g8, 1, none⟩ = some (.slice none 0 0) ∧ v.frozen? ⟨g8, 0, none⟩ = false ∧ v.frozen? ⟨g8, 1, none⟩ = false :=
  two_cells (show v.heap[g8]? = some (.cells #[Value.slice none 0 0, .slice none 0 0] 43) from (h.k5 rfl).2.2)
theorem JJ.fin (h : JJ W lo hi n m true true true true true true u7 u8 u38 u40 a1 c1 a2 c2 a3 c3 a4 c4 g7 g8 v) : MidP W lo hi n m u7 u8 v := by
  obtain ⟨x1, x2, x3⟩ := h.k5 rfl
  obtain ⟨z1, z2, z3⟩ := h.k4 rfl
  obtain ⟨y1, y2, y3, y4, y5⟩ := h.k1 rfl
  obtain ⟨_, t1, t2, t3, t4, t5⟩ := h.k3 rfl
  exact ⟨g7, g8, c1, c2, c3, c4, a1, a2, a3, a4, z1, x1, ⟨h.below, z3, x3, y2, y3, t2, t3, y4, y5, t4, t5, z2, x2⟩⟩
end
def puts4 (a : Act) (u7 u8 u38 u40 : Value) : Act := (((a.put (some 7) u7).put (some 8) u8).put (some 38) u38).put (some 40) u40
theorem inv_start {P : Program} {md : Region.Mode} {ops : Array Oper} {Q : Exit → Act → World → Prop} {S : World → Prop} {fuel : Nat} {l : Array Bool} {a : Act} {w : World} (h : ∀ A, A = a → wpAnyH P md ops Q S fuel l A w) : wpAnyH P md ops Q S fuel l a w := h a rfl
def ops3 : Array Oper := #[{ dst := some 37, op := Go.Op.load 43 (Go.Operand.tmp 2), type := 43, pos := "part.go:17", after := #[], guard := none }, { dst := some 38, op := Go.Op.call { callee := Go.Callee.value (Go.Operand.func 49), args := #[Go.Operand.tmp 37], argTypes := #[43] }, type := 43, pos := "part.go:17", after := #[{ on := 0, ground := Go.Ground.data }], guard := none }, { dst := some 39, op := Go.Op.load 43 (Go.Operand.tmp 2), type := 43, pos := "part.go:17", after := #[], guard := none }, { dst := some 40, op := Go.Op.call { callee := Go.Callee.value (Go.Operand.func 49), args := #[Go.Operand.tmp 39], argTypes := #[43] }, type := 43, pos := "part.go:17", after := #[{ on := 2, ground := Go.Ground.data }, { on := 1, ground := Go.Ground.chain }], guard := none }, { dst := some 7, op := Go.Op.alloc 43, type := 0, pos := "part.go:17", after := #[], guard := none }, { dst := some 8, op := Go.Op.alloc 43, type := 0, pos := "part.go:17", after := #[], guard := none }, { dst := none, op := Go.Op.store 43 (Go.Operand.tmp 7) (Go.Operand.tmp 38), type := 0, pos := "part.go:17", after := #[{ on := 4, ground := Go.Ground.data }, { on := 1, ground := Go.Ground.data }, { on := 3, ground := Go.Ground.chain }, { on := 0, ground := Go.Ground.phase }, { on := 1, ground := Go.Ground.phase }, { on := 2, ground := Go.Ground.textOnly Go.Departure.lateStores }, { on := 3, ground := Go.Ground.textOnly Go.Departure.lateStoresUnsure }, { on := 4, ground := Go.Ground.phase }, { on := 5, ground := Go.Ground.phase }], guard := none }, { dst := none, op := Go.Op.store 43 (Go.Operand.tmp 8) (Go.Operand.tmp 40), type := 0, pos := "part.go:17", after := #[{ on := 5, ground := Go.Ground.data }, { on := 3, ground := Go.Ground.data }, { on := 6, ground := Go.Ground.chain }, { on := 0, ground := Go.Ground.phase }, { on := 1, ground := Go.Ground.phase }, { on := 2, ground := Go.Ground.phase }, { on := 3, ground := Go.Ground.phase }, { on := 4, ground := Go.Ground.phase }, { on := 5, ground := Go.Ground.phase }, { on := 6, ground := Go.Ground.phase }], guard := none }]
theorem ready3b : ∀ f1 f3 f4 f5 f6 f7 : Bool, ((Region.ready .any ops3 #[true, f1, true, f3, f4, f5, f6, f7]).all fun i => (decide (i = 1) && !f1) || ((decide (i = 3) && (!f3 && f1)) || ((decide (i = 4) && !f4) || ((decide (i = 5) && !f5) || ((decide (i = 6) && (!f6 && (f1 && (f3 && (f4 && f5))))) || (decide (i = 7) && (!f7 && (f1 && (f3 && (f4 && (f5 && f6)))))))))) ) = true := by decide +kernel
theorem ready3 (f1 f3 f4 f5 f6 f7 : Bool) (i : Nat) (h : i ∈ Region.ready .any ops3 #[true, f1, true, f3, f4, f5, f6, f7]) : (i = 1 ∧ f1 = false) ∨ (i = 3 ∧ f3 = false ∧ f1 = true) ∨ (i = 4 ∧ f4 = false) ∨ (i = 5 ∧ f5 = false) ∨ (i = 6 ∧ f6 = false ∧ f1 = true ∧ f3 = true ∧ f4 = true ∧ f5 = true) ∨ (i = 7 ∧ f7 = false ∧ f1 = true ∧ f3 = true ∧ f4 = true ∧ f5 = true ∧ f6 = true) := by
  have := List.all_eq_true.1 (ready3b f1 f3 f4 f5 f6 f7) i h
  simpa only [Bool.or_eq_true, Bool.and_eq_true, decide_eq_true_eq, Bool.not_eq_true'] using this
theorem done3 : ∀ f1 f3 f4 f5 f6 f7 : Bool, Region.ready .any ops3 #[true, f1, true, f3, f4, f5, f6, f7] = [] → f1 = true ∧ f3 = true ∧ f4 = true ∧ f5 = true ∧ f6 = true ∧ f7 = true := by decide +kernel
set_option maxRecDepth 100000 in
set_option maxHeartbeats 4000000 in
theorem halves_yes (lo hi : List Nat) (p q : Option Addr) (c c' : Nat) (a : Int) (w : World) (hp : Pt w p lo) (hq : Pt w q hi) (hl : lo.length ≤ 1000000) (h1 : boxB lo hi (lo.length : Int) = true) (h2 : decide (0 ≤ a ∧ a < (lo.length : Int)) = true) (h4 : ¬ lo.getD a.toNat 0 = hi.getD a.toNat 0) :
    Calls Try.prog 33 #[.agg #[.slice p lo.length c, .slice q hi.length c'], .int .i64 a] w (HalfNew w lo hi a) := by
  have HQ := hid (ent_new w (.slice p lo.length c) (.slice q hi.length c'))
  obtain ⟨W, hW⟩ : ∃ W, W = ((w.alloc (.cells #[Value.slice p lo.length c, .slice q hi.length c'] 43)).alloc (.cells #[Value.slice none 0 0, .slice none 0 0] 43)).alloc (.cells #[Value.slice none 0 0, .slice none 0 0] 43) := ⟨_, rfl⟩
  rw [← hW] at HQ
  have h3 : 0 ≤ a ∧ a < (lo.length : Int) := by simpa using h2
  obtain ⟨i, rfl⟩ : ∃ i : Nat, a = (i : Int) := ⟨a.toNat, by omega⟩
  have hil : i < lo.length := by omega
  have hlen : lo.length = hi.length := by
    have h1' := h1
    unfold boxB at h1'
    simp only [Bool.and_eq_true] at h1'
    exact leAll_len h1'.2
  have hih : i < hi.length := by omega
  obtain ⟨b1, o1, rfl, hb1, d1⟩ := hp.cells i hil
  obtain ⟨b2, o2, rfl, hb2, d2⟩ := hq.cells i hih
  have HC := hid fun (V : World) (hb : Below W.heap.size W V) => checkBox_ok lo hi _ _ c c' (lo.length : Int) V (hp.below (HQ.out.below.trans (hb.mono HQ.out.below.size))) (hq.below (HQ.out.below.trans (hb.mono HQ.out.below.size))) (by omega)
  have HCO := hid fun (V : World) (hb : Below W.heap.size W V) => copied_ok lo hi _ _ c c' V (hp.below (HQ.out.below.trans (hb.mono HQ.out.below.size))) (hq.below (HQ.out.below.trans (hb.mono HQ.out.below.size))) (by omega) (by omega) hl (by omega)
  have HX := hid fun (V : World) (hb : Below W.heap.size W V) => (show (V.cell? ⟨w.heap.size, 0, none⟩ = some (.slice (some ⟨b1, o1, none⟩) lo.length c) ∧ V.cell? ⟨w.heap.size, 1, none⟩ = some (.slice (some ⟨b2, o2, none⟩) hi.length c')) ∧ (V.cell? ⟨b1, o1 + i, none⟩ = some (.int .u32 (lo[i] : Int)) ∧ V.cell? ⟨b2, o2 + i, none⟩ = some (.int .u32 (hi[i] : Int))) from
    ⟨HQ.out.cells hb, ((HQ.out.below.trans (hb.mono HQ.out.below.size)).cell (p := ⟨b1, _, none⟩) hb1).trans d1, ((HQ.out.below.trans (hb.mono HQ.out.below.size)).cell (p := ⟨b2, _, none⟩) hb2).trans d2⟩)
  rw [h1] at HC
  have HH := hid fun (V : World) => has_ok (some ⟨b1, o1, none⟩) lo.length c (i : Int) V
  rw [h2] at HH
  have q1 : (0 : Int) ≤ (i : Int) := by omega
  have q2 : (i : Int) < (lo.length : Int) := by omega
  have q3 : (i : Int) < (hi.length : Int) := by omega
  have hxy : lo[i] < hi[i] := by
    rw [Int.toNat_natCast, List.getD_eq_getElem?_getD, List.getD_eq_getElem?_getD, List.getElem?_eq_getElem hil, List.getElem?_eq_getElem hih] at h4
    have h1' := h1
    unfold boxB at h1'
    simp only [Bool.and_eq_true] at h1'
    have := (leAll_iff.1 h1'.2).2 i hil hih
    simp at h4
    omega
  have hfx := hp.fit i hil
  have hfy := hq.fit i hih
  have HXY := hid hxy
  have HFX := hid (And.intro hfx hfy)
  have HP := hid hp.fit
  have HPQ := hid hq.fit
  have HIL := hid hil
  have HIH := hid hih
  have HLEN := hid hlen
  have HN : Hid (halfB lo hi (i : Int) = true) := hid (by unfold halfB; rw [h1, h2, decide_eq_false h4]; rfl)
  have HMID : Hid (midN lo hi i = lo[i] + (hi[i] - lo[i]) / 2) := hid (by
    unfold midN
    rw [List.getD_eq_getElem?_getD, List.getD_eq_getElem?_getD, List.getElem?_eq_getElem hil, List.getElem?_eq_getElem hih]; rfl)
  clear hp hq h1 h2 h3 h4 hlen d1 d2 hb1 hb2 hfx hfy
  have e4 : ((lo[i] : Int) == (hi[i] : Int)) = false := by simp; omega
  have e5 : (lo[i] == hi[i]) = false := by simp; omega
  clear hxy
  generalize lo[i] = x at *
  generalize hi[i] = y at *
  go_enter Try.func33, Try.ntmps33
  go_wp2_with fail
  rw [← hW]
  clear hW
  have H0 := hid (Below.refl W.heap.size W).drew
  have x0 := HX.out _ H0.out
  go_region_held3 (fun w' => (w'.cell? ⟨w.heap.size, 0, none⟩ = some (.slice (some ⟨b1, o1, none⟩) lo.length c) ∧ w'.cell? ⟨w.heap.size, 1, none⟩ = some (.slice (some ⟨b2, o2, none⟩) hi.length c')) ∧ (w'.cell? ⟨b1, o1 + i, none⟩ = some (.int .u32 (x : Int)) ∧ w'.cell? ⟨b2, o2 + i, none⟩ = some (.int .u32 (y : Int)))) (first | exact x0 | exact z1 | go_keep)
    (first
      | (go_at_call 30; refine (HC.out _ H0.out).mono ?_; rintro e w9 ⟨rfl, hb⟩; rw [err_true true rfl]; have HB9 := hid (H0.out.trans (hb.mono H0.out.size)); have z1 := HX.out _ HB9.out; clear hb)
      | (go_at_call 48; refine (HH.out _).mono ?_; rintro e w8 ⟨rfl, rfl⟩)
      | fail)
  clear x0 z1 e4 e5 HC HH H0
  have z1 := (HX.out _ HB9.out).1
  go_upto_region 3 with (fail)
  go_cut [7, 8] (fun s7 s8 wx => MidP W lo hi lo.length hi.length s7 s8 wx)
  case first =>
    have zd := HX.out _ HB9.out.drew
    refine wp_region_held_drew (S := fun w' => w'.cell? ⟨w.heap.size, 0, none⟩ = some (.slice (some ⟨b1, o1, none⟩) lo.length c) ∧ w'.cell? ⟨w.heap.size, 1, none⟩ = some (.slice (some ⟨b2, o2, none⟩) hi.length c')) (by kernel_rfl) (by exact zd.1) (fun hHeld => ?_)
    refine wpAnyH_take (i := 0) (oi := { dst := some 37, op := Go.Op.load 43 (Go.Operand.tmp 2), type := 43, pos := "part.go:17", after := #[], guard := none }) (v := ?va0) rfl (by kernel_rfl) (by kernel_rfl) (by kernel_rfl) (fun _ _ _ h => h) (Or.inl ⟨by rfl, ?hya0⟩) (by assumption) ?resta0
    case hya0 => (intro w hSw; (try dsimp only at hSw); go_simp; (try with_reducible rfl))
    simp only [Act.put, List.setIfInBounds_toArray, List.set_cons_zero, List.set_cons_succ]
    refine wpAnyH_take (i := 2) (oi := { dst := some 39, op := Go.Op.load 43 (Go.Operand.tmp 2), type := 43, pos := "part.go:17", after := #[], guard := none }) (v := ?va2) rfl (by kernel_rfl) (by kernel_rfl) (by kernel_rfl) (fun _ _ _ h => h) (Or.inl ⟨by rfl, ?hya2⟩) (by assumption) ?resta2
    case hya2 => (intro w hSw; (try dsimp only at hSw); go_simp; (try with_reducible rfl))
    simp only [Act.put, List.setIfInBounds_toArray, List.set_cons_zero, List.set_cons_succ]
    refine inv_start fun A0 hA0 => ?_
    refine wpAnyH_inv (fun l a v => ∃ f1 f3 f4 f5 f6 f7 u7 u8 u38 u40 a1 c1 a2 c2 a3 c3 a4 c4 g7 g8, l = #[true, f1, true, f3, f4, f5, f6, f7] ∧ a = puts4 A0 u7 u8 u38 u40 ∧ JJ W lo hi lo.length hi.length f1 f3 f4 f5 f6 f7 u7 u8 u38 u40 a1 c1 a2 c2 a3 c3 a4 c4 g7 g8 v) ?hS ?hst ?hen _ _ _ _ ?hI ?hl
    case hS =>
      rintro l a v ⟨_, _, _, _, _, _, _, _, _, _, _, _, _, _, _, _, _, _, _, _, _, _, hj⟩
      exact (HX.out _ hj.below).1
    case hI =>
      refine ⟨false, false, false, false, false, false, _, _, _, _, 0, 0, 0, 0, 0, 0, 0, 0, 0, 0, rfl, by rw [hA0]; rfl, ⟨HB9.out.drew, nofun, nofun, nofun, nofun, nofun, nofun, nofun⟩⟩
    case hl => decide
    case hen =>
      rintro l a v ⟨f1, f3, f4, f5, f6, f7, u7, u8, u38, u40, a1, c1, a2, c2, a3, c3, a4, c4, g7, g8, rfl, rfl, hj⟩ hr
      obtain ⟨rfl, rfl, rfl, rfl, rfl, rfl⟩ := done3 _ _ _ _ _ _ hr
      have HJ := hid hj.fin
      clear hj hr
      subst hA0
      simp only [puts4, Act.put, List.setIfInBounds_toArray, List.set_cons_zero, List.set_cons_succ]
      go_wp2_with fail
      go_meet
      exact HJ.out
    case hst =>
      rintro l a v i ⟨f1, f3, f4, f5, f6, f7, u7, u8, u38, u40, a1, c1, a2, c2, a3, c3, a4, c4, g7, g8, rfl, rfl, hj⟩ hi
      have HJ := hid hj
      clear hj
      rcases ready3 _ _ _ _ _ _ _ hi with ⟨rfl, rfl⟩ | ⟨rfl, rfl, rfl⟩ | ⟨rfl, rfl⟩ | ⟨rfl, rfl⟩ | ⟨rfl, rfl, rfl, rfl, rfl, rfl⟩ | ⟨rfl, rfl, rfl, rfl, rfl, rfl, rfl⟩
      all_goals clear hi
      · refine op_step (i := 1) (o := { dst := some 38, op := Go.Op.call { callee := Go.Callee.value (Go.Operand.func 49), args := #[Go.Operand.tmp 37], argTypes := #[43] }, type := 43, pos := "part.go:17", after := #[{ on := 0, ground := Go.Ground.data }], guard := none }) rfl (fun K hK => ?_)
        subst hA0
        simp only [puts4, Act.put, List.setIfInBounds_toArray, List.set_cons_zero, List.set_cons_succ]
        go_simp
        go_at_call 49
        refine (HCO.out _ HJ.out.below).mono ?_
        rintro e w4 ⟨g, c5, g', c6, rfl, ht⟩
        refine hK.out _ _ ?_
        exact ⟨true, f3, f4, f5, f6, f7, _, _, _, _, g, c5, g', c6, _, _, _, _, _, _, rfl, rfl, HJ.out.call1 ht⟩
      · refine op_step (i := 3) (o := { dst := some 40, op := Go.Op.call { callee := Go.Callee.value (Go.Operand.func 49), args := #[Go.Operand.tmp 39], argTypes := #[43] }, type := 43, pos := "part.go:17", after := #[{ on := 2, ground := Go.Ground.data }, { on := 1, ground := Go.Ground.chain }], guard := none }) rfl (fun K hK => ?_)
        subst hA0
        simp only [puts4, Act.put, List.setIfInBounds_toArray, List.set_cons_zero, List.set_cons_succ]
        go_simp
        go_at_call 49
        refine (HCO.out _ HJ.out.below).mono ?_
        rintro e w4 ⟨g, c5, g', c6, rfl, ht⟩
        refine hK.out _ _ ?_
        exact ⟨true, true, f4, f5, f6, f7, _, _, _, _, _, _, _, _, g, c5, g', c6, _, _, rfl, rfl, HJ.out.call2 ht⟩
      · refine op_step (i := 4) (o := { dst := some 7, op := Go.Op.alloc 43, type := 0, pos := "part.go:17", after := #[], guard := none }) rfl (fun K hK => ?_)
        subst hA0
        simp only [puts4, Act.put, List.setIfInBounds_toArray, List.set_cons_zero, List.set_cons_succ]
        go_simp
        refine hK.out _ _ ?_
        exact ⟨f1, f3, true, f5, f6, f7, _, _, _, _, _, _, _, _, _, _, _, _, _, _, rfl, rfl, HJ.out.al7⟩
      · refine op_step (i := 5) (o := { dst := some 8, op := Go.Op.alloc 43, type := 0, pos := "part.go:17", after := #[], guard := none }) rfl (fun K hK => ?_)
        subst hA0
        simp only [puts4, Act.put, List.setIfInBounds_toArray, List.set_cons_zero, List.set_cons_succ]
        go_simp
        refine hK.out _ _ ?_
        exact ⟨f1, f3, f4, true, f6, f7, _, _, _, _, _, _, _, _, _, _, _, _, _, _, rfl, rfl, HJ.out.al8⟩
      · refine op_step (i := 6) (o := { dst := none, op := Go.Op.store 43 (Go.Operand.tmp 7) (Go.Operand.tmp 38), type := 0, pos := "part.go:17", after := #[{ on := 4, ground := Go.Ground.data }, { on := 1, ground := Go.Ground.data }, { on := 3, ground := Go.Ground.chain }, { on := 0, ground := Go.Ground.phase }, { on := 1, ground := Go.Ground.phase }, { on := 2, ground := Go.Ground.textOnly Go.Departure.lateStores }, { on := 3, ground := Go.Ground.textOnly Go.Departure.lateStoresUnsure }, { on := 4, ground := Go.Ground.phase }, { on := 5, ground := Go.Ground.phase }], guard := none }) rfl (fun K hK => ?_)
        subst hA0
        obtain ⟨rfl, _⟩ := HJ.out.k4 rfl
        obtain ⟨rfl, _⟩ := HJ.out.k1 rfl
        have zz := HJ.out.zero7
        simp only [puts4, Act.put, List.setIfInBounds_toArray, List.set_cons_zero, List.set_cons_succ]
        go_simp
        refine hK.out _ _ ?_
        exact ⟨true, true, true, true, true, f7, _, _, _, _, _, _, _, _, _, _, _, _, _, _, rfl, rfl, HJ.out.st6 (Nat.lt_of_le_of_lt (Nat.zero_le _) HIL.out) (Nat.lt_of_le_of_lt (Nat.zero_le _) HIH.out)⟩
      · refine op_step (i := 7) (o := { dst := none, op := Go.Op.store 43 (Go.Operand.tmp 8) (Go.Operand.tmp 40), type := 0, pos := "part.go:17", after := #[{ on := 5, ground := Go.Ground.data }, { on := 3, ground := Go.Ground.data }, { on := 6, ground := Go.Ground.chain }, { on := 0, ground := Go.Ground.phase }, { on := 1, ground := Go.Ground.phase }, { on := 2, ground := Go.Ground.phase }, { on := 3, ground := Go.Ground.phase }, { on := 4, ground := Go.Ground.phase }, { on := 5, ground := Go.Ground.phase }, { on := 6, ground := Go.Ground.phase }], guard := none }) rfl (fun K hK => ?_)
        subst hA0
        obtain ⟨rfl, _⟩ := HJ.out.k5 rfl
        obtain ⟨_, rfl, _⟩ := HJ.out.k3 rfl
        have zz := HJ.out.zero8
        simp only [puts4, Act.put, List.setIfInBounds_toArray, List.set_cons_zero, List.set_cons_succ]
        go_simp
        refine hK.out _ _ ?_
        exact ⟨true, true, true, true, true, true, _, _, _, _, _, _, _, _, _, _, _, _, _, _, rfl, rfl, HJ.out.st7 (Nat.lt_of_le_of_lt (Nat.zero_le _) HIL.out) (Nat.lt_of_le_of_lt (Nat.zero_le _) HIH.out)⟩
  case rest =>
    obtain ⟨g7, g8, c1, c2, c3, c4, a1, a2, a3, a4, rfl, rfl, hm⟩ := hcut
    have HM := hid hm.drew
    obtain ⟨d, hd⟩ : ∃ d, y - x = d := ⟨_, rfl⟩
    obtain ⟨k, hk⟩ : ∃ k, d / 2 = k := ⟨_, rfl⟩
    obtain ⟨mid, hmid⟩ : ∃ mid, x + k = mid := ⟨_, rfl⟩
    have HMM := hid (show midN lo hi i = mid by rw [HMID.out, hd, hk, hmid])
    have hxy := HXY.out
    have hfx := HFX.out
    have s1 : IntKind.u32.wrap ((y : Int) - (x : Int)) = (d : Int) := by simp [IntKind.wrap, IntKind.signed, IntKind.bits]; omega
    have s2 : (d : Int).tdiv 2 = (k : Int) := by rw [Int.tdiv_eq_ediv_of_nonneg (by omega)]; omega
    have s3 : IntKind.u32.wrap (k : Int) = (k : Int) := by simp [IntKind.wrap, IntKind.signed, IntKind.bits]; omega
    have s4 : IntKind.u32.wrap ((x : Int) + (k : Int)) = (mid : Int) := by simp [IntKind.wrap, IntKind.signed, IntKind.bits]; omega
    have s5 : IntKind.u32.wrap ((mid : Int) + 1) = ((mid + 1 : Nat) : Int) := by simp [IntKind.wrap, IntKind.signed, IntKind.bits]; omega
    have HSM := hid (show mid + 1 < 4294967296 by omega)
    have zz := hm.cells
    have zx := HX.out _ hm.below
    have zr := hm.r2.cell i HIH.out
    clear hd hk hmid hxy hfx hm z1
    go_wp2_with fail
    go_still_tail 22, (by kernel_rfl)
    change wpList _ _ _ _ _ wc.drew
    clear zz zx zr
    obtain ⟨v1, hv1⟩ : ∃ v1, wc.drew = v1 := ⟨_, rfl⟩
    rw [hv1] at HM ⊢
    clear hv1
    have f2 := HM.out.r2.frozen i
    have r2 := HM.out.r2.cell i HIH.out
    have HM2 := hid (HM.out.put2 i mid HIH.out)
    obtain ⟨v2, hv2⟩ : ∃ v2, v1.setCell ⟨a2, i, none⟩ (.int .u32 (mid : Int)) = v2 := ⟨_, rfl⟩
    have zz := (HM.out.put2 i mid HIH.out).cells
    have zr : (v1.setCell ⟨a2, i, none⟩ (.int .u32 (mid : Int))).cell? ⟨a2, i, none⟩ = some (.int .u32 (mid : Int)) := by
      have h := (HM.out.put2 i mid HIH.out).r2.cell i (by rw [List.length_set]; exact HIH.out)
      rw [List.getElem_set_self] at h; exact h
    rw [hv2] at HM2 zz zr
    go_wp2_with fail
    clear f2 r2 hv2
    have zr1 := HM2.out.r3.cell i HIL.out
    go_still_tail 10, (by kernel_rfl)
    change wpList _ _ _ _ _ v2.drew
    clear zz zr zr1
    obtain ⟨v3, hv3⟩ : ∃ v3, v2.drew = v3 := ⟨_, rfl⟩
    rw [show v2.drew = v3 from hv3] at ⊢
    have HM3 := hid (show Mid W v3 g7 g8 lo (hi.set i mid) lo hi lo.length hi.length c1 c2 c3 c4 a1 a2 a3 a4 by rw [← hv3]; exact HM2.out.drew)
    clear hv3
    have f3 := HM3.out.r3.frozen i
    have r3 := HM3.out.r3.cell i HIL.out
    have HM4 := hid (show Mid W (v3.setCell ⟨a3, i, none⟩ (.int .u32 ((mid : Int) + 1))) g7 g8 lo (hi.set i mid) (lo.set i (mid + 1)) hi lo.length hi.length c1 c2 c3 c4 a1 a2 a3 a4 from HM3.out.put3 i (mid + 1) HIL.out)
    have zz := HM4.out.cells
    have yo := HQ.out.outs HM4.out.below
    obtain ⟨v4, hv4⟩ : ∃ v4, v3.setCell ⟨a3, i, none⟩ (.int .u32 ((mid : Int) + 1)) = v4 := ⟨_, rfl⟩
    rw [hv4] at HM4 zz yo
    go_wp2_with fail
    clear f3 r3 hv4
    have hg8 : w.heap.size + 3 ≤ g8 := by have := HM4.out.g8; have := HQ.out.size; omega
    have far : ∀ (u v : Value) (o : Nat), ((v4.setCell ⟨w.heap.size + 1, 0, none⟩ u).setCell ⟨w.heap.size + 1, 1, none⟩ v).cell? ⟨g8, o, none⟩ = v4.cell? ⟨g8, o, none⟩ := fun u v o => by
      rw [World.cell?_setCell_other _ _ _ _ (fun e => by injection e; omega), World.cell?_setCell_other _ _ _ _ (fun e => by injection e; omega)]
    have zf0 := (far (.slice (some ⟨a1, 0, none⟩) lo.length c1) (.slice (some ⟨a2, 0, none⟩) hi.length c2) 0).trans zz.2.1
    have zf1 := (far (.slice (some ⟨a1, 0, none⟩) lo.length c1) (.slice (some ⟨a2, 0, none⟩) hi.length c2) 1).trans zz.2.2
    clear far hg8
    go_region
    all_goals
      go_wp2_with fail
      have y2 := HQ.out.stored HM4.out.below (.slice (some ⟨a1, 0, none⟩) lo.length c1) (.slice (some ⟨a2, 0, none⟩) hi.length c2) (.slice (some ⟨a3, 0, none⟩) lo.length c3) (.slice (some ⟨a4, 0, none⟩) hi.length c4) rfl
      refine bodyPost_ret (v := .tuple #[.agg #[.slice (some ⟨a1, 0, none⟩) lo.length c1, .slice (some ⟨a2, 0, none⟩) hi.length c2], .agg #[.slice (some ⟨a3, 0, none⟩) lo.length c3, .slice (some ⟨a4, 0, none⟩) hi.length c4], .bool true]) (by simp [results, Try.results33, go_sem, y2.1]) rfl ?_
      exact half_yes HN.out HMM.out HM4.out (by have := HQ.out.size; omega) ⟨y2.2.2.size, y2.2.2.block⟩ y2.2.1.drew (mem_of HP.out) (mem_of HPQ.out) HSM.out
theorem halves_ok (lo hi : List Nat) (p q : Option Addr) (c c' : Nat) (a : Int) (w : World) (hp : Pt w p lo) (hq : Pt w q hi) (hl : lo.length ≤ 1000000) :
    Calls Try.prog 33 #[.agg #[.slice p lo.length c, .slice q hi.length c'], .int .i64 a] w (HalfPost w lo hi a) := by
  cases h1 : boxB lo hi (lo.length : Int) with
  | false => exact halves_no1 lo hi p q c c' a w hp hq hl h1
  | true =>
    cases h2 : decide (0 ≤ a ∧ a < (lo.length : Int)) with
    | false => exact halves_no2 lo hi p q c c' a w hp hq hl h1 h2
    | true =>
      by_cases h4 : lo.getD a.toNat 0 = hi.getD a.toNat 0
      · exact halves_no3 lo hi p q c c' a w hp hq hl h1 h2 h4
      · exact (halves_yes lo hi p q c c' a w hp hq hl h1 h2 h4).mono fun _ _ h => h.post
theorem halves_new (lo hi : List Nat) (p q : Option Addr) (c c' : Nat) (a : Int) (w : World) (hp : Pt w p lo) (hq : Pt w q hi) (hl : lo.length ≤ 1000000) (hh : halfB lo hi a = true) :
    Calls Try.prog 33 #[.agg #[.slice p lo.length c, .slice q hi.length c'], .int .i64 a] w (HalfNew w lo hi a) := by
  unfold halfB at hh
  simp only [Bool.and_eq_true, Bool.not_eq_true', decide_eq_false_iff_not] at hh
  exact halves_yes lo hi p q c c' a w hp hq hl hh.1 hh.2.1 hh.2.2
end Go.Proofs.Ytnmhdlincgefeaa.Pt
