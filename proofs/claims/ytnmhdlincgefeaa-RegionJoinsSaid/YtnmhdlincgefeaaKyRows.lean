/- A box whose two points grow by appends. -/
import Derived.Test.YtnmhdlincgefeaaKyMeet
import Derived.Deep.AppendLies
namespace Go.Proofs.Ytnmhdlincgefeaa.Ky
open Go.RowKit
open Go.Lib (hid)

def kl (l : List Nat) : List Value := l.map fun (n : Nat) => Value.int .u32 (n : Int)
theorem kl_length (l : List Nat) : (kl l).length = l.length := by simp [kl]
theorem kl_snoc (l : List Nat) (x : Nat) : kl (l ++ [x]) = kl l ++ [.int .u32 (x : Int)] := by simp [kl]
theorem own_set {w : World} {base size n : Nat} {e : TypeId} {v : Value} {xs : List Value} (h : w.ownsRow base e size v n xs) {p : Addr} (hp : p.block < base) (u : Value) : (w.setCell p u).ownsRow base e size v n xs := by
  refine ⟨h.1, ?_⟩
  rcases h.2 with h0 | ⟨g, cap, cur, hv, hb, hh, rest⟩
  · exact .inl h0
  · exact .inr ⟨g, cap, cur, hv, hb, by rw [Below.heap_setCell _ _ _ _ (by omega)]; exact hh, rest⟩
/-- a row of the call's own is a point -/
theorem own_pt {w : World} {base : Nat} {v : Value} {l : List Nat} (h : w.ownsRow base 55 1 v l.length (kl l)) (hf : ∀ x ∈ l, x < 4294967296) : ∃ A c, v = .slice A l.length c ∧ Pt w A l := by
  rcases h.2 with ⟨rfl, h0⟩ | ⟨g, cap, cur, rfl, hb, hh, hn, hm, hs, ht⟩
  · have : l = [] := List.eq_nil_of_length_eq_zero h0
    subst this
    exact ⟨none, 0, rfl, Pt.nil _ _⟩
  · refine ⟨_, _, rfl, fun j hj => ⟨g, 0, rfl, lt_of hh, ?_⟩, fun j hj => hf _ (List.getElem_mem hj)⟩
    rw [cell_of_row _ _ _ _ _ _ hh, Nat.zero_add]
    have h1 : (kl l)[j]? = some (.int .u32 (l[j] : Int)) := by simp [kl, hj]
    rw [← ht, List.getElem?_take] at h1
    split at h1
    · simpa using h1
    · simp at h1
/-- the box at g: its two points are rows of the call's own, above it -/
structure Bx (wr : World) (g : Nat) (vl vh : Value) (los his : List Nat) : Prop where
  box : wr.heap[g]? = some (.cells #[vl, vh] 43 (0, 0))
  ol : wr.ownsRow (g + 1) 55 1 vl los.length (kl los)
  oh : wr.ownsRow (g + 1) 55 1 vh his.length (kl his)
  ne : vl.ownBlock = none ∨ vh.ownBlock ≠ vl.ownBlock
theorem Bx.lt {wr : World} {g : Nat} {vl vh : Value} {los his : List Nat} (h : Bx wr g vl vh los his) : g < wr.heap.size := lt_of h.box
theorem Bx.drew {wr : World} {g : Nat} {vl vh : Value} {los his : List Nat} (h : Bx wr g vl vh los his) : Bx wr.drew g vl vh los his := ⟨h.box, h.ol, h.oh, h.ne⟩
theorem Bx.cells {wr : World} {g : Nat} {vl vh : Value} {los his : List Nat} (h : Bx wr g vl vh los his) : wr.cell? ⟨g, 0, none⟩ = some vl ∧ wr.cell? ⟨g, 1, none⟩ = some vh ∧ wr.frozen? ⟨g, 0, none⟩ = false ∧ wr.frozen? ⟨g, 1, none⟩ = false := by
  have hb := h.box
  exact ⟨by rw [cell_of_row _ _ _ _ _ _ hb]; rfl, by rw [cell_of_row _ _ _ _ _ _ hb]; rfl, by simp [World.frozen?, hb], by simp [World.frozen?, hb]⟩
theorem own_far {w : World} {base size n : Nat} {e : TypeId} {v : Value} {xs : List Value} (h : w.ownsRow base e size v n xs) {g : Nat} (hg : g < base) : some g ≠ v.ownBlock := fun e => by
  have := (h.lt g e.symm).1; omega
/-- the cells of the box behind an append onto one of its points, ahead of the store -/
theorem Bx.mid {wr w2 : World} {g : Nat} {vl vh v : Value} {los his : List Nat} (h : Bx wr g vl vh los his) {o : Obj} (hv : v = vl ∨ v = vh) (hg : (wr.alloc o).grownBy w2 v.ownBlock) : w2.heap[g]? = some (.cells #[vl, vh] 43 (0, 0)) := by
  have hn : some g ≠ v.ownBlock := by
    rcases hv with rfl | rfl
    · exact own_far h.ol (by omega)
    · exact own_far h.oh (by omega)
  have hl := h.lt
  rw [hg.block g (by simp; omega) hn, Below.heap_alloc _ _ _ hl]; exact h.box
theorem Bx.midc {wr w2 : World} {g : Nat} {vl vh v : Value} {los his : List Nat} (h : Bx wr g vl vh los his) {o : Obj} (hv : v = vl ∨ v = vh) (hg : (wr.alloc o).grownBy w2 v.ownBlock) : w2.cell? ⟨g, 0, none⟩ = some vl ∧ w2.cell? ⟨g, 1, none⟩ = some vh ∧ w2.frozen? ⟨g, 0, none⟩ = false ∧ w2.frozen? ⟨g, 1, none⟩ = false := by
  have hb := h.mid hv hg
  exact ⟨by rw [cell_of_row _ _ _ _ _ _ hb]; rfl, by rw [cell_of_row _ _ _ _ _ _ hb]; rfl, by simp [World.frozen?, hb], by simp [World.frozen?, hb]⟩
theorem Bx.pushLo {wr w2 : World} {g gg cap n : Nat} {vl vh : Value} {los his : List Nat} {x : Nat} {o : Obj} (h : Bx wr g vl vh los his) (hn : n = los.length)
    (ho : w2.ownsRow (g + 1) 55 1 (.slice (some ⟨gg, 0, none⟩) (n + 1) cap) (n + 1) (kl los ++ [.int .u32 (x : Int)])) (hg : (wr.alloc o).grownBy w2 vl.ownBlock) (hat : vl.ownBlock = some gg ∨ gg = wr.heap.size + 1) :
    Bx (w2.setCell ⟨g, 0, none⟩ (.slice (some ⟨gg, 0, none⟩) (n + 1) cap)) g (.slice (some ⟨gg, 0, none⟩) (n + 1) cap) vh (los ++ [x]) his := by
  subst hn
  have hb := h.mid (.inl rfl) hg
  refine ⟨by simp [World.setCell, Array.getElem?_modify, hb], ?_, ?_, .inr ?_⟩
  · have := own_set ho (p := ⟨g, 0, none⟩) (by show g < g + 1; omega) (.slice (some ⟨gg, 0, none⟩) (los.length + 1) cap)
    rw [kl_snoc, List.length_append]; exact this
  · refine own_set ((h.oh.alloc o).kept hg ?_) (p := ⟨g, 0, none⟩) (by show g < g + 1; omega) _
    rcases h.ne with h1 | h1
    · rw [h1]; cases e : vh.ownBlock <;> simp
    · exact .inr h1
  · intro e
    have e : vh.ownBlock = some gg := e
    rcases hat with h1 | h1
    · rcases h.ne with h2 | h2
      · rw [h2] at h1; cases h1
      · exact h2 (e.trans h1.symm)
    · have := (h.oh.lt gg e).2; omega
theorem Bx.pushHi {wr w2 : World} {g gg cap n : Nat} {vl vh : Value} {los his : List Nat} {x : Nat} {o : Obj} (h : Bx wr g vl vh los his) (hn : n = his.length)
    (ho : w2.ownsRow (g + 1) 55 1 (.slice (some ⟨gg, 0, none⟩) (n + 1) cap) (n + 1) (kl his ++ [.int .u32 (x : Int)])) (hg : (wr.alloc o).grownBy w2 vh.ownBlock) (hat : vh.ownBlock = some gg ∨ gg = wr.heap.size + 1) :
    Bx (w2.setCell ⟨g, 1, none⟩ (.slice (some ⟨gg, 0, none⟩) (n + 1) cap)) g vl (.slice (some ⟨gg, 0, none⟩) (n + 1) cap) los (his ++ [x]) := by
  subst hn
  have hb := h.mid (.inr rfl) hg
  refine ⟨by simp [World.setCell, Array.getElem?_modify, hb], ?_, ?_, ?_⟩
  · refine own_set ((h.ol.alloc o).kept hg ?_) (p := ⟨g, 1, none⟩) (by show g < g + 1; omega) _
    rcases h.ne with h1 | h1
    · exact .inl h1
    · exact .inr (fun e => h1 e.symm)
  · have := own_set ho (p := ⟨g, 1, none⟩) (by show g < g + 1; omega) (.slice (some ⟨gg, 0, none⟩) (his.length + 1) cap)
    rw [kl_snoc, List.length_append]; exact this
  · rcases e : vl.ownBlock with _ | k
    · exact .inl rfl
    · right
      intro e2
      have e2 : some gg = some k := e2
      injection e2 with e2; subst e2
      rcases hat with h1 | h1
      · rcases h.ne with h2 | h2
        · rw [h2] at e; cases e
        · exact h2 (h1.trans e.symm)
      · have := (h.ol.lt gg e).2; omega
theorem bel_push {g : Nat} {w0 wr w2 : World} {v : Value} {o : Obj} {xs : List Value} {n i : Nat} (hb : Below g w0 wr) (ho : wr.ownsRow (g + 1) 55 1 v n xs) (hg : (wr.alloc o).grownBy w2 v.ownBlock) (hl : g < wr.heap.size) (u : Value) : Below g w0 (w2.setCell ⟨g, i, none⟩ u) := by
  refine Below.setCell ((hb.alloc (by omega) o).grown hg (by simp; omega) (fun k hk => ?_)) (by exact Nat.le_refl g) _
  have := (ho.lt k hk).1; omega
theorem info46' : (Try.prog.info? 55).map (fun i => (i.zero, i.size, i.bytes)) = some (some (.int .u32 0), 1, 4) := by kernel_rfl
theorem new_bx (w : World) : Bx (w.alloc (.cells #[Value.slice none 0 0, .slice none 0 0] 43)) w.heap.size (.slice none 0 0) (.slice none 0 0) [] [] :=
  ⟨heap_alloc_new _ _, World.ownsRow_nil _ _ _ _, World.ownsRow_nil _ _ _ _, .inl rfl⟩
end Go.Proofs.Ytnmhdlincgefeaa.Ky
