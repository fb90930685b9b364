/- Copies: of a text, a point, a record, records; of both sides. -/
import Derived.Test.YtnmhdlincgefeaaBkApp
namespace Go.Proofs.Ytnmhdlincgefeaa.Bk
open Go.RowKit
open Go.Lib (hid)
open Go.Proofs.Ytnmhdlincgefeaa.Ky

/-- what was there ahead of N -/
def Lt (N : Nat) : Nat → Prop := fun k => k < N
theorem PtD.to {D : Nat → Prop} {w : World} {p : Option Addr} {l : List Nat} {N : Nat} (h : PtD D w p l) (hd : ∀ k, k < N → D k) : PtD (Lt N) w p l := h.less fun b _ hb => hd b hb
theorem Pt.ptd {w : World} {p : Option Addr} {l : List Nat} (h : Pt w p l) : PtD (fun _ => False) w p l := ⟨fun j hj => by
  obtain ⟨b, off, h1, h2, h3⟩ := h.cells j hj
  exact ⟨b, off, h1, h2, id, h3⟩, h.fit⟩
set_option maxHeartbeats 1000000 in
theorem clone_ok (l : List Nat) (p : Option Addr) (c : Nat) (w : World) (h : Pt w p l) (hl : l.length ≤ 1000000) :
    Calls Try.prog 31 #[.slice p l.length c] w fun e w' => ∃ p' c', e = .returned (.slice p' l.length c') ∧ PtD (Lt w.heap.size) w' p' l ∧ Below w.heap.size w w' := by
  have q22 : ∀ (w : World) (a : Option Addr) (n c n' c' : Nat), (binOp .eql 41 (.slice a n c) (.slice none n' c')).run Try.prog w = .ok (.bool a.isNone) w := fun w a n c n' c' => Lib.run_eql_slice_nil w _ _ a n c n' c' Try.underlying41
  cases p with
  | none =>
    have h0 : l = [] := by
      cases l with
      | nil => rfl
      | cons x l => obtain ⟨b, off, e, _⟩ := h.cells 0 (by simp); cases e
    subst h0
    clear h
    go_enter Try.func31, Try.ntmps31
    go_wp2_with fail
    go_ret
    exact ⟨none, 0, rfl, ⟨fun j hj => absurd hj (by simp), fun j hj => absurd hj (by simp)⟩, Below.refl _ _⟩
  | some a =>
    have HP := hid h; clear h
    go_enter Try.func31, Try.ntmps31
    go_wp2_with (at_builtin; refine wpList_app rfl _ _ _ rfl rfl rfl (key_full _ _ _ l _ (HP.out.alloc _) (by omega)) ?_)
    intro v' w1 hF
    obtain ⟨p', c', rfl, hp, hb⟩ := new_pt HP.out.fit hF
    have HN := hid (hp.to (N := w.heap.size) fun k hk => by simp; omega)
    have HB := hid (show Below w.heap.size w w1 from ((below_alloc w _).trans (hb.mono (by simp))))
    clear hF hp hb
    go_wp2_with fail
    go_ret
    exact ⟨p', c', rfl, HN.out, HB.out⟩
set_option maxHeartbeats 1000000 in
theorem copy_ok (l : List Nat) (p : Option Addr) (c : Nat) (w : World) (h : Pt w p l) (hl : l.length ≤ 1000000) :
    Calls Try.prog 35 #[.slice p l.length c] w fun e w' => ∃ p' c', e = .returned (.slice p' l.length c') ∧ PtD (Lt w.heap.size) w' p' l ∧ Below w.heap.size w w' := by
  have HP := hid h; clear h
  go_enter Try.func35, Try.ntmps35
  go_wp2_with (at_builtin; refine wpList_app rfl _ _ _ rfl rfl rfl (key_full _ none _ l _ HP.out (by omega)) ?_)
  intro v' w1 hF
  obtain ⟨p', c', rfl, hp, hb⟩ := new_pt HP.out.fit hF
  have HN := hid (hp.to (N := w.heap.size) fun k hk => hk)
  have HB := hid hb
  clear hF hp hb
  go_wp2_with fail
  go_ret
  exact ⟨p', c', rfl, HN.out, HB.out⟩
/-- a record's two blocks: the argument's, and the result's -/
theorem two_new (w : World) (a b : Obj) : ((w.alloc a).alloc b).heap[w.heap.size]? = some a ∧ ((w.alloc a).alloc b).heap[w.heap.size + 1]? = some b ∧ ((w.alloc a).alloc b).heap.size = w.heap.size + 2 := by
  have s1 : (w.alloc a).heap.size = w.heap.size + 1 := by simp
  refine ⟨?_, ?_, by simp⟩
  · rw [Below.heap_alloc _ _ _ (by omega), heap_alloc_new]
  · rw [← s1, heap_alloc_new]
theorem two_cells {w : World} {g : Nat} {x y : Value} {T : TypeId} (h : w.heap[g]? = some (.cells #[x, y] T)) : w.cell? ⟨g, 0, none⟩ = some x ∧ w.cell? ⟨g, 1, none⟩ = some y ∧ w.frozen? ⟨g, 0, none⟩ = false ∧ w.frozen? ⟨g, 1, none⟩ = false :=
  ⟨by rw [cell_of_row _ _ _ _ _ _ h]; rfl, by rw [cell_of_row _ _ _ _ _ _ h]; rfl, by simp [World.frozen?, h], by simp [World.frozen?, h]⟩
theorem two_set {w : World} {g : Nat} {x y : Value} {T : TypeId} (h : w.heap[g]? = some (.cells #[x, y] T)) (u v : Value) : ((w.setCell ⟨g, 0, none⟩ u).setCell ⟨g, 1, none⟩ v).heap[g]? = some (.cells #[u, v] T) := by
  have b1 : (w.setCell ⟨g, 0, none⟩ u).heap[g]? = some (.cells #[u, y] T (0, 0)) := by simp [World.setCell, Array.getElem?_modify, h]
  rw [World.setCell, Array.getElem?_modify, if_pos rfl, b1]; rfl
theorem two_keep {D : Nat → Prop} {w : World} {g : Nat} (hg : D g) (u v : Value) : Keep D w ((w.setCell ⟨g, 0, none⟩ u).setCell ⟨g, 1, none⟩ v) :=
  ⟨by simp, fun k _ hD => by
    have hne : k ≠ g := fun e => hD (e ▸ hg)
    rw [Below.heap_setCell _ ⟨g, 1, none⟩ _ _ hne, Below.heap_setCell _ ⟨g, 0, none⟩ _ _ hne]⟩
end Go.Proofs.Ytnmhdlincgefeaa.Bk
