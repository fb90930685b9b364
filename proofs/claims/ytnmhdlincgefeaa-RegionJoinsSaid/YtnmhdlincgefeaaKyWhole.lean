/- Whole of both sides. -/
import Derived.Test.YtnmhdlincgefeaaKyRows
namespace Go.Proofs.Ytnmhdlincgefeaa.Ky
open Go.RowKit
open Go.Lib (hid)

/-- a box was returned -/
def OneBox (w : World) (lo hi : List Nat) (e : Ending) (w' : World) : Prop :=
  ∃ A c A' c', e = .returned (.agg #[.slice A lo.length c, .slice A' hi.length c']) ∧ Pt w' A lo ∧ Pt w' A' hi ∧ Below w.heap.size w w'
theorem rep_snoc (k x : Nat) : List.replicate k x ++ [x] = List.replicate (k + 1) x := (List.replicate_succ' ..).symm
theorem rep_fit (k x : Nat) (hx : x < 4294967296) : ∀ y ∈ List.replicate k x, y < 4294967296 := fun y hy => by rw [List.eq_of_mem_replicate hy]; exact hx
/-- the box at g is whole: its value, and that its points read so -/
theorem Bx.read {wr : World} {g : Nat} {vl vh : Value} {los his : List Nat} (h : Bx wr g vl vh los his) (h1 : ∀ x ∈ los, x < 4294967296) (h2 : ∀ x ∈ his, x < 4294967296) :
    ∃ A c A' c', vl = .slice A los.length c ∧ vh = .slice A' his.length c' ∧ Pt wr A los ∧ Pt wr A' his := by
  obtain ⟨A, c, e1, p1⟩ := own_pt h.ol h1
  obtain ⟨A', c', e2, p2⟩ := own_pt h.oh h2
  exact ⟨A, c, A', c', e1, e2, p1, p2⟩
/-- the result's variable is stored to: a block of two slices below -/
theorem store_out {w V : World} {b : Nat} {A A' : Option Addr} {lo hi : List Nat} (hb : Below w.heap.size w V) (hge : w.heap.size ≤ b) (hz : V.heap[b]? = some (.cells #[Value.slice none 0 0, .slice none 0 0] 43 (0, 0))) (h1 : Pt V A lo) (h2 : Pt V A' hi) (u v : Value) (hu : ∀ z, u ≠ .int .u32 z) :
    Pt ((V.setCell ⟨b, 0, none⟩ u).setCell ⟨b, 1, none⟩ v) A lo ∧ Pt ((V.setCell ⟨b, 0, none⟩ u).setCell ⟨b, 1, none⟩ v) A' hi ∧ Below w.heap.size w ((V.setCell ⟨b, 0, none⟩ u).setCell ⟨b, 1, none⟩ v) ∧
      ((V.setCell ⟨b, 0, none⟩ u).setCell ⟨b, 1, none⟩ v).cell? ⟨b, 0, none⟩ = some u ∧ ((V.setCell ⟨b, 0, none⟩ u).setCell ⟨b, 1, none⟩ v).cell? ⟨b, 1, none⟩ = some v := by
  have b1 : (V.setCell ⟨b, 0, none⟩ u).heap[b]? = some (.cells #[u, .slice none 0 0] 43 (0, 0)) := by simp [World.setCell, Array.getElem?_modify, hz]
  have b2 : ((V.setCell ⟨b, 0, none⟩ u).setCell ⟨b, 1, none⟩ v).heap[b]? = some (.cells #[u, v] 43 (0, 0)) := by
    rw [World.setCell, Array.getElem?_modify, if_pos rfl, b1]; rfl
  exact ⟨(h1.off hz (by simp) (by simp)).off b1 hu (by simp), (h2.off hz (by simp) (by simp)).off b1 hu (by simp), (hb.setCell (by exact hge) _).setCell (by exact hge) _,
    by rw [cell_of_row _ _ _ _ _ _ b2]; rfl, by rw [cell_of_row _ _ _ _ _ _ b2]; rfl⟩
theorem zero_cells {V : World} {b : Nat} (hz : V.heap[b]? = some (.cells #[Value.slice none 0 0, .slice none 0 0] 43 (0, 0))) : V.cell? ⟨b, 0, none⟩ = some (.slice none 0 0) ∧ V.cell? ⟨b, 1, none⟩ = some (.slice none 0 0) ∧ V.frozen? ⟨b, 0, none⟩ = false ∧ V.frozen? ⟨b, 1, none⟩ = false :=
  ⟨by rw [cell_of_row _ _ _ _ _ _ hz]; rfl, by rw [cell_of_row _ _ _ _ _ _ hz]; rfl, by simp [World.frozen?, hz], by simp [World.frozen?, hz]⟩
def RW (w : World) (D : Nat) (i : Value) (wr : World) : Prop :=
  ∃ (k : Nat) (vl vh : Value), k ≤ D ∧ i = .int .i64 k ∧ Bx wr (w.heap.size + 1) vl vh (List.replicate k 0) (List.replicate k 4294967295) ∧ Below (w.heap.size + 1) (w.alloc (.cells #[Value.slice none 0 0, .slice none 0 0] 43)) wr
end Go.Proofs.Ytnmhdlincgefeaa.Ky
