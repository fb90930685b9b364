/- zip: a new point out of two. -/
import Derived.Test.YtnmhdlincgefeaaKyBox
import Derived.Laws.Rows
namespace Go.Proofs.Ytnmhdlincgefeaa.Ky
open Go.RowKit
open Go.Lib (hid)

def kcs (l : List Nat) : Array Value := (l.map fun (n : Nat) => Value.int .u32 (n : Int)).toArray
theorem kcs_size (l : List Nat) : (kcs l).size = l.length := by simp [kcs]
theorem kcs_set (l : List Nat) (i x : Nat) : (kcs l).setIfInBounds i (.int .u32 (x : Int)) = kcs (l.set i x) := by
  unfold kcs; rw [List.setIfInBounds_toArray, List.map_set]
theorem kcs_zero (n : Nat) : Array.replicate n (Value.int .u32 0) = kcs (List.replicate n 0) := by
  unfold kcs; rw [List.map_replicate, ← List.toArray_replicate]; rfl
/-- a point of the call's own: block g is its cells and no more -/
def Own (w : World) (g : Nat) (l : List Nat) : Prop := w.heap[g]? = some (.cells (kcs l) 55 (0, 0))
theorem Own.lt {w : World} {g : Nat} {l : List Nat} (h : Own w g l) : g < w.heap.size := by
  rcases Nat.lt_or_ge g w.heap.size with hlt | hge
  · exact hlt
  · unfold Own at h; rw [Array.getElem?_eq_none hge] at h; cases h
theorem Own.cell {w : World} {g : Nat} {l : List Nat} (h : Own w g l) (i : Nat) (hi : i < l.length) : w.cell? ⟨g, i, none⟩ = some (.int .u32 (l[i] : Int)) := by
  rw [cell_of_row w g i _ 55 (0, 0) h]; simp [kcs, hi]
theorem Own.frozen {w : World} {g : Nat} {l : List Nat} (h : Own w g l) (i : Nat) : w.frozen? ⟨g, i, none⟩ = false := by
  unfold Own at h
  simp [World.frozen?, h]
theorem Own.set {w : World} {g : Nat} {l : List Nat} (h : Own w g l) (i x : Nat) : Own (w.setCell ⟨g, i, none⟩ (.int .u32 (x : Int))) g (l.set i x) := by
  unfold Own at h ⊢
  simp [World.setCell, Array.getElem?_modify, h, ← kcs_set]
theorem Own.drew {w : World} {g : Nat} {l : List Nat} (h : Own w g l) : Own w.drew g l := h
theorem Own.drewN {w : World} {g : Nat} {l : List Nat} (h : Own w g l) (n : Nat) : Own (w.drewN n) g l := h
theorem Own.below {w w' : World} {g : Nat} {l : List Nat} (h : Own w g l) (hb : Below w.heap.size w w') : Own w' g l := (hb.block g h.lt).trans h
theorem Own.alloc {w : World} {g : Nat} {l : List Nat} (h : Own w g l) (o : Obj) : Own (w.alloc o) g l := h.below (below_alloc w o)
theorem Own.far {w : World} {g : Nat} {l : List Nat} (h : Own w g l) {p : Addr} (hp : g ≠ p.block) (u : Value) : Own (w.setCell p u) g l := (Below.heap_setCell w p u g hp).trans h
theorem Own.pt {w : World} {g : Nat} {l : List Nat} (h : Own w g l) (hf : ∀ x ∈ l, x < 4294967296) : Pt w (some ⟨g, 0, none⟩) l :=
  ⟨fun j hj => ⟨g, 0, rfl, h.lt, by rw [Nat.zero_add]; exact h.cell j hj⟩, fun j hj => hf _ (List.getElem_mem hj)⟩
theorem pt_mem {w : World} {p : Option Addr} {l : List Nat} (h : Pt w p l) : ∀ x ∈ l, x < 4294967296 := by
  intro x hx
  obtain ⟨j, hj, rfl⟩ := List.getElem_of_mem hx
  exact h.fit j hj
theorem info46 : (Try.prog.info? 55).map (fun i => (i.zero, i.size, i.bytes)) = some (some (.int .u32 0), 1, 4) := by kernel_rfl
theorem kmake (n : Nat) (h : n ≤ 1000000) (w : World) :
    (Instr.makeSlice 41 (.int .i64 (n : Int)) (.int .i64 (n : Int))).run Try.prog w = .ok (.slice (some ⟨w.heap.size, 0, none⟩) n n) (w.alloc (.cells (kcs (List.replicate n 0)) 55)) := by
  obtain ⟨i, hi, hz, hs, hb⟩ := info_parts info46
  have := run_makeSlice (P := Try.prog) (w := w) 41 55 i (.int .u32 0) Try.underlying41 hi hz .i64 .i64 n n (by omega) (by omega) (by rw [hs]; omega) (by rw [hb]; omega) (by omega)
  rw [this]
  have e : madeCells (Value.int .u32 0).cells (n * 1) = Array.replicate n (Value.int .u32 0) := by
    apply Array.ext
    · simp [madeCells]
    · intro i h1 h2
      simp [madeCells, Value.cells, Nat.mod_one]
  simp only [Int.toNat_natCast, hs, e, kcs_zero]

/-- the first k made, the others still 0 -/
def zc (f : Nat → Nat → Nat) (l m : List Nat) (k : Nat) : List Nat := (List.zipWith f l m).take k ++ List.replicate (l.length - k) 0
theorem zc_zero (f : Nat → Nat → Nat) (l m : List Nat) : zc f l m 0 = List.replicate l.length 0 := by simp [zc]
theorem zc_end (f : Nat → Nat → Nat) (l m : List Nat) (h : m.length = l.length) : zc f l m l.length = List.zipWith f l m := by
  unfold zc; rw [Nat.sub_self, List.replicate_zero, List.append_nil, List.take_of_length_le (by simp; omega)]
theorem zc_set (f : Nat → Nat → Nat) (l m : List Nat) (k : Nat) (h : k < l.length) (h' : k < m.length) : (zc f l m k).set k (f l[k] m[k]) = zc f l m (k + 1) := by
  unfold zc
  have hz : k < (List.zipWith f l m).length := by simp; omega
  have ht : ((List.zipWith f l m).take k).length = k := by simp; omega
  rw [List.set_append, if_neg (by omega), ht, Nat.sub_self, List.take_succ_eq_append_getElem hz, List.getElem_zipWith]
  obtain ⟨d, hd⟩ : ∃ d, l.length - k = d + 1 := ⟨l.length - k - 1, by omega⟩
  have : l.length - (k + 1) = d := by omega
  rw [hd, this, List.replicate_succ, List.set_cons_zero]
  simp
theorem zc_length (f : Nat → Nat → Nat) (l m : List Nat) (k : Nat) (hk : k ≤ l.length) (h : m.length = l.length) : (zc f l m k).length = l.length := by simp [zc]; omega
end Go.Proofs.Ytnmhdlincgefeaa.Ky
