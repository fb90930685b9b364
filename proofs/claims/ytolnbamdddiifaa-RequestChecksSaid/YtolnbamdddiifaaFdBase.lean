/- Areas in memory: a block with one cell, a slice of all of a block of bytes; what becomes of them when other blocks turn. -/
import Derived.Test.YtolnbamdddiifaaRows
import Derived.Test.YtolnbamdddiifaaFdMath
import Derived.WalkKit
import Derived.WalkSmall
import Derived.Lib.Hide
import Derived.LoopTactic
import Derived.RegionTactic
import Derived.Laws.IdiomStrings
import Derived.Laws.CopyRow
import Derived.Laws.CopyOwn
import Derived.Lib.BufferWrite
import Derived.Deep.QuietTactic
import Derived.BigQuiet
import Derived.ChangeAlike
import Derived.DataShut
namespace Go.Proofs.Ytolnbamdddiifaa.Fd
open Go.RowKit
open Go.Lib

theorem wf_u32 {x : Int} (h : (Lit.int .u32 x).wf = true) : 0 ≤ x ∧ x < 4294967296 := by
  rw [Lit.wf_int_iff] at h; have h1 : IntKind.u32.min = 0 := by decide
  have h2 : IntKind.u32.max = 4294967295 := by decide
  omega
theorem wf_i64 {x : Int} (h : (Lit.int .i64 x).wf = true) : -9223372036854775808 ≤ x ∧ x ≤ 9223372036854775807 := by
  rw [Lit.wf_int_iff] at h; have h1 : IntKind.i64.min = -9223372036854775808 := by decide
  have h2 : IntKind.i64.max = 9223372036854775807 := by decide
  omega

/-- bytes as the cells of a block -/
def rowOf (l : List UInt8) : Array Value := (l.map fun b => Value.int .u8 (b.toNat : Int)).toArray

theorem rowOf_size (l : List UInt8) : (rowOf l).size = l.length := by simp [rowOf]
theorem rowOf_at (l : List UInt8) (i : Nat) : (rowOf l)[i]? = (l[i]?).map fun b => Value.int .u8 (b.toNat : Int) := by simp [rowOf]
theorem rowOf_zeros (n : Nat) : rowOf (List.replicate n 0) = Array.replicate n (.int .u8 0) := by
  apply Array.ext
  · simp [rowOf]
  · intro i h1 h2; simp [rowOf]
theorem rowOf_put (l t : List UInt8) (o : Nat) :
    ((rowOf l).toList.take o ++ byteCells t ++ (rowOf l).toList.drop (o + t.length)).toArray = rowOf (putAt l o t) := by
  simp [rowOf, putAt, byteCells, List.map_take, List.map_drop]
theorem rowOf_set (l : List UInt8) (i : Nat) (b : UInt8) : (rowOf l).setIfInBounds i (.int .u8 (b.toNat : Int)) = rowOf (l.set i b) := by
  apply Array.ext_getElem?
  intro j
  rw [rowOf_at, Array.getElem?_setIfInBounds, rowOf_at, List.getElem?_set, rowOf_size]
  by_cases e : i = j
  · subst e
    by_cases h : i < l.length <;> simp [h]
  · simp [e]

/-- block B holds the bytes l -/
def Row (w : World) (B : Nat) (l : List UInt8) : Prop := w.heap[B]? = some (.cells (rowOf l) 5 (0, 0))

theorem Row.cell {w : World} {B : Nat} {l : List UInt8} (h : Row w B l) (i : Nat) (hi : i < l.length) : w.cell? ⟨B, i, none⟩ = some (.int .u8 (l[i].toNat : Int)) := by
  rw [cell_of_row _ _ _ _ _ _ h, rowOf_at, List.getElem?_eq_getElem hi]; rfl
theorem Row.free {w : World} {B : Nat} {l : List UInt8} (h : Row w B l) (i : Nat) : w.frozen? ⟨B, i, none⟩ = false := frozen_of_row _ _ _ _ _ h
theorem Row.lt {w : World} {B : Nat} {l : List UInt8} (h : Row w B l) : B < w.heap.size := (Array.getElem?_eq_some_iff.1 h).1
theorem Row.below {w w' : World} {B : Nat} {l : List UInt8} (h : Row w B l) (hb : Below w.heap.size w w') : Row w' B l := by
  unfold Row; rw [hb.block _ h.lt]; exact h

/-- all that was there is as it was, but for block B, that holds l -/
structure Upd (B : Nat) (l : List UInt8) (w w' : World) : Prop where
  os : w'.os = w.os
  tape : w'.tape = w.tape
  output : w'.output = w.output
  size : w.heap.size ≤ w'.heap.size
  block : ∀ k, k < w.heap.size → k ≠ B → w'.heap[k]? = w.heap[k]?
  row : Row w' B l

theorem Upd.refl {w : World} {B : Nat} {l : List UInt8} (h : Row w B l) : Upd B l w w := ⟨rfl, rfl, rfl, Nat.le_refl _, fun _ _ _ => rfl, h⟩
theorem Upd.trans {w w' w2 : World} {B : Nat} {l l' : List UInt8} (h : Upd B l w w') (g : Upd B l' w' w2) : Upd B l' w w2 :=
  ⟨g.os.trans h.os, g.tape.trans h.tape, g.output.trans h.output, Nat.le_trans h.size g.size, fun k hk hB => by rw [g.block k (Nat.lt_of_lt_of_le hk h.size) hB, h.block k hk hB], g.row⟩
theorem Upd.setCell {w w' : World} {B : Nat} {l : List UInt8} (h : Upd B l w w') (i : Nat) (b : UInt8) : Upd B (l.set i b) w (w'.setCell ⟨B, i, none⟩ (.int .u8 (b.toNat : Int))) := by
  refine ⟨h.os, h.tape, h.output, by rw [World.size_setCell]; exact h.size, fun k hk hB => by rw [heap_setCell_other _ _ _ _ hB, h.block k hk hB], ?_⟩
  unfold Row; rw [heap_setCell_same _ _ _ _ _ _ h.row, rowOf_set]
theorem Upd.setRow {w w' : World} {B : Nat} {l : List UInt8} (h : Upd B l w w') (m : List UInt8) : Upd B m w (w'.setRow B (rowOf m)) := by
  refine ⟨h.os, h.tape, h.output, by rw [size_setRow]; exact h.size, fun k hk hB => by rw [setRow_other _ _ _ _ hB, h.block k hk hB], ?_⟩
  exact setRow_heap _ _ _ _ _ _ h.row
theorem Upd.drew {w w' : World} {B : Nat} {l : List UInt8} (h : Upd B l w w') : Upd B l w w'.drew := ⟨h.os, h.tape, h.output, h.size, h.block, h.row⟩
theorem Upd.below {w w' w2 : World} {B : Nat} {l : List UInt8} (h : Upd B l w w') (hb : Below w'.heap.size w' w2) : Upd B l w w2 :=
  ⟨hb.os.trans h.os, hb.tape.trans h.tape, hb.output.trans h.output, Nat.le_trans h.size hb.size, fun k hk hB => by rw [hb.block k (Nat.lt_of_lt_of_le hk h.size), h.block k hk hB], h.row.below hb⟩

/-- block A, of type T, leads to all of block B, that holds l -/
structure Area (T : TypeId) (w : World) (A B : Nat) (l : List UInt8) : Prop where
  ptr : w.heap[A]? = some (.cells #[.slice (some ⟨B, 0, none⟩) l.length l.length] T (0, 0))
  row : Row w B l
  ne : A ≠ B
  len : l.length ≤ 4096

theorem Area.ltA {T : TypeId} {w : World} {A B : Nat} {l : List UInt8} (h : Area T w A B l) : A < w.heap.size := (Array.getElem?_eq_some_iff.1 h.ptr).1
theorem Area.cell {T : TypeId} {w : World} {A B : Nat} {l : List UInt8} (h : Area T w A B l) : w.cell? ⟨A, 0, none⟩ = some (.slice (some ⟨B, 0, none⟩) l.length l.length) := by
  rw [cell_of_row _ _ _ _ _ _ h.ptr]; rfl
theorem Area.below {T : TypeId} {w w' : World} {A B : Nat} {l : List UInt8} (h : Area T w A B l) (hb : Below w.heap.size w w') : Area T w' A B l :=
  ⟨by rw [hb.block _ h.ltA]; exact h.ptr, h.row.below hb, h.ne, h.len⟩
theorem Area.upd {T : TypeId} {w w' : World} {A B : Nat} {l l' : List UInt8} (h : Area T w A B l) (hu : Upd B l' w w') (hl : l'.length = l.length) : Area T w' A B l' :=
  ⟨by rw [hu.block _ h.ltA h.ne, hl]; exact h.ptr, hu.row, h.ne, by rw [hl]; exact h.len⟩
theorem Area.other {T : TypeId} {w w' : World} {A B B' : Nat} {l l' : List UInt8} (h : Area T w A B l) (hu : Upd B' l' w w') (h1 : A ≠ B') (h2 : B ≠ B') : Area T w' A B l :=
  ⟨by rw [hu.block _ h.ltA h1]; exact h.ptr, by unfold Row; rw [hu.block _ h.row.lt h2]; exact h.row, h.ne, h.len⟩

/-- what was below the first world stays below -/
theorem on_below {w wr w' : World} (h : Hid (Below w.heap.size w wr)) (hb : Below wr.heap.size wr w') : Hid (Below w.heap.size w w') :=
  hid (h.out.trans (hb.mono h.out.size))
theorem on_upd {w wr w' : World} {B : Nat} {l : List UInt8} (h : Hid (Below w.heap.size w wr)) (hu : Upd B l wr w') (hB : w.heap.size ≤ B) : Hid (Below w.heap.size w w') :=
  hid (h.out.trans ⟨hu.os, hu.tape, hu.output, hu.size, fun k hk => hu.block k (Nat.lt_of_lt_of_le hk h.out.size) (by omega)⟩)

theorem info5 : (Try.prog.info? 5).map (fun i => (i.zero, i.size, i.bytes)) = some (some (.int .u8 0), 1, 1) := by kernel_rfl
theorem size5 : (Try.prog.info? 5).map (·.size) = some 1 := by kernel_rfl
theorem madeBytes (n : Nat) : madeCells (Value.int .u8 0).cells (n * 1) = Array.replicate n (.int .u8 0) := by
  apply Array.ext
  · simp [madeCells]
  · intro i h1 h2
    simp [madeCells, Value.cells, Nat.mod_one]
end Go.Proofs.Ytolnbamdddiifaa.Fd
