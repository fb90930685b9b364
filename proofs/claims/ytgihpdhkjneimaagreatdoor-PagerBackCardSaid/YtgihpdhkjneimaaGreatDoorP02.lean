/- Merged out of FdMath, FdBase, FdCut, FdField, FdField2, FdOf, PgMath. -/
import Derived.Test.YtgihpdhkjneimaaGreatDoorRows
import Derived.WalkKit
import Derived.WalkSmall
import Derived.Lib.Hide
import Derived.LoopTactic
import Derived.RegionTactic
import Derived.Laws.IdiomStrings
import Derived.Laws.CopyRow
import Derived.Laws.CopyOwn
import Derived.Lib.BufferWrite
import Derived.Deep.QuietTactic
import Derived.BigQuiet
import Derived.ChangeAlike
import Derived.DataShut
import Derived.Laws.BitsAllLaws
import Derived.Test.YtgihpdhkjneimaaGreatDoorP01
/- Plain facts on lists of bytes: what is put at a place, what is got from there, and numbers as bytes, the highest first; no program is imported. -/
namespace Go.Proofs.YtgihpdhkjneimaaGreatDoor.Fd

/-- a text put at a place -/
def putAt (l : List UInt8) (o : Nat) (t : List UInt8) : List UInt8 := l.take o ++ t ++ l.drop (o + t.length)
/-- what stands at a place -/
def getAt (l : List UInt8) (o n : Nat) : List UInt8 := (l.drop o).take n

theorem putAt_length (l : List UInt8) (o : Nat) (t : List UInt8) (h : o + t.length ≤ l.length) : (putAt l o t).length = l.length := by
  unfold putAt; simp; omega
theorem getAt_length (l : List UInt8) (o n : Nat) (h : o + n ≤ l.length) : (getAt l o n).length = n := by
  unfold getAt; simp; omega
theorem putAt_at (l : List UInt8) (o : Nat) (t : List UInt8) (h : o + t.length ≤ l.length) (i : Nat) :
    (putAt l o t)[i]? = if o ≤ i ∧ i < o + t.length then t[i - o]? else l[i]? := by
  unfold putAt
  by_cases h1 : i < o
  · rw [if_neg (by omega), List.getElem?_append_left (by simp; omega), List.getElem?_append_left (by simp; omega), List.getElem?_take_of_lt h1]
  · by_cases h2 : i < o + t.length
    · rw [if_pos (by omega), List.getElem?_append_left (by simp; omega), List.getElem?_append_right (by simp; omega)]
      simp only [List.length_take]
      rw [Nat.min_eq_left (by omega)]
    · rw [if_neg (by omega), List.getElem?_append_right (by simp; omega), List.getElem?_drop]
      congr 1
      simp only [List.length_append, List.length_take]
      omega
theorem getAt_at (l : List UInt8) (o n i : Nat) : (getAt l o n)[i]? = if i < n then l[o + i]? else none := by
  unfold getAt
  by_cases h : i < n
  · rw [if_pos h, List.getElem?_take_of_lt h, List.getElem?_drop]
  · rw [if_neg h, List.getElem?_take_eq_none (by omega)]
theorem getAt_putAt (l : List UInt8) (o : Nat) (t : List UInt8) (h : o + t.length ≤ l.length) : getAt (putAt l o t) o t.length = t := by
  apply List.ext_getElem?
  intro i
  rw [getAt_at]
  by_cases hi : i < t.length
  · rw [if_pos hi, putAt_at l o t h, if_pos (by omega), Nat.add_sub_cancel_left]
  · rw [if_neg hi, List.getElem?_eq_none (by omega)]
theorem putAt_getAt (l : List UInt8) (o n : Nat) (h : o + n ≤ l.length) : putAt l o (getAt l o n) = l := by
  apply List.ext_getElem?
  intro i
  rw [putAt_at l o _ (by rw [getAt_length _ _ _ h]; exact h), getAt_length _ _ _ h]
  by_cases hi : o ≤ i ∧ i < o + n
  · rw [if_pos hi, getAt_at, if_pos (by omega)]; congr 1; omega
  · rw [if_neg hi]
theorem putAt_none (l : List UInt8) (o : Nat) : putAt l o [] = l := by unfold putAt; simp
theorem getAt_all (l : List UInt8) : getAt l 0 l.length = l := by unfold getAt; simp
theorem getAt_none (l : List UInt8) (o : Nat) : getAt l o 0 = [] := by unfold getAt; simp
theorem putAt_all (l t : List UInt8) (h : t.length = l.length) : putAt l 0 t = t := by
  unfold putAt; rw [Nat.zero_add, h]; simp

/-- one byte of a number that is so many bytes wide, the highest first -/
def beB (w n i : Nat) : UInt8 := UInt8.ofNat (n / 256 ^ (w - 1 - i))
/-- a number as so many bytes, the highest first -/
def be (w n : Nat) : List UInt8 := (List.range w).map (beB w n)
/-- the number of bytes, the highest first -/
def num (l : List UInt8) : Nat := l.foldl (fun n b => 256 * n + b.toNat) 0

theorem be_length (w n : Nat) : (be w n).length = w := by simp [be]
theorem be_at (w n i : Nat) (h : i < w) : (be w n)[i]? = some (beB w n i) := by simp [be, h]

theorem num_snoc (l : List UInt8) (b : UInt8) : num (l ++ [b]) = 256 * num l + b.toNat := by simp [num]
theorem num_nil : num [] = 0 := rfl
theorem num_lt (l : List UInt8) : num l < 256 ^ l.length := by
  suffices h : ∀ k, k ≤ l.length → num (l.take k) < 256 ^ k by
    have := h l.length (Nat.le_refl _); rwa [List.take_length] at this
  intro k
  induction k with
  | zero => intro _; simp [num]
  | succ k ih =>
    intro hk
    rw [List.take_succ_eq_append_getElem (by omega), num_snoc]
    have := ih (by omega)
    have hb := (l[k]'(by omega)).toNat_lt
    rw [Nat.pow_succ]; omega

theorem be_prefix (w n k : Nat) (hk : k ≤ w) (hn : n < 256 ^ w) : num ((be w n).take k) = n / 256 ^ (w - k) := by
  induction k with
  | zero => simp [num]; rw [Nat.div_eq_of_lt hn]
  | succ k ih =>
    have hb : (be w n)[k]'(by rw [be_length]; omega) = beB w n k := by
      have := be_at w n k (by omega)
      rw [List.getElem?_eq_getElem (by rw [be_length]; omega)] at this
      exact Option.some.inj this
    rw [List.take_succ_eq_append_getElem (by rw [be_length]; omega), num_snoc, ih (by omega), hb]
    unfold beB
    rw [show w - 1 - k = w - (k + 1) by omega]
    have e : 256 ^ (w - k) = 256 ^ (w - (k + 1)) * 256 := by
      rw [show w - k = (w - (k + 1)) + 1 by omega, Nat.pow_succ]
    rw [e, ← Nat.div_div_eq_div_mul]
    simp only [UInt8.toNat_ofNat']
    omega
theorem num_be (w n : Nat) (hn : n < 256 ^ w) : num (be w n) = n := by
  have := be_prefix w n w (Nat.le_refl _) hn
  rw [List.take_of_length_le (by rw [be_length]; exact Nat.le_refl _)] at this
  simpa using this

/-- may a number be so many bytes wide? -/
def wide (w : Int) : Prop := w = 1 ∨ w = 2 ∨ w = 4
instance (w : Int) : Decidable (wide w) := by unfold wide; infer_instance
/-- are a place and so many bytes a range of l? -/
def isRange (o n : Int) (len : Nat) : Prop := 0 ≤ o ∧ 0 ≤ n ∧ o + n ≤ len
instance (o n : Int) (len : Nat) : Decidable (isRange o n len) := by unfold isRange; infer_instance

end Go.Proofs.YtgihpdhkjneimaaGreatDoor.Fd

/- Areas in memory: a block with one cell, a slice of all of a block of bytes; what becomes of them when other blocks turn. -/
namespace Go.Proofs.YtgihpdhkjneimaaGreatDoor.Fd
open Go.RowKit
open Go.Lib

theorem wf_u32 {x : Int} (h : (Lit.int .u32 x).wf = true) : 0 ≤ x ∧ x < 4294967296 := by
  rw [Lit.wf_int_iff] at h; have h1 : IntKind.u32.min = 0 := by decide
  have h2 : IntKind.u32.max = 4294967295 := by decide
  omega
theorem wf_i64 {x : Int} (h : (Lit.int .i64 x).wf = true) : -9223372036854775808 ≤ x ∧ x ≤ 9223372036854775807 := by
  rw [Lit.wf_int_iff] at h; have h1 : IntKind.i64.min = -9223372036854775808 := by decide
  have h2 : IntKind.i64.max = 9223372036854775807 := by decide
  omega

/-- bytes as the cells of a block -/
def rowOf (l : List UInt8) : Array Value := (l.map fun b => Value.int .u8 (b.toNat : Int)).toArray

theorem rowOf_size (l : List UInt8) : (rowOf l).size = l.length := by simp [rowOf]
theorem rowOf_at (l : List UInt8) (i : Nat) : (rowOf l)[i]? = (l[i]?).map fun b => Value.int .u8 (b.toNat : Int) := by simp [rowOf]
theorem rowOf_zeros (n : Nat) : rowOf (List.replicate n 0) = Array.replicate n (.int .u8 0) := by
  apply Array.ext
  · simp [rowOf]
  · intro i h1 h2; simp [rowOf]
theorem rowOf_put (l t : List UInt8) (o : Nat) :
    ((rowOf l).toList.take o ++ byteCells t ++ (rowOf l).toList.drop (o + t.length)).toArray = rowOf (putAt l o t) := by
  simp [rowOf, putAt, byteCells, List.map_take, List.map_drop]
theorem rowOf_set (l : List UInt8) (i : Nat) (b : UInt8) : (rowOf l).setIfInBounds i (.int .u8 (b.toNat : Int)) = rowOf (l.set i b) := by
  apply Array.ext_getElem?
  intro j
  rw [rowOf_at, Array.getElem?_setIfInBounds, rowOf_at, List.getElem?_set, rowOf_size]
  by_cases e : i = j
  · subst e
    by_cases h : i < l.length <;> simp [h]
  · simp [e]

/-- block B holds the bytes l -/
def Row (w : World) (B : Nat) (l : List UInt8) : Prop := w.heap[B]? = some (.cells (rowOf l) 5 (0, 0))

theorem Row.cell {w : World} {B : Nat} {l : List UInt8} (h : Row w B l) (i : Nat) (hi : i < l.length) : w.cell? ⟨B, i, none⟩ = some (.int .u8 (l[i].toNat : Int)) := by
  rw [cell_of_row _ _ _ _ _ _ h, rowOf_at, List.getElem?_eq_getElem hi]; rfl
theorem Row.free {w : World} {B : Nat} {l : List UInt8} (h : Row w B l) (i : Nat) : w.frozen? ⟨B, i, none⟩ = false := frozen_of_row _ _ _ _ _ h
theorem Row.lt {w : World} {B : Nat} {l : List UInt8} (h : Row w B l) : B < w.heap.size := (Array.getElem?_eq_some_iff.1 h).1
theorem Row.below {w w' : World} {B : Nat} {l : List UInt8} (h : Row w B l) (hb : Below w.heap.size w w') : Row w' B l := by
  unfold Row; rw [hb.block _ h.lt]; exact h

/-- all that was there is as it was, but for block B, that holds l -/
structure Upd (B : Nat) (l : List UInt8) (w w' : World) : Prop where
  os : w'.os = w.os
  tape : w'.tape = w.tape
  output : w'.output = w.output
  size : w.heap.size ≤ w'.heap.size
  block : ∀ k, k < w.heap.size → k ≠ B → w'.heap[k]? = w.heap[k]?
  row : Row w' B l

theorem Upd.refl {w : World} {B : Nat} {l : List UInt8} (h : Row w B l) : Upd B l w w := ⟨rfl, rfl, rfl, Nat.le_refl _, fun _ _ _ => rfl, h⟩
theorem Upd.trans {w w' w2 : World} {B : Nat} {l l' : List UInt8} (h : Upd B l w w') (g : Upd B l' w' w2) : Upd B l' w w2 :=
  ⟨g.os.trans h.os, g.tape.trans h.tape, g.output.trans h.output, Nat.le_trans h.size g.size, fun k hk hB => by rw [g.block k (Nat.lt_of_lt_of_le hk h.size) hB, h.block k hk hB], g.row⟩
theorem Upd.setCell {w w' : World} {B : Nat} {l : List UInt8} (h : Upd B l w w') (i : Nat) (b : UInt8) : Upd B (l.set i b) w (w'.setCell ⟨B, i, none⟩ (.int .u8 (b.toNat : Int))) := by
  refine ⟨h.os, h.tape, h.output, by rw [World.size_setCell]; exact h.size, fun k hk hB => by rw [heap_setCell_other _ _ _ _ hB, h.block k hk hB], ?_⟩
  unfold Row; rw [heap_setCell_same _ _ _ _ _ _ h.row, rowOf_set]
theorem Upd.setRow {w w' : World} {B : Nat} {l : List UInt8} (h : Upd B l w w') (m : List UInt8) : Upd B m w (w'.setRow B (rowOf m)) := by
  refine ⟨h.os, h.tape, h.output, by rw [size_setRow]; exact h.size, fun k hk hB => by rw [setRow_other _ _ _ _ hB, h.block k hk hB], ?_⟩
  exact setRow_heap _ _ _ _ _ _ h.row
theorem Upd.drew {w w' : World} {B : Nat} {l : List UInt8} (h : Upd B l w w') : Upd B l w w'.drew := ⟨h.os, h.tape, h.output, h.size, h.block, h.row⟩
theorem Upd.below {w w' w2 : World} {B : Nat} {l : List UInt8} (h : Upd B l w w') (hb : Below w'.heap.size w' w2) : Upd B l w w2 :=
  ⟨hb.os.trans h.os, hb.tape.trans h.tape, hb.output.trans h.output, Nat.le_trans h.size hb.size, fun k hk hB => by rw [hb.block k (Nat.lt_of_lt_of_le hk h.size), h.block k hk hB], h.row.below hb⟩

/-- block A, of type T, leads to all of block B, that holds l -/
structure Area (T : TypeId) (w : World) (A B : Nat) (l : List UInt8) : Prop where
  ptr : w.heap[A]? = some (.cells #[.slice (some ⟨B, 0, none⟩) l.length l.length] T (0, 0))
  row : Row w B l
  ne : A ≠ B
  len : l.length ≤ 4096

theorem Area.ltA {T : TypeId} {w : World} {A B : Nat} {l : List UInt8} (h : Area T w A B l) : A < w.heap.size := (Array.getElem?_eq_some_iff.1 h.ptr).1
theorem Area.cell {T : TypeId} {w : World} {A B : Nat} {l : List UInt8} (h : Area T w A B l) : w.cell? ⟨A, 0, none⟩ = some (.slice (some ⟨B, 0, none⟩) l.length l.length) := by
  rw [cell_of_row _ _ _ _ _ _ h.ptr]; rfl
theorem Area.below {T : TypeId} {w w' : World} {A B : Nat} {l : List UInt8} (h : Area T w A B l) (hb : Below w.heap.size w w') : Area T w' A B l :=
  ⟨by rw [hb.block _ h.ltA]; exact h.ptr, h.row.below hb, h.ne, h.len⟩
theorem Area.upd {T : TypeId} {w w' : World} {A B : Nat} {l l' : List UInt8} (h : Area T w A B l) (hu : Upd B l' w w') (hl : l'.length = l.length) : Area T w' A B l' :=
  ⟨by rw [hu.block _ h.ltA h.ne, hl]; exact h.ptr, hu.row, h.ne, by rw [hl]; exact h.len⟩
theorem Area.other {T : TypeId} {w w' : World} {A B B' : Nat} {l l' : List UInt8} (h : Area T w A B l) (hu : Upd B' l' w w') (h1 : A ≠ B') (h2 : B ≠ B') : Area T w' A B l :=
  ⟨by rw [hu.block _ h.ltA h1]; exact h.ptr, by unfold Row; rw [hu.block _ h.row.lt h2]; exact h.row, h.ne, h.len⟩

/-- what was below the first world stays below -/
theorem on_below {w wr w' : World} (h : Hid (Below w.heap.size w wr)) (hb : Below wr.heap.size wr w') : Hid (Below w.heap.size w w') :=
  hid (h.out.trans (hb.mono h.out.size))
theorem on_upd {w wr w' : World} {B : Nat} {l : List UInt8} (h : Hid (Below w.heap.size w wr)) (hu : Upd B l wr w') (hB : w.heap.size ≤ B) : Hid (Below w.heap.size w w') :=
  hid (h.out.trans ⟨hu.os, hu.tape, hu.output, hu.size, fun k hk => hu.block k (Nat.lt_of_lt_of_le hk h.out.size) (by omega)⟩)

theorem info5 : (Tryz.prog.info? 5).map (fun i => (i.zero, i.size, i.bytes)) = some (some (.int .u8 0), 1, 1) := by kernel_rfl
theorem size5 : (Tryz.prog.info? 5).map (·.size) = some 1 := by kernel_rfl
theorem madeBytes (n : Nat) : madeCells (Value.int .u8 0).cells (n * 1) = Array.replicate n (.int .u8 0) := by
  apply Array.ext
  · simp [madeCells]
  · intro i h1 h2
    simp [madeCells, Value.cells, Nat.mod_one]
theorem make_run (n : Nat) (h : n ≤ 1000000) (w : World) :
    (Instr.makeSlice 121 (.int .i64 (n : Int)) (.int .i64 (n : Int))).run Tryz.prog w = .ok (.slice (some ⟨w.heap.size, 0, none⟩) n n) (w.alloc (.cells (Array.replicate n (.int .u8 0)) 5)) := by
  obtain ⟨i, hi, hz, hs, hb⟩ := info_parts info5
  have := run_makeSlice (P := Tryz.prog) (w := w) 121 5 i (.int .u8 0) Tryz.underlying121 hi hz .i64 .i64 n n (by omega) (by omega) (by rw [hs]; omega) (by rw [hb]; omega) (by omega)
  rw [this]
  simp only [Int.toNat_natCast, hs, madeBytes]

/-- 'string(b)' of a part of a block -/
theorem back_run {w : World} {B : Nat} {l : List UInt8} (h : Row w B l) (o n c : Nat) (hf : o + n ≤ l.length) :
    (convert 121 9 (.slice (some ⟨B, o, none⟩) n c)).run Tryz.prog w = .ok (.string ⟨(getAt l o n).toArray⟩) w := by
  have := run_convert_bytes_back (P := Tryz.prog) w 121 9 5 ⟨B, o, none⟩ c (getAt l o n) Tryz.underlying121 Tryz.underlying5 Tryz.underlying9 (fun j hj => by
    have hj' : j < n := by rw [getAt_length _ _ _ hf] at hj; exact hj
    have hadd : (⟨B, o, none⟩ : Addr).add j = ⟨B, o + j, none⟩ := by unfold Addr.add; split <;> simp_all
    rw [hadd, h.cell (o + j) (by omega)]
    have e := getAt_at l o n j
    rw [if_pos hj', List.getElem?_eq_getElem hj, List.getElem?_eq_getElem (by omega)] at e
    rw [Option.some.inj e])
  rwa [getAt_length _ _ _ hf] at this
theorem back_none (w : World) (B o c : Nat) : (convert 121 9 (.slice (some ⟨B, o, none⟩) 0 c)).run Tryz.prog w = .ok (.string ⟨#[]⟩) w := by
  have := run_convert_bytes_back (P := Tryz.prog) w 121 9 5 ⟨B, o, none⟩ c [] Tryz.underlying121 Tryz.underlying5 Tryz.underlying9 (fun j hj => by simp at hj)
  simpa using this
end Go.Proofs.YtgihpdhkjneimaaGreatDoor.Fd

/- New and cut of package field, and New of the document's answer: what each returns, whatever it is called with. -/
namespace Go.Proofs.YtgihpdhkjneimaaGreatDoor.Fd
open Go.RowKit
open Go.Lib

/-- the world behind a New of n bytes -/
def madeArea (T : TypeId) (n : Nat) (w : World) : World :=
  (w.alloc (.cells (Array.replicate n (.int .u8 0)) 5)).alloc (.cells #[.slice (some ⟨w.heap.size, 0, none⟩) n n] T)

theorem madeArea_area (T : TypeId) (n : Nat) (w : World) (hn : n ≤ 4096) : Area T (madeArea T n w) (w.heap.size + 1) w.heap.size (List.replicate n 0) := by
  refine ⟨?_, ?_, by omega, by simpa using hn⟩
  · unfold madeArea; rw [heap_alloc2_new]; simp
  · unfold madeArea Row; rw [heap_alloc2_old, rowOf_zeros]
theorem madeArea_below (T : TypeId) (n : Nat) (w : World) : Below w.heap.size w (madeArea T n w) :=
  ((Below.refl _ _).alloc (Nat.le_refl _) _).alloc (by simp) _
theorem madeArea_size (T : TypeId) (n : Nat) (w : World) : (madeArea T n w).heap.size = w.heap.size + 2 := by simp [madeArea]

set_option maxHeartbeats 400000 in
theorem new_ok (n : Nat) (w : World) (hn : n ≤ 4096) :
    Calls Tryz.prog 117 #[.int .i64 (n : Int)] w fun e w' => e = .returned (.tuple #[.pointer (some ⟨w.heap.size + 1, 0, none⟩), .int .i64 0]) ∧ madeArea 178 n w = w' := by
  have hm := make_run n (by omega)
  go_enter Tryz.func117, Tryz.ntmps117
  go_wp2_with fail
  go_ret2
  exact ⟨rfl, rfl⟩
set_option maxHeartbeats 400000 in
theorem new_no (n : Int) (w : World) (hn : n < 0 ∨ 4096 < n) :
    Calls Tryz.prog 117 #[.int .i64 n] w fun e w' => e = .returned (.tuple #[.pointer none, .int .i64 1]) ∧ w = w' := by
  by_cases h0 : n < 0
  · go_enter Tryz.func117, Tryz.ntmps117
    go_wp2_with fail
    go_ret2
    exact ⟨rfl, rfl⟩
  · have h1 : 4096 < n := by omega
    go_enter Tryz.func117, Tryz.ntmps117
    go_wp2_with fail
    go_ret2
    exact ⟨rfl, rfl⟩
set_option maxHeartbeats 400000 in
theorem cut_yes (A B : Nat) (l : List UInt8) (o n : Nat) (w : World) (ha : Area 178 w A B l) (h : o + n ≤ l.length) (h0 : n ≠ 0) :
    Calls Tryz.prog 141 #[.pointer (some ⟨A, 0, none⟩), .int .i64 (o : Int), .int .i64 (n : Int)] w fun e w' => e = .returned (.tuple #[.slice (some ⟨B, o, none⟩) n n, .bool true]) ∧ w = w' := by
  have hc := ha.cell
  have hl := ha.len
  go_enter Tryz.func141, Tryz.ntmps141
  go_wp2_with fail
  go_ret2
  rw [Nat.add_sub_cancel_left]
  exact ⟨rfl, rfl⟩

set_option maxHeartbeats 400000 in
theorem cut_empty (A B : Nat) (l : List UInt8) (o : Nat) (w : World) (ha : Area 178 w A B l) (h : o ≤ l.length) :
    Calls Tryz.prog 141 #[.pointer (some ⟨A, 0, none⟩), .int .i64 (o : Int), .int .i64 0] w fun e w' => e = .returned (.tuple #[.slice (some ⟨B, 0, none⟩) 0 0, .bool true]) ∧ w = w' := by
  have hc := ha.cell
  have hl := ha.len
  go_enter Tryz.func141, Tryz.ntmps141
  go_wp2_with fail
  go_ret2
  exact ⟨rfl, rfl⟩

set_option maxHeartbeats 400000 in
theorem cut_no (A B : Nat) (l : List UInt8) (o n : Int) (w : World) (ha : Area 178 w A B l) (h : ¬ isRange o n l.length)
    (ho : -9223372036854775808 ≤ o ∧ o ≤ 9223372036854775807) (hn : -9223372036854775808 ≤ n ∧ n ≤ 9223372036854775807) :
    Calls Tryz.prog 141 #[.pointer (some ⟨A, 0, none⟩), .int .i64 o, .int .i64 n] w fun e w' => e = .returned (.tuple #[.slice none 0 0, .bool false]) ∧ w = w' := by
  have hc := ha.cell
  have hl := ha.len
  unfold isRange at h
  by_cases h1 : o < 0
  · clear h
    go_enter Tryz.func141, Tryz.ntmps141
    go_wp2_with fail
    go_ret2
    exact ⟨rfl, rfl⟩
  · by_cases h2 : n < 0
    · clear h
      go_enter Tryz.func141, Tryz.ntmps141
      go_wp2_with fail
      go_ret2
      exact ⟨rfl, rfl⟩
    · have h3 : (l.length : Int) - o < n := by omega
      clear h
      go_enter Tryz.func141, Tryz.ntmps141
      go_wp2_with fail
      go_ret2
      exact ⟨rfl, rfl⟩

set_option maxHeartbeats 400000 in
theorem cut_nil (o n : Int) (w : World) :
    Calls Tryz.prog 141 #[.pointer none, .int .i64 o, .int .i64 n] w fun e w' => e = .returned (.tuple #[.slice none 0 0, .bool false]) ∧ w = w' := by
  go_enter Tryz.func141, Tryz.ntmps141
  go_wp2_with fail
  go_ret2
  exact ⟨rfl, rfl⟩

/-- where a cut begins: of no bytes at the block's head -/
def cutAt (o n : Nat) : Nat := if n = 0 then 0 else o

theorem cut_ok (A B : Nat) (l : List UInt8) (o n : Nat) (w : World) (ha : Area 178 w A B l) (h : o + n ≤ l.length) :
    Calls Tryz.prog 141 #[.pointer (some ⟨A, 0, none⟩), .int .i64 (o : Int), .int .i64 (n : Int)] w fun e w' => e = .returned (.tuple #[.slice (some ⟨B, cutAt o n, none⟩) n n, .bool true]) ∧ w = w' := by
  by_cases h0 : n = 0
  · subst h0
    have : cutAt o 0 = 0 := rfl
    rw [this]; exact cut_empty A B l o w ha (by omega)
  · have : cutAt o n = o := by unfold cutAt; rw [if_neg h0]
    rw [this]; exact cut_yes A B l o n w ha h h0

set_option maxHeartbeats 400000 in
theorem number_ok (A B : Nat) (l : List UInt8) (o n : Nat) (w : World) (ha : Area 178 w A B l) (hw : n = 1 ∨ n = 2 ∨ n = 4) (h : o + n ≤ l.length) :
    Calls Tryz.prog 140 #[.pointer (some ⟨A, 0, none⟩), .int .i64 (o : Int), .int .i64 (n : Int)] w fun e w' => e = .returned (.tuple #[.slice (some ⟨B, o, none⟩) n n, .bool true]) ∧ w = w' := by
  rcases hw with rfl | rfl | rfl
  · go_enter Tryz.func140, Tryz.ntmps140
    go_wp2_with (go_at_call 141; refine (cut_yes A B l o 1 _ ha h (by omega)).mono ?_; rintro e w' ⟨rfl, rfl⟩)
    go_ret2
    exact ⟨rfl, rfl⟩
  · go_enter Tryz.func140, Tryz.ntmps140
    go_wp2_with (go_at_call 141; refine (cut_yes A B l o 2 _ ha h (by omega)).mono ?_; rintro e w' ⟨rfl, rfl⟩)
    go_ret2
    exact ⟨rfl, rfl⟩
  · go_enter Tryz.func140, Tryz.ntmps140
    go_wp2_with (go_at_call 141; refine (cut_yes A B l o 4 _ ha h (by omega)).mono ?_; rintro e w' ⟨rfl, rfl⟩)
    go_ret2
    exact ⟨rfl, rfl⟩

set_option maxHeartbeats 400000 in
theorem number_narrow (p : Value) (o n : Int) (w : World) (hw : ¬ wide n) :
    Calls Tryz.prog 140 #[p, .int .i64 o, .int .i64 n] w fun e w' => e = .returned (.tuple #[.slice none 0 0, .bool false]) ∧ w = w' := by
  unfold wide at hw
  have h1 : (n == 1) = false := by rw [beq_eq_false_iff_ne]; omega
  have h2 : (n == 2) = false := by rw [beq_eq_false_iff_ne]; omega
  have h4 : (n == 4) = false := by rw [beq_eq_false_iff_ne]; omega
  clear hw
  go_enter Tryz.func140, Tryz.ntmps140
  go_wp2_with fail
  go_ret2
  exact ⟨rfl, rfl⟩

set_option maxHeartbeats 400000 in
theorem number_no (A B : Nat) (l : List UInt8) (o n : Int) (w : World) (ha : Area 178 w A B l) (h : ¬ isRange o n l.length)
    (ho : -9223372036854775808 ≤ o ∧ o ≤ 9223372036854775807) (hn : -9223372036854775808 ≤ n ∧ n ≤ 9223372036854775807) :
    Calls Tryz.prog 140 #[.pointer (some ⟨A, 0, none⟩), .int .i64 o, .int .i64 n] w fun e w' => e = .returned (.tuple #[.slice none 0 0, .bool false]) ∧ w = w' := by
  by_cases hw : wide n
  · rcases hw with rfl | rfl | rfl
    · go_enter Tryz.func140, Tryz.ntmps140
      go_wp2_with (go_at_call 141; refine (cut_no A B l o _ _ ha h ho hn).mono ?_; rintro e w' ⟨rfl, rfl⟩)
      go_ret2
      exact ⟨rfl, rfl⟩
    · go_enter Tryz.func140, Tryz.ntmps140
      go_wp2_with (go_at_call 141; refine (cut_no A B l o _ _ ha h ho hn).mono ?_; rintro e w' ⟨rfl, rfl⟩)
      go_ret2
      exact ⟨rfl, rfl⟩
    · go_enter Tryz.func140, Tryz.ntmps140
      go_wp2_with (go_at_call 141; refine (cut_no A B l o _ _ ha h ho hn).mono ?_; rintro e w' ⟨rfl, rfl⟩)
      go_ret2
      exact ⟨rfl, rfl⟩
  · exact number_narrow _ o n w hw

set_option maxHeartbeats 400000 in
theorem number_nil (o n : Int) (w : World) :
    Calls Tryz.prog 140 #[.pointer none, .int .i64 o, .int .i64 n] w fun e w' => e = .returned (.tuple #[.slice none 0 0, .bool false]) ∧ w = w' := by
  by_cases hw : wide n
  · rcases hw with rfl | rfl | rfl
    · go_enter Tryz.func140, Tryz.ntmps140
      go_wp2_with (go_at_call 141; refine (cut_nil o _ _).mono ?_; rintro e w' ⟨rfl, rfl⟩)
      go_ret2
      exact ⟨rfl, rfl⟩
    · go_enter Tryz.func140, Tryz.ntmps140
      go_wp2_with (go_at_call 141; refine (cut_nil o _ _).mono ?_; rintro e w' ⟨rfl, rfl⟩)
      go_ret2
      exact ⟨rfl, rfl⟩
    · go_enter Tryz.func140, Tryz.ntmps140
      go_wp2_with (go_at_call 141; refine (cut_nil o _ _).mono ?_; rintro e w' ⟨rfl, rfl⟩)
      go_ret2
      exact ⟨rfl, rfl⟩
  · exact number_narrow _ o n w hw
end Go.Proofs.YtgihpdhkjneimaaGreatDoor.Fd

/- The calls of package field on an area: what each returns, and what the area holds behind it. -/
namespace Go.Proofs.YtgihpdhkjneimaaGreatDoor.Fd
open Go.RowKit
open Go.Lib

theorem putAt_step (l t : List UInt8) (o k : Nat) (h : o + t.length ≤ l.length) (hk : k < t.length) :
    (putAt l o (t.take k)).set (o + k) t[k] = putAt l o (t.take (k + 1)) := by
  have h1 : o + (t.take k).length ≤ l.length := by simp; omega
  have h2 : o + (t.take (k + 1)).length ≤ l.length := by simp; omega
  apply List.ext_getElem?
  intro i
  rw [List.getElem?_set, putAt_at _ _ _ h1, putAt_at _ _ _ h2, putAt_length _ _ _ h1]
  simp only [List.length_take]
  rw [Nat.min_eq_left (by omega), Nat.min_eq_left (by omega)]
  by_cases e : o + k = i
  · subst e
    rw [if_pos rfl, if_pos (by omega), if_pos (by omega), Nat.add_sub_cancel_left, List.getElem?_take_of_lt (by omega), List.getElem?_eq_getElem hk]
  · rw [if_neg e]
    by_cases hi : o ≤ i ∧ i < o + k
    · rw [if_pos hi, if_pos (by omega), List.getElem?_take_of_lt (by omega), List.getElem?_take_of_lt (by omega)]
    · rw [if_neg hi, if_neg (by omega)]

theorem be_get (w n k : Nat) (h : k < (be w n).length) : (be w n)[k] = beB w n k := by
  have hk : k < w := by rw [be_length] at h; exact h
  have := be_at w n k hk
  rw [List.getElem?_eq_getElem h] at this
  exact Option.some.inj this

theorem upd_val {B i : Nat} {l : List UInt8} {w wr : World} {x y : Int} (h : Upd B l w (wr.setCell ⟨B, i, none⟩ (.int .u8 x))) (e : x = y) :
    Upd B l w (wr.setCell ⟨B, i, none⟩ (.int .u8 y)) := by rw [← e]; exact h

theorem beB_val (m n k : Nat) : (n : Int) / 2 ^ (8 * (m - 1 - k)) % 256 = ((beB m n k).toNat : Int) := by
  unfold beB
  rw [UInt8.toNat_ofNat']
  generalize m - 1 - k = j
  have e : (2 : Int) ^ (8 * j) = ((256 ^ j : Nat) : Int) := by
    rw [show (256 : Nat) = 2 ^ 8 from rfl, ← Nat.pow_mul]; simp
  rw [e]; simp

set_option maxHeartbeats 400000 in
theorem put_1 (A B : Nat) (l : List UInt8) (o n : Nat) (w : World) (ha : Area 178 w A B l) (h : o + 1 ≤ l.length) (hn : n < 256 ^ 1) :
    Calls Tryz.prog 118 #[.pointer (some ⟨A, 0, none⟩), .int .i64 (o : Int), .int .i64 1, .int .u32 (n : Int)] w fun e w' => e = .returned (.int .i64 0) ∧ Upd B (putAt l o (be 1 n)) w w' := by
  have hq : ((n : Int) / 256 != 0) = false := by
    have : (n : Int) / 256 = 0 := by omega
    rw [this]; rfl
  go_enter Tryz.func118, Tryz.ntmps118
  go_wp2_with (go_at_call 140; refine (number_ok A B l o 1 _ ha (by omega) h).mono ?_; rintro e w' ⟨rfl, rfl⟩)
  clear hq
  have HN := hid hn; clear hn
  go_loopw [11, 30] (fun _ i wr => ∃ k : Nat, k ≤ 1 ∧ i = .int .i64 k ∧ Upd B (putAt l o ((be 1 n).take k)) w wr) (fun _ i _ => 1 - (intOf i).toNat)
  case atStart => exact ⟨0, by omega, rfl, by rw [List.take_zero, putAt_none]; exact Upd.refl ha.row⟩
  case round =>
    obtain ⟨k, hk, rfl, hU⟩ := hrel
    have HU := hid hU; clear hU
    have HA := hid ha; clear ha
    by_cases hlt : k < 1
    · have hlen : o + k < (putAt l o ((be 1 n).take k)).length := by
        rw [putAt_length _ _ _ (by rw [List.length_take, be_length]; omega)]; omega
      have hc := HU.out.row.cell (o + k) hlen
      have hf := HU.out.row.free (o + k)
      have hv := beB_val 1 n k
      go_wp2_with fail
      go_roundw
      case rel =>
        refine ⟨k + 1, by omega, by go_num, ?_⟩
        have hkl : k < (be 1 n).length := by rw [be_length]; exact hlt
        have hs := putAt_step l (be 1 n) o k (by rw [be_length]; exact h) hkl
        rw [be_get] at hs
        have := HU.out.setCell (o + k) (beB 1 n k)
        rw [hs] at this
        first | exact this | exact upd_val this (by rw [← beB_val 1 n k, show (8 * -(k : Int)).toNat = 8 * (1 - 1 - k) by omega])
      case measure => simp [intOf]; omega
    · obtain rfl : k = 1 := by omega
      go_wp2_with fail
      go_ret
      exact ⟨rfl, by have := HU.out; rwa [List.take_of_length_le (by rw [be_length]; omega)] at this⟩

set_option maxHeartbeats 400000 in
theorem put_2 (A B : Nat) (l : List UInt8) (o n : Nat) (w : World) (ha : Area 178 w A B l) (h : o + 2 ≤ l.length) (hn : n < 256 ^ 2) :
    Calls Tryz.prog 118 #[.pointer (some ⟨A, 0, none⟩), .int .i64 (o : Int), .int .i64 2, .int .u32 (n : Int)] w fun e w' => e = .returned (.int .i64 0) ∧ Upd B (putAt l o (be 2 n)) w w' := by
  have hq : ((n : Int) / 65536 != 0) = false := by
    have : (n : Int) / 65536 = 0 := by omega
    rw [this]; rfl
  go_enter Tryz.func118, Tryz.ntmps118
  go_wp2_with (go_at_call 140; refine (number_ok A B l o 2 _ ha (by omega) h).mono ?_; rintro e w' ⟨rfl, rfl⟩)
  clear hq
  have HN := hid hn; clear hn
  go_loopw [11, 30] (fun _ i wr => ∃ k : Nat, k ≤ 2 ∧ i = .int .i64 k ∧ Upd B (putAt l o ((be 2 n).take k)) w wr) (fun _ i _ => 2 - (intOf i).toNat)
  case atStart => exact ⟨0, by omega, rfl, by rw [List.take_zero, putAt_none]; exact Upd.refl ha.row⟩
  case round =>
    obtain ⟨k, hk, rfl, hU⟩ := hrel
    have HU := hid hU; clear hU
    have HA := hid ha; clear ha
    by_cases hlt : k < 2
    · have hlen : o + k < (putAt l o ((be 2 n).take k)).length := by
        rw [putAt_length _ _ _ (by rw [List.length_take, be_length]; omega)]; omega
      have hc := HU.out.row.cell (o + k) hlen
      have hf := HU.out.row.free (o + k)
      have hv := beB_val 2 n k
      go_wp2_with fail
      go_roundw
      case rel =>
        refine ⟨k + 1, by omega, by go_num, ?_⟩
        have hkl : k < (be 2 n).length := by rw [be_length]; exact hlt
        have hs := putAt_step l (be 2 n) o k (by rw [be_length]; exact h) hkl
        rw [be_get] at hs
        have := HU.out.setCell (o + k) (beB 2 n k)
        rw [hs] at this
        first | exact this | exact upd_val this (by rw [← beB_val 2 n k, show (8 * -(k : Int)).toNat = 8 * (1 - 1 - k) by omega])
      case measure => simp [intOf]; omega
    · obtain rfl : k = 2 := by omega
      go_wp2_with fail
      go_ret
      exact ⟨rfl, by have := HU.out; rwa [List.take_of_length_le (by rw [be_length]; omega)] at this⟩

set_option maxHeartbeats 400000 in
theorem put_4 (A B : Nat) (l : List UInt8) (o n : Nat) (w : World) (ha : Area 178 w A B l) (h : o + 4 ≤ l.length) (hn : n < 256 ^ 4) :
    Calls Tryz.prog 118 #[.pointer (some ⟨A, 0, none⟩), .int .i64 (o : Int), .int .i64 4, .int .u32 (n : Int)] w fun e w' => e = .returned (.int .i64 0) ∧ Upd B (putAt l o (be 4 n)) w w' := by
  have hq : ((n : Int) / 4294967296 != 0) = false := by
    have : (n : Int) / 4294967296 = 0 := by omega
    rw [this]; rfl
  go_enter Tryz.func118, Tryz.ntmps118
  go_wp2_with (go_at_call 140; refine (number_ok A B l o 4 _ ha (by omega) h).mono ?_; rintro e w' ⟨rfl, rfl⟩)
  clear hq
  have HN := hid hn; clear hn
  go_loopw [11, 30] (fun _ i wr => ∃ k : Nat, k ≤ 4 ∧ i = .int .i64 k ∧ Upd B (putAt l o ((be 4 n).take k)) w wr) (fun _ i _ => 4 - (intOf i).toNat)
  case atStart => exact ⟨0, by omega, rfl, by rw [List.take_zero, putAt_none]; exact Upd.refl ha.row⟩
  case round =>
    obtain ⟨k, hk, rfl, hU⟩ := hrel
    have HU := hid hU; clear hU
    have HA := hid ha; clear ha
    by_cases hlt : k < 4
    · have hlen : o + k < (putAt l o ((be 4 n).take k)).length := by
        rw [putAt_length _ _ _ (by rw [List.length_take, be_length]; omega)]; omega
      have hc := HU.out.row.cell (o + k) hlen
      have hf := HU.out.row.free (o + k)
      have hv := beB_val 4 n k
      go_wp2_with fail
      go_roundw
      case rel =>
        refine ⟨k + 1, by omega, by go_num, ?_⟩
        have hkl : k < (be 4 n).length := by rw [be_length]; exact hlt
        have hs := putAt_step l (be 4 n) o k (by rw [be_length]; exact h) hkl
        rw [be_get] at hs
        have := HU.out.setCell (o + k) (beB 4 n k)
        rw [hs] at this
        first | exact this | exact upd_val this (by rw [← beB_val 4 n k, show (8 * -(k : Int)).toNat = 8 * (1 - 1 - k) by omega])
      case measure => simp [intOf]; omega
    · obtain rfl : k = 4 := by omega
      go_wp2_with fail
      go_ret
      exact ⟨rfl, by have := HU.out; rwa [List.take_of_length_le (by rw [be_length]; omega)] at this⟩

end Go.Proofs.YtgihpdhkjneimaaGreatDoor.Fd

/- The calls of package field on an area, all cases: what each returns, and what the area holds behind it. -/
namespace Go.Proofs.YtgihpdhkjneimaaGreatDoor.Fd
open Go.RowKit
open Go.Lib

/-- an int's range -/
def isInt (x : Int) : Prop := -9223372036854775808 ≤ x ∧ x ≤ 9223372036854775807

set_option maxHeartbeats 400000 in
theorem put_bad (p : Value) (o wd n : Int) (w : World)
    (h : Calls Tryz.prog 140 #[p, .int .i64 o, .int .i64 wd] w fun e w' => e = .returned (.tuple #[.slice none 0 0, .bool false]) ∧ w = w') :
    Calls Tryz.prog 118 #[p, .int .i64 o, .int .i64 wd, .int .u32 n] w fun e w' => e = .returned (.int .i64 1) ∧ w = w' := by
  have H := hid h; clear h
  go_enter Tryz.func118, Tryz.ntmps118
  go_wp2_with (go_at_call 140; refine (H.out).mono ?_; rintro e w' ⟨rfl, rfl⟩)
  go_ret
  exact ⟨rfl, rfl⟩

theorem quo_ne {n : Int} {P : Int} (hP : 0 < P) (h : P ≤ n) : (n / P != 0) = true := by
  have : 1 ≤ n / P := (Int.le_ediv_iff_mul_le hP).2 (by omega)
  rw [bne_iff_ne]; omega

set_option maxHeartbeats 400000 in
theorem put_great (A B : Nat) (l : List UInt8) (o wd : Nat) (n : Int) (w : World) (ha : Area 178 w A B l) (hw : wd = 1 ∨ wd = 2 ∨ wd = 4) (h : o + wd ≤ l.length) (hn : (256 : Int) ^ wd ≤ n) :
    Calls Tryz.prog 118 #[.pointer (some ⟨A, 0, none⟩), .int .i64 (o : Int), .int .i64 (wd : Int), .int .u32 n] w fun e w' => e = .returned (.int .i64 1) ∧ w = w' := by
  rcases hw with rfl | rfl | rfl
  · have hq : (n / 256 != 0) = true := quo_ne (by omega) hn
    clear hn
    go_enter Tryz.func118, Tryz.ntmps118
    go_wp2_with (go_at_call 140; refine (number_ok A B l o 1 _ ha (by omega) h).mono ?_; rintro e w' ⟨rfl, rfl⟩)
    go_ret
    exact ⟨rfl, rfl⟩
  · have hq : (n / 65536 != 0) = true := quo_ne (by omega) hn
    clear hn
    go_enter Tryz.func118, Tryz.ntmps118
    go_wp2_with (go_at_call 140; refine (number_ok A B l o 2 _ ha (by omega) h).mono ?_; rintro e w' ⟨rfl, rfl⟩)
    go_ret
    exact ⟨rfl, rfl⟩
  · have hq : (n / 4294967296 != 0) = true := quo_ne (by omega) hn
    clear hn
    go_enter Tryz.func118, Tryz.ntmps118
    go_wp2_with (go_at_call 140; refine (number_ok A B l o 4 _ ha (by omega) h).mono ?_; rintro e w' ⟨rfl, rfl⟩)
    go_ret
    exact ⟨rfl, rfl⟩

theorem or_byte (x : Nat) (b : UInt8) (h : x < 16777216) : bits .or .u32 (((x : Int) * 256) % 4294967296) ((b.toNat : Int) % 4294967296) = ((256 * x + b.toNat : Nat) : Int) := by
  have hb := b.toNat_lt
  have e1 : ((x : Int) * 256) % 4294967296 = ((256 * x : Nat) : Int) := by omega
  have e2 : ((b.toNat : Int)) % 4294967296 = ((b.toNat : Nat) : Int) := by omega
  rw [e1, e2, u32_or_nat _ _ (by omega) (by omega), nat_join 8 (256 * x) b.toNat (by omega) (by omega)]

theorem num_take (l : List UInt8) (o n k : Nat) (h : o + n ≤ l.length) (hk : k < n) :
    num ((getAt l o n).take (k + 1)) = 256 * num ((getAt l o n).take k) + (l[o + k]'(by omega)).toNat := by
  have hl := getAt_length l o n h
  have e := getAt_at l o n k
  rw [if_pos hk, List.getElem?_eq_getElem (by omega), List.getElem?_eq_getElem (by omega)] at e
  rw [List.take_succ_eq_append_getElem (by omega), num_snoc, Option.some.inj e]
theorem num_small (l : List UInt8) (k : Nat) (h : k ≤ 3) : num (l.take k) < 16777216 := by
  have h1 := num_lt (l.take k)
  have h2 : (l.take k).length ≤ 3 := by simp; omega
  exact Nat.lt_of_lt_of_le h1 (Nat.pow_le_pow_right (by decide) h2)

set_option maxHeartbeats 400000 in
theorem get_ok (A B : Nat) (l : List UInt8) (o wd : Nat) (w : World) (ha : Area 178 w A B l) (hw : wd = 1 ∨ wd = 2 ∨ wd = 4) (h : o + wd ≤ l.length) :
    Calls Tryz.prog 147 #[.pointer (some ⟨A, 0, none⟩), .int .i64 (o : Int), .int .i64 (wd : Int)] w fun e w' => e = .returned (.tuple #[.int .u32 (num (getAt l o wd) : Int), .int .i64 0]) ∧ w = w' := by
  have hwd : wd ≤ 4 := by omega
  have hlen := ha.len
  go_enter Tryz.func147, Tryz.ntmps147
  go_wp2_with (go_at_call 140; refine (number_ok A B l o wd _ ha hw h).mono ?_; rintro e w' ⟨rfl, rfl⟩)
  have HW := hid hw; clear hw
  have HA := hid ha; clear ha
  go_loop [10, 12, 24] (fun x _ i => ∃ k : Nat, k ≤ wd ∧ i = .int .i64 k ∧ x = .int .u32 (num ((getAt l o wd).take k) : Int)) (fun _ _ i => wd - (intOf i).toNat)
  case atStart => exact ⟨0, by omega, rfl, rfl⟩
  case round =>
    obtain ⟨k, hk, rfl, rfl⟩ := hrel
    by_cases hlt : k < wd
    · have hc := HA.out.row.cell (o + k) (by omega)
      go_wp2_with fail
      go_round
      case rel => exact ⟨k + 1, by omega, by go_num, by rw [or_byte _ _ (num_small _ k (by omega)), num_take l o wd k h hlt]⟩
      case measure => simp [intOf]; omega
    · obtain rfl : k = wd := by omega
      have hg := getAt_length l o k h
      go_wp2_with fail
      rw [List.take_of_length_le (by omega)]
      go_ret2
      exact ⟨rfl, rfl⟩

set_option maxHeartbeats 400000 in
theorem get_bad (p : Value) (o wd : Int) (w : World)
    (h : Calls Tryz.prog 140 #[p, .int .i64 o, .int .i64 wd] w fun e w' => e = .returned (.tuple #[.slice none 0 0, .bool false]) ∧ w = w') :
    Calls Tryz.prog 147 #[p, .int .i64 o, .int .i64 wd] w fun e w' => e = .returned (.tuple #[.int .u32 0, .int .i64 1]) ∧ w = w' := by
  have H := hid h; clear h
  go_enter Tryz.func147, Tryz.ntmps147
  go_wp2_with (go_at_call 140; refine (H.out).mono ?_; rintro e w' ⟨rfl, rfl⟩)
  go_ret2
  exact ⟨rfl, rfl⟩

theorem size_list (s : ByteArray) : s.data.toList.length = s.size := by simp

set_option maxHeartbeats 400000 in
theorem putText_ok (A B : Nat) (l : List UInt8) (o : Nat) (s : ByteArray) (w : World) (ha : Area 178 w A B l) (h : o + s.size ≤ l.length) :
    Calls Tryz.prog 119 #[.pointer (some ⟨A, 0, none⟩), .int .i64 (o : Int), .string s] w fun e w' => e = .returned (.int .i64 0) ∧ Upd B (putAt l o s.data.toList) w w' := by
  have hlen := ha.len
  have hsz := size_list s
  by_cases h0 : s.size = 0
  · have e : putAt l o s.data.toList = l := by
      rw [List.eq_nil_of_length_eq_zero (hsz.trans h0), putAt_none]
    rw [e]
    have hcp : ∀ ty, (Builtin.copy_ #[121, 9] ty #[.slice (some ⟨B, cutAt o s.size, none⟩) s.size s.size, .string s]).run Tryz.prog w = .ok (goInt 0) w := fun ty =>
      run_copy_empty_string (P := Tryz.prog) w 121 9 ty 5 _ _ _ s Tryz.underlying121 (by rw [size5]; rfl) h0
    have HZ := hid h0; clear h0 hsz e
    go_enter Tryz.func119, Tryz.ntmps119
    go_wp2_with (go_at_call 141; refine (cut_ok A B l o s.size _ ha h).mono ?_; rintro e w' ⟨rfl, rfl⟩)
    go_ret
    exact ⟨rfl, Upd.refl ha.row⟩
  · have e0 : cutAt o s.size = o := by unfold cutAt; rw [if_neg h0]
    have hcp : ∀ ty, (Builtin.copy_ #[121, 9] ty #[.slice (some ⟨B, cutAt o s.size, none⟩) s.size s.size, .string s]).run Tryz.prog w = .ok (goInt s.size) (w.setRow B (rowOf (putAt l o s.data.toList))) := fun ty => by
      rw [e0, run_copy_row_string (P := Tryz.prog) w 121 9 ty 5 B o s.size s.size s (rowOf l) 5 Tryz.underlying121 size5 ha.row (Nat.le_refl _) (by rw [rowOf_size]; exact h), ← hsz, rowOf_put]
    clear e0 hsz
    go_enter Tryz.func119, Tryz.ntmps119
    go_wp2_with (go_at_call 141; refine (cut_ok A B l o s.size _ ha h).mono ?_; rintro e w' ⟨rfl, rfl⟩)
    go_ret
    exact ⟨rfl, (Upd.refl ha.row).setRow _⟩

set_option maxHeartbeats 400000 in
theorem putText_bad (p : Value) (o : Int) (s : ByteArray) (w : World)
    (h : Calls Tryz.prog 141 #[p, .int .i64 o, .int .i64 (s.size : Int)] w fun e w' => e = .returned (.tuple #[.slice none 0 0, .bool false]) ∧ w = w') :
    Calls Tryz.prog 119 #[p, .int .i64 o, .string s] w fun e w' => e = .returned (.int .i64 1) ∧ w = w' := by
  have H := hid h; clear h
  go_enter Tryz.func119, Tryz.ntmps119
  go_wp2_with (go_at_call 141; refine (H.out).mono ?_; rintro e w' ⟨rfl, rfl⟩)
  go_ret
  exact ⟨rfl, rfl⟩

set_option maxHeartbeats 400000 in
theorem getText_ok (A B : Nat) (l : List UInt8) (o n : Nat) (w : World) (ha : Area 178 w A B l) (h : o + n ≤ l.length) :
    Calls Tryz.prog 148 #[.pointer (some ⟨A, 0, none⟩), .int .i64 (o : Int), .int .i64 (n : Int)] w fun e w' => e = .returned (.tuple #[.string ⟨(getAt l o n).toArray⟩, .int .i64 0]) ∧ w = w' := by
  have hlen := ha.len
  have hb : (convert 121 9 (.slice (some ⟨B, cutAt o n, none⟩) n n)).run Tryz.prog w = .ok (.string ⟨(getAt l o n).toArray⟩) w := by
    by_cases h0 : n = 0
    · subst h0; rw [getAt_none]; exact back_none _ _ _ _
    · have e0 : cutAt o n = o := by unfold cutAt; rw [if_neg h0]
      rw [e0]; exact back_run ha.row o n n h
  generalize (getAt l o n).toArray = t at hb ⊢
  go_enter Tryz.func148, Tryz.ntmps148
  go_wp2_with (go_at_call 141; refine (cut_ok A B l o n _ ha h).mono ?_; rintro e w' ⟨rfl, rfl⟩)
  go_ret2
  exact ⟨rfl, rfl⟩

set_option maxHeartbeats 400000 in
theorem getText_bad (p : Value) (o n : Int) (w : World)
    (h : Calls Tryz.prog 141 #[p, .int .i64 o, .int .i64 n] w fun e w' => e = .returned (.tuple #[.slice none 0 0, .bool false]) ∧ w = w') :
    Calls Tryz.prog 148 #[p, .int .i64 o, .int .i64 n] w fun e w' => e = .returned (.tuple #[.string ⟨#[]⟩, .int .i64 1]) ∧ w = w' := by
  have H := hid h; clear h
  go_enter Tryz.func148, Tryz.ntmps148
  go_wp2_with (go_at_call 141; refine (H.out).mono ?_; rintro e w' ⟨rfl, rfl⟩)
  go_ret2
  exact ⟨rfl, rfl⟩

set_option maxHeartbeats 400000 in
theorem bytes_ok (A B : Nat) (l : List UInt8) (w : World) (ha : Area 178 w A B l) :
    Calls Tryz.prog 122 #[.pointer (some ⟨A, 0, none⟩)] w fun e w' => e = .returned (.string ⟨l.toArray⟩) ∧ w = w' := by
  have hlen := ha.len
  have hc := ha.cell
  have hb := back_run ha.row 0 l.length l.length (by omega)
  rw [getAt_all] at hb
  go_enter Tryz.func122, Tryz.ntmps122
  go_wp2_with fail
  go_ret
  exact ⟨rfl, rfl⟩
set_option maxHeartbeats 400000 in
theorem bytes_nil (w : World) :
    Calls Tryz.prog 122 #[.pointer none] w fun e w' => e = .returned (.string ⟨#[]⟩) ∧ w = w' := by
  go_enter Tryz.func122, Tryz.ntmps122
  go_wp2_with fail
  go_ret
  exact ⟨rfl, rfl⟩
end Go.Proofs.YtgihpdhkjneimaaGreatDoor.Fd

/- Of of package field, and the law's own examples. -/
namespace Go.Proofs.YtgihpdhkjneimaaGreatDoor.Fd
open Go.RowKit
open Go.Lib

set_option maxHeartbeats 400000 in
theorem of_ok (s : ByteArray) (w : World) (hs : s.size ≤ 4096) :
    Calls Tryz.prog 131 #[.string s] w fun e w' => e = .returned (.tuple #[.pointer (some ⟨w.heap.size + 1, 0, none⟩), .int .i64 0]) ∧ Area 178 w' (w.heap.size + 1) w.heap.size s.data.toList ∧ Below w.heap.size w w' := by
  have ha := madeArea_area 178 s.size w hs
  have hb := madeArea_below 178 s.size w
  have hsz := size_list s
  have hp : putAt (List.replicate s.size 0) 0 s.data.toList = s.data.toList := putAt_all _ _ (by simp)
  have hc := ha.cell
  rw [List.length_replicate] at hc
  by_cases h0 : s.size = 0
  · have hcp : ∀ ty, (Builtin.copy_ #[121, 9] ty #[.slice (some ⟨w.heap.size, 0, none⟩) s.size s.size, .string s]).run Tryz.prog (madeArea 178 s.size w) = .ok (goInt 0) (madeArea 178 s.size w) := fun ty =>
      run_copy_empty_string (P := Tryz.prog) _ 121 9 ty 5 _ _ _ s Tryz.underlying121 (by rw [size5]; rfl) h0
    have hA : Area 178 (madeArea 178 s.size w) (w.heap.size + 1) w.heap.size s.data.toList := by
      rw [List.eq_nil_of_length_eq_zero (hsz.trans h0)]; rw [h0] at ha ⊢; exact ha
    have HB := hid (And.intro hA hb); clear hA hb ha h0 hsz hp
    go_enter Tryz.func131, Tryz.ntmps131
    go_wp2_with (go_at_call 117; refine (new_ok s.size _ hs).mono ?_; rintro e w' ⟨rfl, rfl⟩)
    go_ret2
    exact ⟨rfl, HB.out⟩
  · have hcp : ∀ ty, (Builtin.copy_ #[121, 9] ty #[.slice (some ⟨w.heap.size, 0, none⟩) s.size s.size, .string s]).run Tryz.prog (madeArea 178 s.size w) = .ok (goInt s.size) ((madeArea 178 s.size w).setRow w.heap.size (rowOf s.data.toList)) := fun ty => by
      rw [run_copy_row_string (P := Tryz.prog) _ 121 9 ty 5 w.heap.size 0 s.size s.size s _ 5 Tryz.underlying121 size5 ha.row (Nat.le_refl _) (by rw [rowOf_size]; simp), ← hsz, rowOf_put, hsz, hp]
    have hA : Area 178 ((madeArea 178 s.size w).setRow w.heap.size (rowOf s.data.toList)) (w.heap.size + 1) w.heap.size s.data.toList :=
      ha.upd ((Upd.refl ha.row).setRow _) (by simp)
    have hB : Below w.heap.size w ((madeArea 178 s.size w).setRow w.heap.size (rowOf s.data.toList)) := below_setRow hb (Nat.le_refl _) _
    have HB := hid (And.intro hA hB); clear hA hB hb ha h0 hsz hp
    go_enter Tryz.func131, Tryz.ntmps131
    go_wp2_with (go_at_call 117; refine (new_ok s.size _ hs).mono ?_; rintro e w' ⟨rfl, rfl⟩)
    go_ret2
    exact ⟨rfl, HB.out⟩

set_option maxHeartbeats 400000 in
theorem of_no (s : ByteArray) (w : World) (hs : 4096 < s.size) (hm : s.size ≤ maxLen) :
    Calls Tryz.prog 131 #[.string s] w fun e w' => e = .returned (.tuple #[.pointer none, .int .i64 1]) ∧ w = w' := by
  unfold maxLen at hm
  go_enter Tryz.func131, Tryz.ntmps131
  go_wp2_with (go_at_call 117; refine (new_no _ _ (by omega)).mono ?_; rintro e w' ⟨rfl, rfl⟩)
  go_ret2
  exact ⟨rfl, rfl⟩
end Go.Proofs.YtgihpdhkjneimaaGreatDoor.Fd

/- Plain facts on pages: what a page's bytes are, what is read of any bytes, and that a turn of at most 32 bits is seen; no program is imported. -/
namespace Go.Proofs.YtgihpdhkjneimaaGreatDoor.Pg
open Go.Proofs.YtgihpdhkjneimaaGreatDoor.Fd
open Go.Proofs.YtgihpdhkjneimaaGreatDoor.Sm

/-- a sum as a number -/
def sumN (l : List UInt8) : Nat := (sumB l).toNat
/-- so many bytes 0 -/
def zs (n : Nat) : List UInt8 := List.replicate n 0
theorem zs_length (n : Nat) : (zs n).length = n := by simp [zs]
theorem zs_take (n k : Nat) (h : k ≤ n) : (zs n).take k = zs k := by unfold zs; rw [List.take_replicate, Nat.min_eq_left h]
theorem zs_drop (n k : Nat) : (zs n).drop k = zs (n - k) := by unfold zs; rw [List.drop_replicate]
theorem zs_app (n k : Nat) : zs n ++ zs k = zs (n + k) := by unfold zs; rw [List.replicate_append_replicate]
theorem zs_one : be 1 0 = zs 1 := rfl
/-- a number's four bytes, the lowest first -/
def lowL (x : Nat) : List UInt8 := (be 4 x).reverse
/-- a number with its bytes turned round -/
def rev32 (x : Nat) : Nat := num (lowL x)
/-- a page's bytes ahead of its sum -/
def headL (k n : Nat) (b : List UInt8) : List UInt8 := be 1 k ++ (be 1 0 ++ (be 2 b.length ++ (be 4 n ++ (b ++ zs (244 - b.length)))))
/-- a page's bytes -/
def sealL (k n : Nat) (b : List UInt8) : List UInt8 := headL k n b ++ lowL (sumN (headL k n b))
def blankL : List UInt8 := zs 256
def tornL (l : List UInt8) (at' : Nat) : List UInt8 := l.take at' ++ List.replicate (256 - at') 0xee

theorem sumN_lt (l : List UInt8) : sumN l < 4294967296 := (sumB l).isLt
theorem lowL_length (x : Nat) : (lowL x).length = 4 := by simp [lowL, be_length]
theorem rev32_lt (x : Nat) : rev32 x < 256 ^ 4 := by
  have := num_lt (lowL x); rw [lowL_length] at this; exact this

theorem be_num (l : List UInt8) : be l.length (num l) = l := by
  suffices h : ∀ k, k ≤ l.length → be k (num (l.take k)) = l.take k by
    have := h l.length (Nat.le_refl _); rwa [List.take_length] at this
  intro k
  induction k with
  | zero => intro _; simp [be]
  | succ k ih =>
    intro hk
    have hk' : k < l.length := by omega
    have ih := ih (by omega)
    rw [List.take_succ_eq_append_getElem hk', num_snoc]
    have hn := num_lt (l.take k)
    rw [List.length_take, Nat.min_eq_left (by omega)] at hn
    have hb := (l[k]).toNat_lt
    apply List.ext_getElem?
    intro i
    by_cases hi : i < k + 1
    · rw [be_at _ _ _ hi]
      by_cases hik : i < k
      · have e1 : (l.take k ++ [l[k]])[i]? = some (beB k (num (l.take k)) i) := by
          rw [List.getElem?_append_left (by simp; omega)]
          have := be_at k (num (l.take k)) i hik
          rwa [ih] at this
        rw [e1]
        congr 1
        unfold beB
        congr 1
        rw [show k + 1 - 1 - i = (k - 1 - i) + 1 by omega, Nat.pow_succ, Nat.mul_comm (256 ^ (k - 1 - i)), ← Nat.div_div_eq_div_mul]
        rw [show (256 * num (l.take k) + l[k].toNat) / 256 = num (l.take k) by omega]
      · obtain rfl : i = k := by omega
        rw [List.getElem?_append_right (by simp; omega)]
        simp only [List.length_take]
        rw [Nat.min_eq_left (by omega)]
        simp only [Nat.sub_self, List.getElem?_cons_zero]
        congr 1
        unfold beB
        simp only [Nat.add_sub_cancel, Nat.sub_self, Nat.pow_zero, Nat.div_one]
        rw [← UInt8.toNat_inj, UInt8.toNat_ofNat']
        omega
    · rw [List.getElem?_eq_none (by rw [be_length]; omega), List.getElem?_eq_none (by simp; omega)]

theorem be_rev32 (x : Nat) : be 4 (rev32 x) = lowL x := by
  have := be_num (lowL x); rwa [lowL_length] at this
theorem rev32_back (l : List UInt8) (h : l.length = 4) (x : Nat) (hx : x < 4294967296) : rev32 (num l) = x ↔ lowL x = l := by
  constructor
  · intro e
    have h1 : be 4 (rev32 (num l)) = lowL (num l) := be_rev32 _
    have h2 : be 4 (num l) = l := by have := be_num l; rwa [h] at this
    rw [e] at h1
    unfold lowL at h1 ⊢
    rw [h1, h2, List.reverse_reverse]
  · intro e
    have h2 : be 4 (num l) = l := by have := be_num l; rwa [h] at this
    unfold rev32 lowL
    rw [h2, ← e]
    unfold lowL
    rw [List.reverse_reverse, num_be 4 x (by omega)]

theorem headL_length (k n : Nat) (b : List UInt8) (h : b.length ≤ 244) : (headL k n b).length = 252 := by
  simp [headL, be_length, zs_length]; omega
theorem sealL_length (k n : Nat) (b : List UInt8) (h : b.length ≤ 244) : (sealL k n b).length = 256 := by
  simp [sealL, headL_length k n b h, lowL_length]

theorem drop_app (A B : List UInt8) (n : Nat) (h : A.length ≤ n) : (A ++ B).drop n = B.drop (n - A.length) := by
  rw [List.drop_append, List.drop_eq_nil_of_le h, List.nil_append]
theorem take_app (A B : List UInt8) (n : Nat) (h : A.length = n) : (A ++ B).take n = A := by
  subst h; simp

/-- the area behind all puts but the sum's -/
def putsL (k n : Nat) (b : List UInt8) : List UInt8 :=
  putAt (putAt (putAt (putAt (zs 256) 0 (be 1 k)) 2 (be 2 b.length)) 4 (be 4 n)) 8 b
theorem put_len (l : List UInt8) (o w n : Nat) (h : o + w ≤ l.length) : (putAt l o (be w n)).length = l.length :=
  putAt_length _ _ _ (by rw [be_length]; exact h)
theorem puts1 (k : Nat) : putAt (zs 256) 0 (be 1 k) = be 1 k ++ zs 255 := by
  unfold putAt; rw [be_length, zs_drop, List.take_zero, List.nil_append]
theorem puts2 (k m : Nat) : putAt (be 1 k ++ zs 255) 2 (be 2 m) = be 1 k ++ (be 1 0 ++ (be 2 m ++ zs 252)) := by
  unfold putAt
  rw [be_length, List.take_append, List.take_of_length_le (by rw [be_length]; omega), drop_app _ _ _ (by rw [be_length]; omega), be_length, zs_one, zs_take _ _ (by omega), zs_drop]
  simp only [List.append_assoc]
theorem puts3 (k m n : Nat) : putAt (be 1 k ++ (be 1 0 ++ (be 2 m ++ zs 252))) 4 (be 4 n) = be 1 k ++ (be 1 0 ++ (be 2 m ++ (be 4 n ++ zs 248))) := by
  unfold putAt
  have h : (be 1 k ++ (be 1 0 ++ be 2 m)).length = 4 := by simp [be_length]
  have e : be 1 k ++ (be 1 0 ++ (be 2 m ++ zs 252)) = (be 1 k ++ (be 1 0 ++ be 2 m)) ++ zs 252 := by simp only [List.append_assoc]
  rw [e, be_length, take_app _ _ _ h, drop_app _ _ _ (by omega), h, zs_drop]
  simp only [List.append_assoc]
theorem puts4 (k m n : Nat) (b : List UInt8) (hb : b.length ≤ 244) : putAt (be 1 k ++ (be 1 0 ++ (be 2 m ++ (be 4 n ++ zs 248)))) 8 b =
    (be 1 k ++ (be 1 0 ++ (be 2 m ++ (be 4 n ++ (b ++ zs (244 - b.length)))))) ++ zs 4 := by
  unfold putAt
  have h : (be 1 k ++ (be 1 0 ++ (be 2 m ++ be 4 n))).length = 8 := by simp [be_length]
  have e : be 1 k ++ (be 1 0 ++ (be 2 m ++ (be 4 n ++ zs 248))) = (be 1 k ++ (be 1 0 ++ (be 2 m ++ be 4 n))) ++ zs 248 := by simp only [List.append_assoc]
  rw [e, take_app _ _ _ h, drop_app _ _ _ (by omega), h, zs_drop]
  simp only [List.append_assoc, zs_app]
  rw [show 248 - (8 + b.length - 8) = 244 - b.length + 4 by omega]
theorem putsL_eq (k n : Nat) (b : List UInt8) (hb : b.length ≤ 244) : putsL k n b = headL k n b ++ zs 4 := by
  unfold putsL headL; rw [puts1, puts2, puts3, puts4 _ _ _ _ hb]
theorem putsL_length (k n : Nat) (b : List UInt8) (hb : b.length ≤ 244) : (putsL k n b).length = 256 := by
  rw [putsL_eq _ _ _ hb]; simp [headL_length k n b hb, zs_length]
theorem putsL_take (k n : Nat) (b : List UInt8) (hb : b.length ≤ 244) : (putsL k n b).take 252 = headL k n b := by
  rw [putsL_eq _ _ _ hb, take_app _ _ _ (headL_length k n b hb)]
theorem putsL_sum (k n : Nat) (b : List UInt8) (hb : b.length ≤ 244) : putAt (putsL k n b) 252 (be 4 (rev32 (sumN (headL k n b)))) = sealL k n b := by
  have h := headL_length k n b hb
  rw [be_rev32]
  unfold putAt sealL
  rw [putsL_eq _ _ _ hb, take_app _ _ _ h, lowL_length, drop_app _ _ _ (by omega), h, zs_drop]
  show _ ++ _ ++ [] = _; rw [List.append_nil]

/-- may a page be? -/
def mayP (k n : Int) (s : Nat) : Prop := 1 ≤ k ∧ k ≤ 5 ∧ 0 ≤ n ∧ n < 1000 ∧ s ≤ 244
instance (k n : Int) (s : Nat) : Decidable (mayP k n s) := by unfold mayP; infer_instance

/-- what is read of any bytes: kind, number, body, and the error -/
def openL (l : List UInt8) : Nat × Nat × List UInt8 × Nat :=
  if l.length ≠ 256 then (0, 0, [], 9)
  else if l = blankL then (0, 0, [], 0)
  else if lowL (sumN (l.take 252)) ≠ l.drop 252 then (0, 0, [], 7)
  else if mayP (num (getAt l 0 1)) (num (getAt l 4 4)) (num (getAt l 2 2)) ∧ sealL (num (getAt l 0 1)) (num (getAt l 4 4)) (getAt l 8 (num (getAt l 2 2))) = l
    then (num (getAt l 0 1), num (getAt l 4 4), getAt l 8 (num (getAt l 2 2)), 0)
  else (0, 0, [], 6)

theorem getAt_app (A B C : List UInt8) (o n : Nat) (ho : A.length = o) (hn : B.length = n) : getAt (A ++ (B ++ C)) o n = B := by
  unfold getAt; rw [drop_app _ _ _ (by omega), ho, Nat.sub_self, List.drop_zero, take_app _ _ _ hn]

theorem seal_kind (k n : Nat) (b : List UInt8) (hk : k < 256) : num (getAt (sealL k n b) 0 1) = k := by
  have : getAt (sealL k n b) 0 1 = be 1 k := by
    unfold sealL headL
    simp only [List.append_assoc]
    exact getAt_app [] _ _ 0 1 rfl (be_length _ _)
  rw [this, num_be 1 k (by omega)]
theorem seal_size (k n : Nat) (b : List UInt8) (hb : b.length ≤ 244) : num (getAt (sealL k n b) 2 2) = b.length := by
  have : getAt (sealL k n b) 2 2 = be 2 b.length := by
    unfold sealL headL
    simp only [List.append_assoc]
    rw [← List.append_assoc]
    exact getAt_app _ _ _ 2 2 (by simp [be_length]) (be_length _ _)
  rw [this, num_be 2 _ (by omega)]
theorem seal_number (k n : Nat) (b : List UInt8) (hn : n < 4294967296) : num (getAt (sealL k n b) 4 4) = n := by
  have : getAt (sealL k n b) 4 4 = be 4 n := by
    unfold sealL headL
    simp only [List.append_assoc]
    rw [← List.append_assoc, ← List.append_assoc]
    exact getAt_app _ _ _ 4 4 (by simp [be_length]) (be_length _ _)
  rw [this, num_be 4 _ (by omega)]
theorem seal_body (k n : Nat) (b : List UInt8) : getAt (sealL k n b) 8 b.length = b := by
  unfold sealL headL
  simp only [List.append_assoc]
  rw [← List.append_assoc, ← List.append_assoc, ← List.append_assoc]
  exact getAt_app _ _ _ 8 _ (by simp [be_length]) rfl
theorem seal_take (k n : Nat) (b : List UInt8) (hb : b.length ≤ 244) : (sealL k n b).take 252 = headL k n b := take_app _ _ _ (headL_length k n b hb)
theorem seal_drop (k n : Nat) (b : List UInt8) (hb : b.length ≤ 244) : (sealL k n b).drop 252 = lowL (sumN (headL k n b)) := by
  unfold sealL; rw [drop_app _ _ _ (by rw [headL_length k n b hb]; omega), headL_length k n b hb]; simp
theorem seal_not_blank (k n : Nat) (b : List UInt8) (hk : 1 ≤ k) (hk' : k < 256) : sealL k n b ≠ blankL := by
  intro e
  have h := seal_kind k n b hk'
  rw [e] at h
  have : num (getAt blankL 0 1) = 0 := by decide
  omega

/-- what is sealed is opened -/
theorem open_seal (k n : Nat) (b : List UInt8) (h : mayP k n b.length) : openL (sealL k n b) = (k, n, b, 0) := by
  unfold mayP at h
  have hb : b.length ≤ 244 := h.2.2.2.2
  unfold openL
  rw [if_neg (by rw [sealL_length k n b hb]; simp), if_neg (seal_not_blank k n b (by omega) (by omega)), seal_take k n b hb, seal_drop k n b hb, if_neg (by simp)]
  rw [seal_kind k n b (by omega), seal_number k n b (by omega), seal_size k n b hb, seal_body, if_pos ⟨h, rfl⟩]
theorem seal_inj {k n k' n' : Nat} {b b' : List UInt8} (h : mayP k n b.length) (h' : mayP k' n' b'.length) (e : sealL k n b = sealL k' n' b') : k = k' ∧ n = n' ∧ b = b' := by
  have h1 := open_seal k n b h
  rw [e, open_seal k' n' b' h'] at h1
  simp only [Prod.mk.injEq] at h1
  exact ⟨h1.1.symm, h1.2.1.symm, h1.2.2.1.symm⟩

/-- what is opened without an error is blank, or what was sealed -/
theorem open_back (l : List UInt8) (h : (openL l).2.2.2 = 0) :
    l.length = 256 ∧ ((l = blankL ∧ openL l = (0, 0, [], 0)) ∨
      (∃ k n : Nat, ∃ b, mayP k n b.length ∧ sealL k n b = l ∧ openL l = (k, n, b, 0))) := by
  unfold openL at h ⊢
  by_cases h1 : l.length ≠ 256
  · rw [if_pos h1] at h; cases h
  · refine ⟨by omega, ?_⟩
    rw [if_neg h1] at h ⊢
    by_cases h2 : l = blankL
    · exact .inl ⟨h2, by rw [if_pos h2]⟩
    · rw [if_neg h2] at h ⊢
      by_cases h3 : lowL (sumN (l.take 252)) ≠ l.drop 252
      · rw [if_pos h3] at h; cases h
      · rw [if_neg h3] at h ⊢
        by_cases h4 : mayP (num (getAt l 0 1)) (num (getAt l 4 4)) (num (getAt l 2 2)) ∧ sealL (num (getAt l 0 1)) (num (getAt l 4 4)) (getAt l 8 (num (getAt l 2 2))) = l
        · right
          rw [if_pos h4]
          have hm := h4.1
          have hlen : (getAt l 8 (num (getAt l 2 2))).length = num (getAt l 2 2) := by
            apply getAt_length; have := hm.2.2.2.2; omega
          exact ⟨_, _, _, by rw [hlen]; exact hm, h4.2, rfl⟩
        · rw [if_neg h4] at h; cases h
theorem open_zero (l : List UInt8) (h : (openL l).2.2.2 ≠ 0) : openL l = (0, 0, [], (openL l).2.2.2) := by
  unfold openL at h ⊢
  by_cases h1 : l.length ≠ 256
  · rw [if_pos h1]
  · rw [if_neg h1] at h ⊢
    by_cases h2 : l = blankL
    · rw [if_pos h2]
    · rw [if_neg h2] at h ⊢
      by_cases h3 : lowL (sumN (l.take 252)) ≠ l.drop 252
      · rw [if_pos h3]
      · rw [if_neg h3] at h ⊢
        by_cases h4 : mayP (num (getAt l 0 1)) (num (getAt l 4 4)) (num (getAt l 2 2)) ∧ sealL (num (getAt l 0 1)) (num (getAt l 4 4)) (getAt l 8 (num (getAt l 2 2))) = l
        · rw [if_pos h4] at h; exact absurd rfl h
        · rw [if_neg h4]

theorem torn_length (l : List UInt8) (a : Nat) (hl : l.length = 256) (ha : a ≤ 256) : (tornL l a).length = 256 := by
  simp [tornL]; omega
theorem torn_all (l : List UInt8) (hl : l.length = 256) : tornL l 256 = l := by
  unfold tornL; rw [List.take_of_length_le (by omega)]; simp
theorem torn_twice (l : List UInt8) (a t : Nat) (hl : l.length = 256) (ha : a ≤ 256) (ht : t ≤ 256) (h : a ≤ t) : tornL (tornL l a) t = tornL l a := by
  unfold tornL
  rw [List.take_append, List.take_take, Nat.min_eq_right h, List.length_take, hl, Nat.min_eq_left (by omega), List.take_replicate, Nat.min_eq_left (by omega), List.append_assoc, List.replicate_append_replicate]
  congr 2; omega
end Go.Proofs.YtgihpdhkjneimaaGreatDoor.Pg
