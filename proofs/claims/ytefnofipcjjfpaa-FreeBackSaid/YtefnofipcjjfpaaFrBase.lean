/- A map of free pages in memory, as the program lays it: its two blocks, and what may turn of them. -/
import Derived.Test.YtefnofipcjjfpaaShelf
import Derived.Test.YtefnofipcjjfpaaFrMath
import Derived.Deep.QuietTactic
import Derived.BigQuiet
import Derived.Lib.Hide
namespace Go.Proofs.Ytefnofipcjjfpaa.Fr
open Go.RowKit
open Go.Lib (hid)

/-- whether a page is taken -/
def bitAt (B : List Bool) (n : Nat) : Bool := B.getD n false
/-- a word of 64 pages, and a byte of 8 -/
def word (B : List Bool) (i : Nat) : Nat := wordN (fun j => bitAt B (64 * i + j)) 64
def byteN (B : List Bool) (i : Nat) : Nat := wordN (fun j => bitAt B (8 * i + j)) 8
def nw (B : List Bool) : Nat := (B.length + 63) / 64
def wcs (B : List Bool) : List Value := (List.range (nw B)).map fun i => .int .u64 (word B i : Int)
theorem wcs_length (B : List Bool) : (wcs B).length = nw B := by simp [wcs]
theorem word_lt (B : List Bool) (i : Nat) : word B i < 18446744073709551616 := wordN_lt _ 64
theorem byteN_lt (B : List Bool) (i : Nat) : byteN B i < 256 := wordN_lt _ 8
theorem bitAt_out (B : List Bool) (n : Nat) (h : B.length ≤ n) : bitAt B n = false := by
  simp [bitAt, List.getElem?_eq_none h]
theorem byte_of_word (B : List Bool) (i : Nat) : word B (8 * i / 64) / 2 ^ (56 - 8 * i % 64) % 256 = byteN B i := by
  have h := wordN_byte (fun j => bitAt B (64 * (8 * i / 64) + j)) (i % 8) (by omega)
  have e1 : 8 * i % 64 = 8 * (i % 8) := by omega
  rw [e1]
  unfold word byteN
  rw [h]
  apply wordN_congr
  intro j hj
  show bitAt B _ = bitAt B _
  congr 1; omega
theorem bitAt_set (B : List Bool) (n : Nat) (b : Bool) (hn : n < B.length) (j : Nat) : bitAt (B.set n b) j = if j = n then b else bitAt B j := by
  unfold bitAt
  rw [List.getD_eq_getElem?_getD, List.getD_eq_getElem?_getD, List.getElem?_set]
  by_cases e : n = j
  · subst e; simp [hn]
  · rw [if_neg e, if_neg (Ne.symm e)]
theorem word_set (B : List Bool) (n i : Nat) (hn : n < B.length) : word (B.set n (!bitAt B n)) i = if i = n / 64 then word B i ^^^ 2 ^ (63 - n % 64) else word B i := by
  unfold word
  by_cases e : i = n / 64
  · rw [if_pos e, ← wordN_turn _ _ (Nat.mod_lt _ (by omega))]
    apply wordN_congr
    intro j hj
    show bitAt (B.set n _) _ = _
    rw [bitAt_set _ _ _ hn]
    by_cases e2 : 64 * i + j = n
    · have : j = n % 64 := by omega
      rw [if_pos e2, if_pos this, e2]
    · have : ¬ j = n % 64 := by omega
      rw [if_neg e2, if_neg this]
  · rw [if_neg e]
    apply wordN_congr
    intro j hj
    rw [bitAt_set _ _ _ hn, if_neg (by omega)]
theorem word_is (B : List Bool) (n : Nat) : (word B (n / 64) &&& 2 ^ (63 - n % 64)) = (bitAt B n).toNat * 2 ^ (63 - n % 64) := by
  unfold word
  rw [wordN_is _ _ (Nat.mod_lt _ (by omega))]
  show (bitAt B _).toNat * _ = _
  rw [show 64 * (n / 64) + n % 64 = n by omega]
theorem wcs_at (B : List Bool) (i : Nat) (h : i < nw B) : (wcs B)[i]? = some (.int .u64 (word B i : Int)) := by
  unfold wcs
  rw [List.getElem?_map, List.getElem?_range h]; rfl
theorem wcs_set (B : List Bool) (n : Nat) (hn : n < B.length) : wcs (B.set n (!bitAt B n)) = (wcs B).set (n / 64) (.int .u64 ((word B (n / 64) ^^^ 2 ^ (63 - n % 64) : Nat) : Int)) := by
  apply List.ext_getElem?
  intro i
  rw [List.getElem?_set]
  have hl : nw (B.set n (!bitAt B n)) = nw B := by simp [nw]
  by_cases hi : i < nw B
  · rw [wcs_at _ _ (by rw [hl]; exact hi), word_set _ _ _ hn]
    by_cases e : n / 64 = i
    · have h1 : n / 64 < (wcs B).length := by rw [wcs_length]; omega
      rw [if_pos e, if_pos h1, if_pos e.symm, e]
    · rw [if_neg e, if_neg (fun h => e h.symm), wcs_at _ _ hi]
  · have e1 : (wcs (B.set n (!bitAt B n)))[i]? = none := List.getElem?_eq_none (by rw [wcs_length, hl]; omega)
    have e2 : (wcs B)[i]? = none := List.getElem?_eq_none (by rw [wcs_length]; omega)
    rw [e1]
    by_cases e : n / 64 = i
    · rw [if_pos e, if_neg (by rw [wcs_length]; omega)]
    · rw [if_neg e, e2]

/-- where a map stands -/
structure Ptrs where
  M : Nat
  W : Nat
/-- a map in memory -/
structure Mp (w : World) (d : Ptrs) (B : List Bool) : Prop where
  head : w.heap[d.M]? = some (.cells #[.int .i64 (B.length : Int), .slice (some ⟨d.W, 0, none⟩) (nw B) (nw B)] 49 (0, 0))
  words : w.heap[d.W]? = some (.cells (wcs B).toArray 55 (0, 0))
  ne : d.M ≠ d.W
  n1 : 1 ≤ B.length
  n2 : B.length ≤ 1000
/-- only one block has turned of what was there -/
structure Only (b : Nat) (w w' : World) : Prop where
  os : w'.os = w.os
  tape : w'.tape = w.tape
  output : w'.output = w.output
  size : w.heap.size ≤ w'.heap.size
  block : ∀ k, k < w.heap.size → k ≠ b → w'.heap[k]? = w.heap[k]?
theorem Only.refl (b : Nat) (w : World) : Only b w w := ⟨rfl, rfl, rfl, Nat.le_refl _, fun _ _ _ => rfl⟩
theorem Only.trans {b : Nat} {w w1 w2 : World} (h : Only b w w1) (g : Only b w1 w2) : Only b w w2 :=
  ⟨g.os.trans h.os, g.tape.trans h.tape, g.output.trans h.output, Nat.le_trans h.size g.size, fun k hk hn => by rw [g.block k (Nat.lt_of_lt_of_le hk h.size) hn, h.block k hk hn]⟩
theorem Only.below {b : Nat} {w w1 : World} (h : Below w.heap.size w w1) : Only b w w1 := ⟨h.os, h.tape, h.output, h.size, fun k hk _ => h.block k hk⟩
theorem Only.to_below {b : Nat} {w w1 : World} {N : Nat} (h : Only b w w1) (hN : N ≤ w.heap.size) (hb : N ≤ b) : Below N w w1 :=
  ⟨h.os, h.tape, h.output, h.size, fun k hk => h.block k (Nat.lt_of_lt_of_le hk hN) (by omega)⟩
theorem Only.setCell {b : Nat} {w w1 : World} (h : Only b w w1) (i : Nat) (v : Value) : Only b w (w1.setCell ⟨b, i, none⟩ v) :=
  ⟨h.os, h.tape, h.output, by rw [World.size_setCell]; exact h.size, fun k hk hn => by rw [heap_setCell_other _ _ _ _ hn, h.block k hk hn]⟩
theorem Only.drew {b : Nat} {w w1 : World} (h : Only b w w1) : Only b w w1.drew := ⟨h.os, h.tape, h.output, h.size, h.block⟩
theorem Only.drewN {b : Nat} {w w1 : World} (h : Only b w w1) (n : Nat) : Only b w (w1.drewN n) := ⟨h.os, h.tape, h.output, h.size, h.block⟩

theorem Mp.ltM {w : World} {d : Ptrs} {B : List Bool} (h : Mp w d B) : d.M < w.heap.size := (Array.getElem?_eq_some_iff.1 h.head).1
theorem Mp.ltW {w : World} {d : Ptrs} {B : List Bool} (h : Mp w d B) : d.W < w.heap.size := (Array.getElem?_eq_some_iff.1 h.words).1
theorem Mp.kept {w w' : World} {d : Ptrs} {B : List Bool} (h : Mp w d B) (hm : w'.heap[d.M]? = w.heap[d.M]?) (hw : w'.heap[d.W]? = w.heap[d.W]?) : Mp w' d B :=
  ⟨by rw [hm]; exact h.head, by rw [hw]; exact h.words, h.ne, h.n1, h.n2⟩
theorem Mp.below {w w' : World} {d : Ptrs} {B : List Bool} (h : Mp w d B) (hb : Below w.heap.size w w') : Mp w' d B := h.kept (hb.block _ h.ltM) (hb.block _ h.ltW)
theorem Mp.other {w w' : World} {d : Ptrs} {B : List Bool} {b : Nat} (h : Mp w d B) (ho : Only b w w') (h1 : d.M ≠ b) (h2 : d.W ≠ b) : Mp w' d B := h.kept (ho.block _ h.ltM h1) (ho.block _ h.ltW h2)
theorem Mp.drew {w : World} {d : Ptrs} {B : List Bool} (h : Mp w d B) : Mp w.drew d B := ⟨h.head, h.words, h.ne, h.n1, h.n2⟩
theorem Mp.drewN {w : World} {d : Ptrs} {B : List Bool} (h : Mp w d B) (n : Nat) : Mp (w.drewN n) d B := ⟨h.head, h.words, h.ne, h.n1, h.n2⟩
theorem Mp.cells {w : World} {d : Ptrs} {B : List Bool} (h : Mp w d B) :
    w.cell? ⟨d.M, 0, none⟩ = some (.int .i64 (B.length : Int)) ∧ w.cell? ⟨d.M, 1, none⟩ = some (.slice (some ⟨d.W, 0, none⟩) (nw B) (nw B)) := by
  refine ⟨?_, ?_⟩ <;> rw [cell_of_row _ _ _ _ _ _ h.head] <;> rfl
theorem Mp.word {w : World} {d : Ptrs} {B : List Bool} (h : Mp w d B) (i : Nat) (hi : i < nw B) : w.cell? ⟨d.W, i, none⟩ = some (.int .u64 (Fr.word B i : Int)) := by
  rw [cell_of_row _ _ _ _ _ _ h.words, List.getElem?_toArray]; exact wcs_at _ _ hi
theorem Mp.wfree {w : World} {d : Ptrs} {B : List Bool} (h : Mp w d B) (i : Nat) : w.frozen? ⟨d.W, i, none⟩ = false := frozen_of_row _ _ _ _ _ h.words
/-- a page is turned -/
theorem Mp.turned {w : World} {d : Ptrs} {B : List Bool} (h : Mp w d B) (n : Nat) (hn : n < B.length) (v : Int) (hv : v = ((Fr.word B (n / 64) ^^^ 2 ^ (63 - n % 64) : Nat) : Int)) :
    Mp (w.setCell ⟨d.W, n / 64, none⟩ (.int .u64 v)) d (B.set n (!bitAt B n)) := by
  subst hv
  have hl : nw (B.set n (!bitAt B n)) = nw B := by simp [nw]
  refine ⟨?_, ?_, h.ne, by simpa using h.n1, by simpa using h.n2⟩
  · rw [heap_setCell_other _ _ _ _ h.ne, h.head, hl]; simp
  · rw [heap_setCell_same _ _ _ _ _ _ h.words, wcs_set _ _ hn]; simp
theorem quiet_eq {f : FuncId} {args : Array Value} {w : World} {n : Nat} {v : Value} (h : Calls Try.prog f args (w.drewN n) fun e w' => e = .returned v ∧ w.drewN n = w') :
    Calls Try.prog f args (w.drewN n) fun e w'' => e = .returned v ∧ ∃ m, w'' = w.drewN m := h.mono fun _ _ ⟨he, hm⟩ => ⟨he, n, hm.symm⟩
theorem quiet_more {f : FuncId} {args : Array Value} {w : World} {n : Nat} {v : Value} (h : Calls Try.prog f args (w.drewN n) fun e w' => e = .returned v ∧ ∃ m, w' = (w.drewN n).drewN m) :
    Calls Try.prog f args (w.drewN n) fun e w'' => e = .returned v ∧ ∃ m, w'' = w.drewN m := h.mono fun _ _ ⟨he, _, hm⟩ => ⟨he, _, hm.trans (World.drewN_drewN _ _ _)⟩
end Go.Proofs.Ytefnofipcjjfpaa.Fr
