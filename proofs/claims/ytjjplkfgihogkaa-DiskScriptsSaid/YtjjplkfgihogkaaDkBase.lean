/- A disk in memory: its blocks, what they hold, and what may turn of it. -/
import Derived.Test.YtjjplkfgihogkaaPgTorn
import Derived.Laws.AppendOwn
import Derived.Deep.QuietTactic
import Derived.BigQuiet
namespace Go.Proofs.Ytjjplkfgihogkaa.Dk
open Go.RowKit
open Go.Lib (hid)

/-- a disk's state: pages, writes that wait, fuse, counts -/
structure St where
  pages : List ByteArray
  waits : List (Nat × ByteArray)
  fuse : Int
  reads : Int
  writes : Int
  flushes : Int

/-- where a disk stands: its struct's block, its pages' block and how many have room there, and the slice of its waits -/
structure Ptrs where
  D : Nat
  P : Nat
  cp : Nat
  wv : Value

def Foot (d : Ptrs) (k : Nat) : Prop := k = d.D ∨ k = d.P ∨ d.wv.ownBlock = some k

/-- texts as cells -/
def sv (l : List ByteArray) : List Value := l.map Value.string
/-- writes as cells -/
def wcells (l : List (Nat × ByteArray)) : List Value := l.flatMap fun p => [.int .i64 p.1, .string p.2]
theorem sv_length (l : List ByteArray) : (sv l).length = l.length := by simp [sv]
theorem wcells_length (l : List (Nat × ByteArray)) : (wcells l).length = l.length * 2 := by
  induction l with
  | nil => rfl
  | cons p l ih => simp only [wcells, List.flatMap_cons, List.length_append, List.length_cons, List.length_nil] at ih ⊢; omega

/-- a state as it may be -/
structure Good (s : St) : Prop where
  n1 : 1 ≤ s.pages.length
  n2 : s.pages.length ≤ 1000
  sizes : ∀ p ∈ s.pages, p.size = 256
  wait : ∀ x ∈ s.waits, x.1 < s.pages.length ∧ x.2.size = 256
  few : s.waits.length ≤ 1000000
  fuse : -1 ≤ s.fuse ∧ s.fuse ≤ 9223372036854775807
  reads : 0 ≤ s.reads ∧ s.reads ≤ 1000000
  writes : 0 ≤ s.writes ∧ s.writes ≤ 1000000
  flushes : 0 ≤ s.flushes ∧ s.flushes ≤ 1000000

structure Dsk (w : World) (d : Ptrs) (s : St) : Prop where
  head : w.heap[d.D]? = some (.cells #[.slice (some ⟨d.P, 0, none⟩) s.pages.length d.cp, d.wv, .int .i64 s.fuse, .int .i64 s.reads, .int .i64 s.writes, .int .i64 s.flushes] 60 (0, 0))
  pages : ∃ cur, w.heap[d.P]? = some (.cells cur 9 (0, 0)) ∧ cur.size = d.cp ∧ s.pages.length ≤ d.cp ∧ d.cp ≤ maxLen ∧ cur.toList.take s.pages.length = sv s.pages
  waits : w.ownsRow 0 63 2 d.wv s.waits.length (wcells s.waits)
  dp : d.D ≠ d.P
  dw : d.wv.ownBlock ≠ some d.D
  pw : d.wv.ownBlock ≠ some d.P
  good : Good s

/-- what may have turned: the disk's own blocks, and nothing else that was there -/
structure Only (d : Ptrs) (w w' : World) : Prop where
  os : w'.os = w.os
  tape : w'.tape = w.tape
  output : w'.output = w.output
  size : w.heap.size ≤ w'.heap.size
  block : ∀ k, k < w.heap.size → ¬ Foot d k → w'.heap[k]? = w.heap[k]?
/-- the disk's blocks are those that it had, or new ones -/
def From (d d' : Ptrs) (w : World) : Prop := ∀ k, Foot d' k → Foot d k ∨ w.heap.size ≤ k

theorem Only.refl (d : Ptrs) (w : World) : Only d w w := ⟨rfl, rfl, rfl, Nat.le_refl _, fun _ _ _ => rfl⟩
theorem From.refl (d : Ptrs) (w : World) : From d d w := fun _ h => .inl h
theorem Only.trans {d d' : Ptrs} {w w1 w2 : World} (h : Only d w w1) (hf : From d d' w) (g : Only d' w1 w2) : Only d w w2 :=
  ⟨g.os.trans h.os, g.tape.trans h.tape, g.output.trans h.output, Nat.le_trans h.size g.size, fun k hk hn => by
    have hn' : ¬ Foot d' k := fun hk' => by
      rcases hf k hk' with h1 | h1
      · exact hn h1
      · omega
    rw [g.block k (Nat.lt_of_lt_of_le hk h.size) hn', h.block k hk hn]⟩
theorem From.trans {d d' d2 : Ptrs} {w w1 : World} (h : From d d' w) (g : From d' d2 w1) (hs : w.heap.size ≤ w1.heap.size) : From d d2 w := fun k hk => by
  rcases g k hk with h1 | h1
  · exact h k h1
  · exact .inr (Nat.le_trans hs h1)
theorem Only.below {d : Ptrs} {w w1 : World} (h : Below w.heap.size w w1) : Only d w w1 := ⟨h.os, h.tape, h.output, h.size, fun k hk _ => h.block k hk⟩
theorem Only.to_below {d : Ptrs} {w w1 : World} {N : Nat} (h : Only d w w1) (hN : N ≤ w.heap.size) (hf : ∀ k, Foot d k → N ≤ k) : Below N w w1 :=
  ⟨h.os, h.tape, h.output, h.size, fun k hk => h.block k (Nat.lt_of_lt_of_le hk hN) (fun hk' => by have := hf k hk'; omega)⟩

theorem Dsk.ltD {w : World} {d : Ptrs} {s : St} (h : Dsk w d s) : d.D < w.heap.size := (Array.getElem?_eq_some_iff.1 h.head).1
theorem Dsk.ltP {w : World} {d : Ptrs} {s : St} (h : Dsk w d s) : d.P < w.heap.size := by
  obtain ⟨cur, hc, _⟩ := h.pages; exact (Array.getElem?_eq_some_iff.1 hc).1
theorem Dsk.lt {w : World} {d : Ptrs} {s : St} (h : Dsk w d s) : ∀ k, Foot d k → k < w.heap.size := by
  rintro k (rfl | rfl | hk)
  · exact h.ltD
  · exact h.ltP
  · exact (h.waits.lt k hk).2
/-- what leaves a disk's blocks alone leaves the disk -/
theorem Dsk.kept {w w' : World} {d : Ptrs} {s : St} (h : Dsk w d s) (hb : ∀ k, Foot d k → w'.heap[k]? = w.heap[k]?) : Dsk w' d s := by
  refine ⟨by rw [hb _ (.inl rfl)]; exact h.head, ?_, ?_, h.dp, h.dw, h.pw, h.good⟩
  · rw [hb _ (.inr (.inl rfl))]; exact h.pages
  · refine ⟨h.waits.1, ?_⟩
    rcases h.waits.2 with hn | ⟨g, cap, cur, hv, hb0, hg, rest⟩
    · exact .inl hn
    · refine .inr ⟨g, cap, cur, hv, hb0, ?_, rest⟩
      rw [hb g (.inr (.inr (by rw [hv]; rfl)))]; exact hg
theorem Dsk.below {w w' : World} {d : Ptrs} {s : St} (h : Dsk w d s) (hb : Below w.heap.size w w') : Dsk w' d s := h.kept fun k hk => hb.block k (h.lt k hk)
theorem Dsk.drew {w : World} {d : Ptrs} {s : St} (h : Dsk w d s) : Dsk w.drew d s := ⟨h.head, h.pages, h.waits, h.dp, h.dw, h.pw, h.good⟩
theorem Dsk.drewN {w : World} {d : Ptrs} {s : St} (h : Dsk w d s) (n : Nat) : Dsk (w.drewN n) d s := ⟨h.head, h.pages, h.waits, h.dp, h.dw, h.pw, h.good⟩
theorem Dsk.other {w w' : World} {d d2 : Ptrs} {s : St} (h : Dsk w d s) (ho : Only d2 w w') (hd : ∀ k, Foot d k → ¬ Foot d2 k) : Dsk w' d s :=
  h.kept fun k hk => ho.block k (h.lt k hk) (hd k hk)

/-- the struct's cells -/
theorem Dsk.cells {w : World} {d : Ptrs} {s : St} (h : Dsk w d s) :
    w.cell? ⟨d.D, 0, none⟩ = some (.slice (some ⟨d.P, 0, none⟩) s.pages.length d.cp) ∧ w.cell? ⟨d.D, 1, none⟩ = some d.wv ∧ w.cell? ⟨d.D, 2, none⟩ = some (.int .i64 s.fuse) ∧
    w.cell? ⟨d.D, 3, none⟩ = some (.int .i64 s.reads) ∧ w.cell? ⟨d.D, 4, none⟩ = some (.int .i64 s.writes) ∧ w.cell? ⟨d.D, 5, none⟩ = some (.int .i64 s.flushes) := by
  refine ⟨?_, ?_, ?_, ?_, ?_, ?_⟩ <;> rw [cell_of_row _ _ _ _ _ _ h.head] <;> rfl
theorem Dsk.free {w : World} {d : Ptrs} {s : St} (h : Dsk w d s) (i : Nat) : w.frozen? ⟨d.D, i, none⟩ = false := frozen_of_row _ _ _ _ _ h.head
/-- a page's cell -/
theorem Dsk.page {w : World} {d : Ptrs} {s : St} (h : Dsk w d s) (i : Nat) (hi : i < s.pages.length) : w.cell? ⟨d.P, i, none⟩ = some (.string s.pages[i]) := by
  obtain ⟨cur, hc, _, _, _, ht⟩ := h.pages
  rw [cell_of_row _ _ _ _ _ _ hc]
  have e : (cur.toList.take s.pages.length)[i]? = (sv s.pages)[i]? := by rw [ht]
  rw [List.getElem?_take_of_lt hi] at e
  simp [sv, hi] at e
  simpa using e
theorem Dsk.pfree {w : World} {d : Ptrs} {s : St} (h : Dsk w d s) (i : Nat) : w.frozen? ⟨d.P, i, none⟩ = false := by
  obtain ⟨cur, hc, _⟩ := h.pages
  exact frozen_of_row _ _ _ _ _ hc

/-- a field of the struct is stored -/
theorem Dsk.store {w : World} {d : Ptrs} {s : St} (h : Dsk w d s) (i : Nat) (v : Value) (s' : St) (hp : s'.pages = s.pages) (hw : s'.waits = s.waits) (hg : Good s')
    (hc : (#[.slice (some ⟨d.P, 0, none⟩) s.pages.length d.cp, d.wv, .int .i64 s.fuse, .int .i64 s.reads, .int .i64 s.writes, .int .i64 s.flushes] : Array Value).setIfInBounds i v =
      #[.slice (some ⟨d.P, 0, none⟩) s.pages.length d.cp, d.wv, .int .i64 s'.fuse, .int .i64 s'.reads, .int .i64 s'.writes, .int .i64 s'.flushes]) :
    Dsk (w.setCell ⟨d.D, i, none⟩ v) d s' := by
  have ho : ∀ k, k ≠ d.D → (w.setCell ⟨d.D, i, none⟩ v).heap[k]? = w.heap[k]? := fun k hk => heap_setCell_other _ _ _ _ hk
  refine ⟨?_, ?_, ?_, h.dp, h.dw, h.pw, hg⟩
  · rw [heap_setCell_same _ _ _ _ _ _ h.head, hc, hp]
  · rw [hp, ho _ (Ne.symm h.dp)]; exact h.pages
  · rw [hw]
    refine ⟨h.waits.1, ?_⟩
    rcases h.waits.2 with hn | ⟨g, cap, cur, hv, hb0, hg, rest⟩
    · exact .inl hn
    · refine .inr ⟨g, cap, cur, hv, hb0, ?_, rest⟩
      rw [ho g (fun e => h.dw (by rw [hv, e]; rfl))]; exact hg
theorem Only.store {d : Ptrs} {w w1 : World} (h : Only d w w1) (i : Nat) (v : Value) : Only d w (w1.setCell ⟨d.D, i, none⟩ v) :=
  ⟨h.os, h.tape, h.output, by rw [World.size_setCell]; exact h.size, fun k hk hn => by rw [heap_setCell_other _ _ _ _ (fun e => hn (.inl e)), h.block k hk hn]⟩
end Go.Proofs.Ytjjplkfgihogkaa.Dk
