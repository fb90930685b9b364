/- What the walk of DiskAll needs. -/
import Derived.Test.YtlkejjclmamlaaaDkOpen
import Derived.Test.YtlkejjclmamlaaaDkView
import Derived.Test.YtlkejjclmamlaaaDkSame
import Derived.Deep.RegionHeld3
import Derived.Deep.AppendLies
namespace Go.Proofs.Ytlkejjclmamlaaa
open Go.RowKit
open Go.Lib (hid)
open Go.ChangeShapes Go.WideShapes Go.Joins
open Go.Proofs.Ytlkejjclmamlaaa.Dk

/-- the block of a slice -/
def Of (v : Value) (k : Nat) : Prop := v.ownBlock = some k
theorem l2_app {w wr w2 : World} {A B : Nat} {s t : St} {v v' : Value} {xs : List Value} {n : Nat} {o : Obj} (h : L2 w wr (Of v) A s B t) (ho : wr.ownsRow w.heap.size 3 1 v n xs) (hg : (wr.alloc o).grownBy w2 v.ownBlock)
    (hat : v'.ownBlock = v.ownBlock ∨ v'.ownBlock = some (wr.heap.size + 1)) (hlt : ∀ k, v'.ownBlock = some k → k < w2.heap.size) : L2 w w2 (Of v') A s B t := by
  obtain ⟨a, b, h1, h2, h3, h4, h5, h6, h7, h8, h9⟩ := h.ex
  have keep : ∀ k, k < wr.heap.size → ¬ Of v k → w2.heap[k]? = wr.heap[k]? := fun k hk hn => by
    rw [hg.block k (by simp; omega) (fun e => hn e.symm), Below.heap_alloc _ _ _ hk]
  refine ⟨⟨a, b, h1, h2, h3.kept fun k hk => keep k (h3.lt k hk) (fun hv => h8 k hv hk), h4.kept fun k hk => keep k (h4.lt k hk) (fun hv => h9 k hv hk), h5, h6, h7, fun k hk hf => ?_, fun k hk hf => ?_⟩,
    (h.below.alloc h.below.size o).grown hg (by have := h.below.size; simp; omega) (fun k hk => (ho.lt k hk).1), hlt⟩
  · rcases hat with e | e
    · exact h8 k (show Of v k from by unfold Of; rw [← e]; exact hk) hf
    · have : wr.heap.size + 1 = k := by have := e.symm.trans hk; injection this
      have := h3.lt k hf; omega
  · rcases hat with e | e
    · exact h9 k (show Of v k from by unfold Of; rw [← e]; exact hk) hf
    · have : wr.heap.size + 1 = k := by have := e.symm.trans hk; injection this
      have := h4.lt k hf; omega
/-- what is written: the pages stay, and a few wait -/
structure MidA (s : St) (pages : List ByteArray) (k : Nat) : Prop where
  pages : s.pages = pages
  fuse : s.fuse = -1
  waits : s.waits.length ≤ k
  writes : s.writes ≤ k
  flushes : s.flushes = 0
theorem MidA.write {s : St} {pages : List ByteArray} {k : Nat} (h : MidA s pages k) (n : Nat) (t : ByteArray) : MidA (writeS s n t) pages (k + 1) := by
  have h3 := h.waits
  have h4 := h.writes
  refine ⟨h.pages, ?_, by simp [writeS, burnS, countW, pushS]; omega, by show s.writes + 1 ≤ _; omega, h.flushes⟩
  show burnI s.fuse = -1
  rw [h.fuse]; rfl
theorem MidA.skip {s : St} {pages : List ByteArray} {k : Nat} (h : MidA s pages k) : MidA s pages (k + 1) :=
  ⟨h.pages, h.fuse, by have := h.waits; omega, by have := h.writes; omega, h.flushes⟩
theorem mid_new (p : Nat) : MidA (newS (blanks p)) (blanks p) 0 := ⟨rfl, rfl, Nat.le_refl _, Int.le_refl _, rfl⟩
theorem waits_write (s : St) (n : Nat) (t : ByteArray) : (writeS s n t).waits.length = s.waits.length + 1 := by simp [writeS, burnS, countW, pushS]
theorem iv_upTo (n : Nat) : iv (upTo n) ++ [.int .i64 (n : Int)] = iv (upTo (n + 1)) := by rw [← upTo_snoc]; simp [iv]
/-- 'kept' as a crash reads it -/
theorem kept_own {w wr : World} {v : Value} {n : Nat} (h : wr.ownsRow w.heap.size 3 1 v n (iv (upTo n))) : ∃ q c, v = .slice q (upTo n).length c ∧ Dk.Kept wr q (upTo n) := by
  rcases h.2 with ⟨rfl, rfl⟩ | ⟨g, cap, cur, rfl, _, hh, _, _, _, ht⟩
  · exact ⟨none, 0, rfl, fun j hj => absurd hj (by simp [upTo])⟩
  · refine ⟨_, cap, by rw [upTo_length], fun j hj => ⟨g, 0, rfl, (Array.getElem?_eq_some_iff.1 hh).1, ?_⟩⟩
    rw [cell_of_row _ _ _ _ _ _ hh, Nat.zero_add]
    have hj' : j < n := by rw [upTo_length] at hj; exact hj
    have h1 : (iv (upTo n))[j]? = some (.int .i64 (upTo n)[j]) := by simp [iv, hj]
    rw [← ht, List.getElem?_take, if_pos (by omega)] at h1
    simpa using h1
/-- the loop's relation -/
def AR (w : World) (p m A B : Nat) (kv iv' : Value) (wr : World) : Prop :=
  ∃ (k : Nat) (s : St), k ≤ m ∧ iv' = .int .i64 k ∧ MidA s (blanks p) k ∧ wr.ownsRow w.heap.size 3 1 kv s.waits.length (iv (upTo s.waits.length)) ∧ L2 w wr (Of kv) A s B s
theorem l2_none {w wr : World} {A B : Nat} {s t : St} (h : L2 w wr (fun _ => False) A s B t) : L2 w wr (Of (.slice none 0 0)) A s B t := by
  obtain ⟨a, b, h1, h2, h3, h4, h5, h6, h7, h8, h9⟩ := h.ex
  exact ⟨⟨a, b, h1, h2, h3, h4, h5, h6, h7, fun k (hk : Of _ k) => by simp [Of, Value.ownBlock] at hk, fun k (hk : Of _ k) => by simp [Of, Value.ownBlock] at hk⟩, h.below, fun k (hk : Of _ k) => by simp [Of, Value.ownBlock] at hk⟩
theorem info3 : (Try.prog.info? 3).map (fun i => (i.zero, i.size, i.bytes)) = some (some (.int .i64 0), 1, 8) := by kernel_rfl
end Go.Proofs.Ytlkejjclmamlaaa
