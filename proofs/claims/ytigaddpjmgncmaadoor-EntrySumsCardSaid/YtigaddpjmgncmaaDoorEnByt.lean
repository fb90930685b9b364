/- A block of bytes of the call's own: what it holds, and how it turns when one byte is stored; a text turned into such a block and back. -/
import Derived.Test.YtigaddpjmgncmaaDoorEnLiv2
import Derived.Laws.IdiomStrings
import Derived.RegionTactic
namespace Go.Proofs.YtigaddpjmgncmaaDoor.En
open Go.RowKit
open Go.Lib

/-- block B holds the bytes l, and each may be written -/
structure Bytes (w : World) (B : Nat) (l : List UInt8) : Prop where
  cell : ∀ i (h : i < l.length), w.cell? ⟨B, i, none⟩ = some (.int .u8 (l[i].toNat : Int))
  free : ∀ i, i < l.length → w.frozen? ⟨B, i, none⟩ = false
  lt : B < w.heap.size

theorem Bytes.set {w : World} {B : Nat} {l : List UInt8} (h : Bytes w B l) (q : Nat) (hq : q < l.length) (v : UInt8) :
    Bytes (w.setCell ⟨B, q, none⟩ (.int .u8 (v.toNat : Int))) B (l.set q v) := by
  refine ⟨fun i hi => ?_, fun i hi => ?_, by rw [World.size_setCell]; exact h.lt⟩
  · have hi' : i < l.length := by simpa using hi
    by_cases e : q = i
    · subst e
      rw [World.cell?_setCell_same' _ _ _ (by rw [h.cell q hq]; rfl)]
      simp
    · rw [World.cell?_setCell_other _ _ _ _ (by intro e2; apply e; injection e2), h.cell i hi']
      simp [e]
  · have hi' : i < l.length := by simpa using hi
    rw [World.frozen?_setCell]; exact h.free i hi'

theorem Bytes.below {w w' : World} {B : Nat} {l : List UInt8} (h : Bytes w B l) (hb : Below w.heap.size w w') : Bytes w' B l :=
  ⟨fun i hi => by rw [hb.cell (p := ⟨B, i, none⟩) h.lt]; exact h.cell i hi, fun i hi => by rw [hb.frozen (p := ⟨B, i, none⟩) h.lt]; exact h.free i hi, Nat.lt_of_lt_of_le h.lt hb.size⟩

theorem bytes_made (w : World) (s : ByteArray) (c : Nat) (fr : Nat × Nat) (hfr : fr.1 ≥ s.size) :
    Bytes (w.alloc (.cells (bytesRow s c) 5 fr)) w.heap.size s.data.toList := by
  refine ⟨fun i hi => ?_, fun i hi => ?_, by simp⟩
  · have hi' : i < s.data.size := by simpa using hi
    rw [cell_of_row _ _ _ _ _ _ (heap_alloc_new _ _), bytesRow_at s c i hi']
    simp
  · have e : s.data.toList.length = s.size := by simp
    obtain ⟨lo, hi2⟩ := fr
    have hfr' : s.size ≤ lo := hfr
    simp only [World.frozen?, heap_alloc_new]
    have : ¬ lo ≤ i := by omega
    simp [this]

theorem bytes_conv (s : ByteArray) (w : World) :
    (convert 9 48 (.string s)).run Tryd.prog w = .ok (.slice (some ⟨w.heap.size, 0, none⟩) s.size (grownCap w s.size 0 5))
      (w.drew.alloc (.cells (bytesRow s (grownCap w s.size 0 5)) 5 ((bytesRow s (grownCap w s.size 0 5)).size, (bytesRow s (grownCap w s.size 0 5)).size + 1))) :=
  run_bytes_of_string w 9 48 5 s Tryd.underlying9 Tryd.underlying48 Tryd.underlying5

theorem bytes_back {w : World} {B : Nat} {l : List UInt8} (h : Bytes w B l) (n c : Nat) (hn : l.length = n) :
    (convert 48 9 (.slice (some ⟨B, 0, none⟩) n c)).run Tryd.prog w = .ok (.string ⟨l.toArray⟩) w := by
  subst hn
  refine run_convert_bytes_back (P := Tryd.prog) w 48 9 5 ⟨B, 0, none⟩ c l Tryd.underlying48 Tryd.underlying5 Tryd.underlying9 (fun j hj => ?_)
  have hadd : (⟨B, 0, none⟩ : Addr).add j = ⟨B, j, none⟩ := by unfold Addr.add; split <;> simp_all
  rw [hadd]; exact h.cell j hj
end Go.Proofs.YtigaddpjmgncmaaDoor.En
