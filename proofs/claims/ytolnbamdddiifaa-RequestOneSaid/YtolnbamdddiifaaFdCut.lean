/- New and cut of package field, and New of the document's answer: what each returns, whatever it is called with. -/
import Derived.Test.YtolnbamdddiifaaFdBase
namespace Go.Proofs.Ytolnbamdddiifaa.Fd
open Go.RowKit
open Go.Lib

/-- the world behind a New of n bytes -/
def madeArea (T : TypeId) (n : Nat) (w : World) : World :=
  (w.alloc (.cells (Array.replicate n (.int .u8 0)) 5)).alloc (.cells #[.slice (some ⟨w.heap.size, 0, none⟩) n n] T)

theorem madeArea_area (T : TypeId) (n : Nat) (w : World) (hn : n ≤ 4096) : Area T (madeArea T n w) (w.heap.size + 1) w.heap.size (List.replicate n 0) := by
  refine ⟨?_, ?_, by omega, by simpa using hn⟩
  · unfold madeArea; rw [heap_alloc2_new]; simp
  · unfold madeArea Row; rw [heap_alloc2_old, rowOf_zeros]
theorem madeArea_below (T : TypeId) (n : Nat) (w : World) : Below w.heap.size w (madeArea T n w) :=
  ((Below.refl _ _).alloc (Nat.le_refl _) _).alloc (by simp) _
theorem madeArea_size (T : TypeId) (n : Nat) (w : World) : (madeArea T n w).heap.size = w.heap.size + 2 := by simp [madeArea]

/-- where a cut begins: of no bytes at the block's head -/
def cutAt (o n : Nat) : Nat := if n = 0 then 0 else o

end Go.Proofs.Ytolnbamdddiifaa.Fd
