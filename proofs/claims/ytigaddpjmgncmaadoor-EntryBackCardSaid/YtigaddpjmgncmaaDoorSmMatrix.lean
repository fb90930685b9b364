/- The matrices of sum32: what the steps of a byte make of each bit, what they make of a word, and twice as many steps. -/
import Derived.Test.YtigaddpjmgncmaaDoorSmSteps
import Derived.Laws.CopyOwn
namespace Go.Proofs.YtigaddpjmgncmaaDoor.Sm
open Go.RowKit
open Go.Lib
theorem info22 : (Tryd.prog.info? 24).map (·.size) = some 1 := by kernel_rfl
theorem heap_alloc3_new (w : World) (A B C : Obj) : (((w.alloc A).alloc B).alloc C).heap[w.heap.size + 1 + 1]? = some C := by
  have h := heap_alloc_new ((w.alloc A).alloc B) C
  have e : ((w.alloc A).alloc B).heap.size = w.heap.size + 1 + 1 := by simp
  rwa [e] at h
theorem heap_alloc3_mid (w : World) (A B C : Obj) : (((w.alloc A).alloc B).alloc C).heap[w.heap.size + 1]? = some B := by
  rw [Below.heap_alloc ((w.alloc A).alloc B) C (w.heap.size + 1) (by simp)]; exact heap_alloc2_new w A B
theorem heap_alloc3_old (w : World) (A B C : Obj) : (((w.alloc A).alloc B).alloc C).heap[w.heap.size]? = some A := by
  rw [Below.heap_alloc ((w.alloc A).alloc B) C w.heap.size (by simp; omega)]; exact heap_alloc2_old w A B

end Go.Proofs.YtigaddpjmgncmaaDoor.Sm
