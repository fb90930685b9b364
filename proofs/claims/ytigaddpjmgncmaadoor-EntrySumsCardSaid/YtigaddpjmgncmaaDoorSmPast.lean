/- The call of sum32 that goes on with so many bytes 0: by squaring it comes to what one byte after the other makes. -/
import Derived.Test.YtigaddpjmgncmaaDoorSmMatrix
namespace Go.Proofs.YtigaddpjmgncmaaDoor.Sm
open Go.RowKit
open Go.Lib

theorem wpList_store_whole {P : Program} {ops : Array Oper} {rest : List Oper} {o : Oper} {a : Act} {w : World} {Q : Exit → Act → World → Prop} (hgd : o.guard = none) (ty : TypeId) (x y : Operand) (ho : o.op = .store ty x y) (hd : o.dst = none)
    (g : Nat) (cells : Array Value) (hx : a.eval x = .pointer (some ⟨g, 0, none⟩)) (hy : a.eval y = .agg cells)
    (t : TypeId) (old : Array Value) (hg : w.heap[g]? = some (.cells old t (0, 0))) (hi : (P.info? ty).map (·.size) = some cells.size)
    (hold : old.size = cells.size) (h1 : cells.all (·.oneCell') = true)
    (h : wpList P ops Q rest a (w.setRow g cells)) : wpList P ops Q (o :: rest) a w :=
  wpList_store_row hgd ty x y ho g cells hx hy t old hg hi hold h1 (by rw [hd]; exact h)

theorem thr_half_odd (pw k : Nat) (b : B32) (h : k % 2 = 1) : thr (2 * pw * (k / 2)) (thr pw b) = thr (pw * k) b := by
  rw [← thr_add]
  congr 1
  have : k = 2 * (k / 2) + 1 := by omega
  rw [show pw * k = pw * (2 * (k / 2) + 1) by rw [← this], Nat.mul_add, Nat.mul_one, ← Nat.mul_assoc, Nat.mul_comm pw 2]
  omega
theorem thr_half_even (pw k : Nat) (b : B32) (h : ¬ k % 2 = 1) : thr (2 * pw * (k / 2)) b = thr (pw * k) b := by
  congr 1
  have : k = 2 * (k / 2) := by omega
  rw [show pw * k = pw * (2 * (k / 2)) by rw [← this], ← Nat.mul_assoc, Nat.mul_comm pw 2]

end Go.Proofs.YtigaddpjmgncmaaDoor.Sm
