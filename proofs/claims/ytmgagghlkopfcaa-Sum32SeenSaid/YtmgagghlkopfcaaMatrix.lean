/- The matrices of sum32: what the steps of a byte make of each bit, what they make of a word, and twice as many steps. -/
import Derived.Test.YtmgagghlkopfcaaSteps
import Derived.Laws.CopyOwn
namespace Go.Proofs.Ytmgagghlkopfcaa
open Go.RowKit
open Go.Lib
theorem info42 : (Try.prog.info? 42).map (fun i => (i.zero, i.size)) = some (some (.agg (Array.replicate 32 (.int .u32 0))), 32) := by kernel_rfl
theorem size42 : (Try.prog.info? 42).map (·.size) = some 32 := (zero_of_info (P := Try.prog) info42).2
theorem info22 : (Try.prog.info? 22).map (·.size) = some 1 := by kernel_rfl
theorem index_run (f : B32 → B32) (k : Nat) (h : k < 32) (w : World) :
    (Instr.index 42 (.agg (mtx f)) (.int .i64 k)).run Try.prog w = .ok (.int .u32 (U (f (1#32 <<< k)))) w := by
  have hs : (sizeOf 22).run Try.prog w = .ok 1 w := by
    cases hq : Try.prog.info? 22 with
    | none => have := info22; simp [hq] at this
    | some i => have := info22; simp [hq] at this; simp [sizeOf, typeInfo, hq, this]
  have ha : (isAgg 22).run Try.prog w = .ok false w := by
    unfold isAgg; rw [Sem.run_bind, run_underlying Try.underlying22 w]; rfl
  unfold Instr.index
  simp only [asIntOf, Sem.run_bind, Sem.run_pure, Result.andThen_ok]
  rw [run_underlying Try.underlying42 w]
  simp only [Result.andThen_ok]
  rw [if_pos (by omega)]
  simp only [Sem.run_bind, hs, Result.andThen_ok, part, ha]
  simp [mtx_at f k h]

set_option maxHeartbeats 400000 in
theorem of_any (f : B32 → B32) (hf : Lin f) (n : B32) (w : World) :
    Calls Try.prog 24 #[.agg (mtx f), .int .u32 (U n)] w fun e w' => e = .returned (.int .u32 (U (f n))) ∧ Below w.heap.size w w' := by
  have HF := hid hf; clear hf
  go_enter Try.func24, Try.ntmps24
  go_wp2_with (with_reducible refine wpList_load_row rfl 42 (.tmp 2) rfl w.heap.size rfl 42 (mtx f) (0,0) _ (heap_alloc_new _ _) Try.underlying42 rfl (by rw [size42, mtx_size]) ?_)
  go_loop [5, 9, 6, 7] (fun x i _ _ => ∃ k : Nat, k ≤ 32 ∧ i = .int .i64 k ∧ x = .int .u32 (U (f (low n k)))) (fun _ i _ _ => 32 - (intOf i).toNat)
  case atStart => exact ⟨0, by omega, rfl, by rw [low_none, HF.out.zero]; rfl⟩
  case round =>
    obtain ⟨k, hk, rfl, rfl⟩ := hrel
    by_cases hlt : k < 32
    · have hidx := index_run f k hlt
      go_wp2_with fail
      go_round
      case rel => exact ⟨k + 1, by omega, by go_num, by rw [bit_mul, U_xor, lin_low HF.out n k hlt]⟩
      case measure => simp [intOf]; omega
    · obtain rfl : k = 32 := by omega
      go_wp2
      go_ret
      exact ⟨ret_u32 (by rw [low_all]), (Below.refl _ _).alloc (Nat.le_refl _) _⟩

theorem zero42 (w : World) : (zeroValue 42).run Try.prog w = .ok (.agg (Array.replicate 32 (.int .u32 0))) w := (zero_of_info (P := Try.prog) info42).1 w

set_option maxHeartbeats 400000 in
theorem oneByte_any (w : World) :
    Calls Try.prog 23 #[] w fun e w' => e = .returned (.agg (mtx (thr 1))) ∧ Below w.heap.size w w' := by
  have hz := zero42
  go_enter Try.func23, Try.ntmps23
  go_wp2_with fail
  clear hz
  go_loopw [2, 3] (fun _ i wr => ∃ k : Nat, k ≤ 32 ∧ i = .int .i64 k ∧ wr = (w.alloc (.cells (Array.replicate 32 (.int .u32 0)) 42)).alloc (.cells (mtxTo (thr 1) k) 42)) (fun _ i _ => 32 - (intOf i).toNat)
  case atStart => exact ⟨0, by omega, rfl, by rw [mtxTo_zero]⟩
  case round =>
    obtain ⟨k, hk, rfl, rfl⟩ := hrel
    by_cases hlt : k < 32
    · have hsz := mtxTo_size (thr 1) k
      go_wp2_with (go_at_call 22; refine (eight_at _ _ _ (shl_one k hlt)).mono ?_; rintro e w' ⟨rfl, rfl⟩)
      go_roundw
      case rel => exact ⟨k + 1, by omega, by go_num, by rw [mtxTo_set]⟩
      case measure => simp [intOf]; omega
    · obtain rfl : k = 32 := by omega
      rw [mtxTo_full]
      go_wp2_with (first
        | (with_reducible refine wpList_load_row rfl 42 (.tmp 1) rfl (w.heap.size + 1) rfl 42 (mtx (thr 1)) (0,0) _ (heap_alloc2_new _ _ _) Try.underlying42 rfl (by rw [size42, mtx_size]) ?_)
        | (with_reducible refine wpList_store_row rfl 42 (.tmp 0) (.tmp 12) rfl w.heap.size (mtx (thr 1)) rfl rfl 42 _ (heap_alloc2_old _ _ _) (by rw [size42, mtx_size]) (by simp [mtx_size]) (mtx_cells _) ?_))
      refine bodyPost_ret (v := .agg (mtx (thr 1))) (results_cell_row rfl _ _ w.heap.size 42 (mtx (thr 1)) (0, 0) _ rfl (setRow_heap _ _ _ _ 42 (0, 0) (heap_alloc2_old _ _ _)) Try.underlying42 rfl (by rw [size42, mtx_size])) rfl ⟨rfl, ?_⟩
      exact below_setRow (((Below.refl _ _).alloc (Nat.le_refl _) _).alloc (by simp) _) (Nat.le_refl _) _

theorem heap_alloc3_new (w : World) (A B C : Obj) : (((w.alloc A).alloc B).alloc C).heap[w.heap.size + 1 + 1]? = some C := by
  have h := heap_alloc_new ((w.alloc A).alloc B) C
  have e : ((w.alloc A).alloc B).heap.size = w.heap.size + 1 + 1 := by simp
  rwa [e] at h
theorem heap_alloc3_mid (w : World) (A B C : Obj) : (((w.alloc A).alloc B).alloc C).heap[w.heap.size + 1]? = some B := by
  rw [Below.heap_alloc ((w.alloc A).alloc B) C (w.heap.size + 1) (by simp)]; exact heap_alloc2_new w A B
theorem heap_alloc3_old (w : World) (A B C : Obj) : (((w.alloc A).alloc B).alloc C).heap[w.heap.size]? = some A := by
  rw [Below.heap_alloc ((w.alloc A).alloc B) C w.heap.size (by simp; omega)]; exact heap_alloc2_old w A B

/-- what a call of 'twice' has laid behind k rounds -/
structure Twice (f : B32 → B32) (w : World) (k : Nat) (wr : World) : Prop where
  below : Below w.heap.size w wr
  size : w.heap.size + 2 < wr.heap.size
  m : wr.heap[w.heap.size]? = some (.cells (mtx f) 42 (0, 0))
  res : wr.heap[w.heap.size + 1]? = some (.cells (Array.replicate 32 (.int .u32 0)) 42 (0, 0))
  out : wr.heap[w.heap.size + 1 + 1]? = some (.cells (mtxTo (fun n => f (f n)) k) 42 (0, 0))

theorem Twice.more {f : B32 → B32} {w : World} {k : Nat} {wr w1 : World} (h : Twice f w k wr) (hb : Below wr.heap.size wr w1) :
    Twice f w (k + 1) (w1.setCell ⟨w.heap.size + 1 + 1, k, none⟩ (.int .u32 (U (f (f (1#32 <<< k)))))) := by
  have hs := h.size
  have hs1 := hb.size
  refine ⟨(h.below.trans (hb.mono (by omega))).setCell (by show w.heap.size ≤ w.heap.size + 1 + 1; omega) _, by rw [World.size_setCell]; omega, ?_, ?_, ?_⟩
  · rw [heap_setCell_other _ _ _ _ (by simp; omega), hb.block _ (by omega)]; exact h.m
  · rw [heap_setCell_other _ _ _ _ (by simp), hb.block _ (by omega)]; exact h.res
  · have h2 := h.out
    rw [← hb.block _ (by omega)] at h2
    rw [heap_setCell_same _ _ _ _ _ _ h2, mtxTo_set (fun n => f (f n))]

theorem Twice.cell {f : B32 → B32} {w : World} {k : Nat} {wr w1 : World} (h : Twice f w k wr) (hb : Below wr.heap.size wr w1) (hk : k < 32) :
    w1.cell? ⟨w.heap.size + 1 + 1, k, none⟩ = some (.int .u32 0) ∧ w1.frozen? ⟨w.heap.size + 1 + 1, k, none⟩ = false := by
  have hs := h.size
  have h2 := h.out
  rw [← hb.block _ (by omega)] at h2
  refine ⟨?_, frozen_of_row _ _ _ _ _ h2⟩
  rw [cell_of_row _ _ _ _ _ _ h2]
  simp [mtxTo, hk]

set_option maxHeartbeats 400000 in
theorem twice_any (f : B32 → B32) (hf : Lin f) (w : World) :
    Calls Try.prog 25 #[.agg (mtx f)] w fun e w' => e = .returned (.agg (mtx fun n => f (f n))) ∧ Below w.heap.size w w' := by
  have hz := zero42
  have HF := hid hf; clear hf
  go_enter Try.func25, Try.ntmps25
  go_wp2_with (with_reducible refine wpList_load_row rfl 42 (.tmp 1) rfl w.heap.size rfl 42 (mtx f) (0,0) _ (heap_alloc3_old _ _ _ _) Try.underlying42 rfl (by rw [size42, mtx_size]) ?_)
  clear hz
  go_loopw [4, 5, 7] (fun _ _ i wr => ∃ k : Nat, k ≤ 32 ∧ i = .int .i64 k ∧ Twice f w k wr) (fun _ _ i _ => 32 - (intOf i).toNat)
  case atStart => exact ⟨0, by omega, rfl, ((((Below.refl _ _).alloc (Nat.le_refl _) _).alloc (by simp) _).alloc (by simp; omega) _), by simp, heap_alloc3_old _ _ _ _, heap_alloc3_mid _ _ _ _, by rw [mtxTo_zero]; exact heap_alloc3_new _ _ _ _⟩
  case round =>
    obtain ⟨k, hk, rfl, hT⟩ := hrel
    have HT := hid hT; clear hT
    by_cases hlt : k < 32
    · have hidx := index_run f k hlt
      go_wp2_with (first
        | (with_reducible refine wpList_load_row rfl 42 (.tmp 1) rfl w.heap.size rfl 42 (mtx f) (0,0) _ HT.out.m Try.underlying42 rfl (by rw [size42, mtx_size]) ?_)
        | (go_at_call 24; refine (of_any f HF.out _ _).mono ?_; rintro e w1 ⟨rfl, hb⟩; obtain ⟨hc, hfz⟩ := HT.out.cell hb hlt; have HB := hid hb; clear hb))
      clear hc hfz
      go_roundw
      case rel => exact ⟨k + 1, by omega, by go_num, HT.out.more HB.out⟩
      case measure => simp [intOf]; omega
    · obtain rfl : k = 32 := by omega
      go_wp2_with (first
        | (with_reducible refine wpList_load_row rfl 42 (.tmp 3) rfl (w.heap.size + 1 + 1) rfl 42 (mtx fun n => f (f n)) (0,0) _ (by rw [HT.out.out, mtxTo_full]) Try.underlying42 rfl (by rw [size42, mtx_size]) ?_)
        | (with_reducible refine wpList_store_row rfl 42 (.tmp 2) (.tmp 17) rfl (w.heap.size + 1) (mtx fun n => f (f n)) rfl rfl 42 _ HT.out.res (by rw [size42, mtx_size]) (by simp [mtx_size]) (mtx_cells _) ?_))
      refine bodyPost_ret (v := .agg (mtx fun n => f (f n))) (results_cell_row rfl _ _ (w.heap.size + 1) 42 (mtx fun n => f (f n)) (0, 0) _ rfl (setRow_heap _ _ _ _ 42 (0, 0) HT.out.res) Try.underlying42 rfl (by rw [size42, mtx_size])) rfl ⟨rfl, ?_⟩
      exact below_setRow HT.out.below (Nat.le_succ _) _
end Go.Proofs.Ytmgagghlkopfcaa
