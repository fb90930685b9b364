/- The call of sum32 that goes on with so many bytes 0: by squaring it comes to what one byte after the other makes. -/
import Derived.Test.YtmgagghlkopfcaaMatrix
namespace Go.Proofs.Ytmgagghlkopfcaa
open Go.RowKit
open Go.Lib

theorem wpList_store_whole {P : Program} {ops : Array Oper} {rest : List Oper} {o : Oper} {a : Act} {w : World} {Q : Exit → Act → World → Prop} (hgd : o.guard = none) (ty : TypeId) (x y : Operand) (ho : o.op = .store ty x y) (hd : o.dst = none)
    (g : Nat) (cells : Array Value) (hx : a.eval x = .pointer (some ⟨g, 0, none⟩)) (hy : a.eval y = .agg cells)
    (t : TypeId) (old : Array Value) (hg : w.heap[g]? = some (.cells old t (0, 0))) (hi : (P.info? ty).map (·.size) = some cells.size)
    (hold : old.size = cells.size) (h1 : cells.all (·.oneCell') = true)
    (h : wpList P ops Q rest a (w.setRow g cells)) : wpList P ops Q (o :: rest) a w :=
  wpList_store_row hgd ty x y ho g cells hx hy t old hg hi hold h1 (by rw [hd]; exact h)

/-- what a call of 'past' has laid: a block with the matrix of so many bytes -/
structure Past (w : World) (B pw : Nat) (wr : World) : Prop where
  below : Below w.heap.size w wr
  lo : w.heap.size ≤ B
  hi : B < wr.heap.size
  m : wr.heap[B]? = some (.cells (mtx (thr pw)) 42 (0, 0))

theorem Past.later {w : World} {B pw : Nat} {wr w1 : World} (h : Past w B pw wr) (hb : Below wr.heap.size wr w1) : Past w B pw w1 :=
  ⟨h.below.trans (hb.mono h.below.size), h.lo, Nat.lt_of_lt_of_le h.hi hb.size, by rw [hb.block _ h.hi]; exact h.m⟩
theorem Past.more {w : World} {B pw : Nat} {wr : World} (h : Past w B pw wr) : Past w B (2 * pw) (wr.setRow B (mtx fun n => thr pw (thr pw n))) := by
  have e : (fun n => thr pw (thr pw n)) = thr (2 * pw) := by
    funext n; rw [show 2 * pw = pw + pw by omega, thr_add]
  rw [e]
  exact ⟨below_setRow h.below h.lo _, h.lo, by rw [size_setRow]; exact h.hi, setRow_heap _ _ _ _ _ _ h.m⟩

theorem thr_half_odd (pw k : Nat) (b : B32) (h : k % 2 = 1) : thr (2 * pw * (k / 2)) (thr pw b) = thr (pw * k) b := by
  rw [← thr_add]
  congr 1
  have : k = 2 * (k / 2) + 1 := by omega
  rw [show pw * k = pw * (2 * (k / 2) + 1) by rw [← this], Nat.mul_add, Nat.mul_one, ← Nat.mul_assoc, Nat.mul_comm pw 2]
  omega
theorem thr_half_even (pw k : Nat) (b : B32) (h : ¬ k % 2 = 1) : thr (2 * pw * (k / 2)) b = thr (pw * k) b := by
  congr 1
  have : k = 2 * (k / 2) := by omega
  rw [show pw * k = pw * (2 * (k / 2)) by rw [← this], ← Nat.mul_assoc, Nat.mul_comm pw 2]

set_option maxHeartbeats 800000 in
theorem past_any (a : B32) (n : Int) (w : World) (h0 : n ≤ 9223372036854775807) :
    Calls Try.prog 20 #[.int .u32 (U a), .int .i64 n] w fun e w' => e = .returned (.int .u32 (U (thr n.toNat a))) ∧ Below w.heap.size w w' := by
  have hz := zero42
  go_enter Try.func20, Try.ntmps20
  go_wp2_with (first
    | (go_at_call 23; refine (oneByte_any _).mono ?_; rintro e w1 ⟨rfl, hb⟩; have HB := hid hb; clear hb)
    | (with_reducible refine wpList_store_whole rfl 42 (.tmp 5) (.tmp 6) rfl rfl w1.heap.size (mtx (thr 1)) rfl rfl 42 _ (heap_alloc_new _ _) (by rw [size42, mtx_size]) (by simp [mtx_size]) (mtx_cells _) ?_; rw [World.setRow_alloc_new]))
  clear hz
  have hP : Past w w1.heap.size 1 (w1.alloc (.cells (mtx (thr 1)) 42)) := ⟨HB.out.alloc HB.out.size _, HB.out.size, by simp, heap_alloc_new _ _⟩
  generalize w1.heap.size = B at *
  generalize w1.alloc (.cells (mtx (thr 1)) 42) = w2 at *
  clear HB
  have HP := hid hP; clear hP
  go_loopw [0, 1] (fun x i wr => ∃ (z : Int) (pw : Nat) (b : B32), z ≤ 9223372036854775807 ∧ i = .int .i64 z ∧ x = .int .u32 (U b) ∧ thr (pw * z.toNat) b = thr n.toNat a ∧ Past w B pw wr) (fun _ i _ => (intOf i).toNat)
  case atStart => exact ⟨n, 1, a, h0, rfl, rfl, by rw [Nat.one_mul], HP.out⟩
  case round =>
    clear HP
    obtain ⟨z, pw, b, hk, rfl, rfl, hth, hP⟩ := hrel
    have HP := hid hP; clear hP
    have HT := hid hth; clear hth
    by_cases hlt : 0 < z
    · obtain ⟨k, rfl⟩ := Int.eq_ofNat_of_zero_le (show 0 ≤ z by omega)
      by_cases ho : k % 2 = 1
      · have hodd : (bits .and .i64 (k : Int) 1 == 1) = true := by rw [odd_i64 k (by omega)]; simpa using ho
        have HO := hid ho; clear ho
        go_wp2_with (first
          | (with_reducible refine wpList_load_row rfl 42 (.tmp 5) rfl B rfl 42 (mtx (thr pw)) (0,0) _ HP.out.m Try.underlying42 rfl (by rw [size42, mtx_size]) ?_)
          | (go_at_call 24; refine (of_any (thr pw) (lin_thr pw) _ _).mono ?_; rintro e w3 ⟨rfl, hb⟩; have HP1 := hid (HP.out.later hb); clear hb)
          | (with_reducible refine wpList_load_row rfl 42 (.tmp 5) rfl B rfl 42 (mtx (thr pw)) (0,0) _ HP1.out.m Try.underlying42 rfl (by rw [size42, mtx_size]) ?_)
          | (go_at_call 25; refine (twice_any (thr pw) (lin_thr pw) _).mono ?_; rintro e w4 ⟨rfl, hb⟩; have HP2 := hid (HP1.out.later hb); clear hb)
          | (with_reducible refine wpList_store_whole rfl 42 (.tmp 5) (.tmp 18) rfl rfl B (mtx fun n => thr pw (thr pw n)) rfl rfl 42 _ HP2.out.m (by rw [size42, mtx_size]) (by simp [mtx_size]) (mtx_cells _) ?_))
        go_roundw
        case rel =>
          refine ⟨_, 2 * pw, _, ?_, rfl, rfl, ?_, HP2.out.more⟩
          · omega
          · rw [← HT.out]; exact thr_half_odd pw k b HO.out
        case measure => simp [intOf]; omega
      · have hodd : (bits .and .i64 (k : Int) 1 == 1) = false := by rw [odd_i64 k (by omega)]; simpa using ho
        have HO := hid ho; clear ho
        go_wp2_with (first
          | (with_reducible refine wpList_load_row rfl 42 (.tmp 5) rfl B rfl 42 (mtx (thr pw)) (0,0) _ HP.out.m Try.underlying42 rfl (by rw [size42, mtx_size]) ?_)
          | (go_at_call 25; refine (twice_any (thr pw) (lin_thr pw) _).mono ?_; rintro e w4 ⟨rfl, hb⟩; have HP2 := hid (HP.out.later hb); clear hb)
          | (with_reducible refine wpList_store_whole rfl 42 (.tmp 5) (.tmp 18) rfl rfl B (mtx fun n => thr pw (thr pw n)) rfl rfl 42 _ HP2.out.m (by rw [size42, mtx_size]) (by simp [mtx_size]) (mtx_cells _) ?_))
        go_roundw
        case rel =>
          refine ⟨_, 2 * pw, _, ?_, rfl, rfl, ?_, HP2.out.more⟩
          · omega
          · rw [← HT.out]; exact thr_half_even pw k b HO.out
        case measure => simp [intOf]; omega
    · go_wp2
      go_ret
      refine ⟨ret_u32 ?_, HP.out.below⟩
      rw [← HT.out, show z.toNat = 0 by omega, Nat.mul_zero, thr_none]
end Go.Proofs.Ytmgagghlkopfcaa
