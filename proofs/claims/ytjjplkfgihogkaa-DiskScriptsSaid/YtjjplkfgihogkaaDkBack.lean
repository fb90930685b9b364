/- Backward of slices, over the writes that wait: its contract. -/
import Derived.Test.YtjjplkfgihogkaaDkRead
import Derived.RangeFuncNested
import Derived.RangeFuncBound
import Derived.RangeFuncCalls
import Derived.RangeFuncLeaves
import Derived.Shelf.Abstract
import Derived.Shelf.RegionOpen
import Derived.WalkKit
import Derived.OwnWalkIn
import Derived.TacticsInMore
import Derived.LoopNIn
import Derived.LoopIn
namespace Go.Proofs.Ytjjplkfgihogkaa.Dk
open Go.RowKit Go.Shelf
open Go.Lib (hid)

attribute [local go_sem] Oper.semAt_some

/-- a write with its place -/
abbrev WAt := Nat × Nat × ByteArray
def encW (x : WAt) : Array Value := #[.int .i64 (x.1 : Int), .agg #[.int .i64 (x.2.1 : Int), .string x.2.2]]
/-- what has come when k rounds are over -/
def upto (ws : List (Nat × ByteArray)) (k : Nat) : List WAt := (List.range k).map fun j => (ws.length - 1 - j, ws.getD (ws.length - 1 - j) (0, ByteArray.empty))
theorem upto_succ (ws : List (Nat × ByteArray)) (k : Nat) : upto ws (k + 1) = upto ws k ++ [(ws.length - 1 - k, ws.getD (ws.length - 1 - k) (0, ByteArray.empty))] := by simp [upto, List.range_succ]
theorem upto_length (ws : List (Nat × ByteArray)) (k : Nat) : (upto ws k).length = k := by simp [upto]

set_option maxRecDepth 100000 in
set_option maxHeartbeats 2000000 in
theorem back1_in (F : Fence) (n : Nat) (h47 : F.fn 42) (hro : F.round = none) (hn : 1 ≤ n) (l Bs n₀ b cap : Nat) (ws : List (Nat × ByteArray)) (hreach : ws.length ≤ 1000000) (hb : b < n₀) (J Jx : List WAt → World → Prop)
    (hY : ∀ pre x W, J pre W → pre.length < ws.length → YieldAt F (n - 1) Try.prog l (encW x) W fun e W' =>
      (e = .returned (.bool true) ∧ J (pre ++ [x]) W' ∧ Below n₀ W W') ∨ (e = .returned (.bool false) ∧ Jx (pre ++ [x]) W'))
    (W : World) (hBs : W.cell? ⟨Bs, 0, none⟩ = some (.slice (some ⟨b, 0, none⟩) ws.length cap)) (hBn : Bs < n₀)
    (hc : ∀ j (hj : j < ws.length), W.cell? ⟨b, j * 2, none⟩ = some (.int .i64 (ws[j].1 : Int)) ∧ W.cell? ⟨b, j * 2 + 1, none⟩ = some (.string ws[j].2)) (h0 : J [] W) :
    CallsIn F n Try.prog 42 #[.func (.yield l) #[] #[], .pointer (some ⟨Bs, 0, none⟩)] W fun e W' => (∃ v, e = .returned v) ∧
      ((∃ ys, ys = upto ws ws.length ∧ J ys W') ∨ (∃ pre, (∃ k, k ≤ ws.length ∧ pre = upto ws k) ∧ Jx pre W')) := by
  refine callsIn_of_wp Try.func42 rfl h47 ?_ hro
  simp only [Try.ntmps42, List.size_toArray, List.length_cons, List.length_nil, Nat.reduceAdd, Nat.reduceSub, Array.replicate_succ, Array.replicate_zero, List.push_toArray, List.append_toArray, List.nil_append, List.cons_append]
  gi_wp2
  gi_loopw [3] (fun i wr => ∃ k : Nat, k ≤ ws.length ∧ i = .int .i64 ((ws.length : Int) - 1 - (k : Int)) ∧ J (upto ws k) wr ∧ Below n₀ W wr)
    (fun i _ => (intOf i + 1).toNat)
  case atStart => exact ⟨0, Nat.zero_le _, by simp, h0, Below.refl _ _⟩
  case round =>
    obtain ⟨k, hk, rfl, hJs, hnx⟩ := hrel
    have hBs' := (hnx.cell (p := ⟨Bs, 0, none⟩) hBn).trans hBs
    by_cases hlt : k < ws.length
    · obtain ⟨q, hq⟩ : ∃ q, ws.length - 1 - k = q := ⟨_, rfl⟩
      have hql : q < ws.length := by omega
      have eq1 : (ws.length : Int) - 1 - (k : Int) = (q : Int) := by omega
      have hup := upto_succ ws k
      rw [hq] at hup
      have hget : ws.getD q (0, ByteArray.empty) = ws[q] := by simp [hql]
      rw [hget] at hup
      obtain ⟨c0, c1⟩ := hc q hql
      have d0 := (hnx.cell (p := ⟨b, q * 2, none⟩) hb).trans c0
      have d1 := (hnx.cell (p := ⟨b, q * 2 + 1, none⟩) hb).trans c1
      obtain ⟨fn, tmps, assign, body, hy, hR⟩ := hY _ (q, ws[q]) wr hJs (by rw [upto_length]; exact hlt)
      dsimp only [encW] at hy
      rw [eq1]
      generalize ws[q] = x at hup d0 d1 hy hR
      have HC := hid hc
      clear c0 c1 hget hc
      gi_wp2
      refine hR.mono ?_
      rintro e W3 (⟨rfl, hJ3, hk3⟩ | ⟨rfl, hJx3⟩)
      · gi_wp2
        go_roundw
        case rel =>
          have e9 : (q : Int) - 1 = (ws.length : Int) - 1 - ((k + 1 : Nat) : Int) := by omega
          exact ⟨k + 1, hlt, by rw [← e9], by rw [hup]; exact hJ3, hnx.trans hk3⟩
        case measure => simp [intOf]
      · gi_wp2
        refine bodyPost_ret (results_none rfl _ _ _) rfl ?_
        exact ⟨⟨_, rfl⟩, .inr ⟨_, ⟨k + 1, by omega, hup.symm⟩, hJx3⟩⟩
    · obtain rfl : k = ws.length := by omega
      have eq1 : (ws.length : Int) - 1 - (ws.length : Int) = -1 := by omega
      rw [eq1]
      gi_wp2
      go_end0
      exact ⟨⟨_, rfl⟩, .inl ⟨_, rfl, hJs⟩⟩
set_option maxRecDepth 100000 in
set_option maxHeartbeats 1000000 in
/-- at the nil slice: no round -/
theorem back1_nil_in (F : Fence) (n : Nat) (h47 : F.fn 42) (hro : F.round = none) (l Bs : Nat) (J : List WAt → World → Prop) (W : World) (hBs : W.cell? ⟨Bs, 0, none⟩ = some (.slice none 0 0)) (h0 : J [] W) :
    CallsIn F n Try.prog 42 #[.func (.yield l) #[] #[], .pointer (some ⟨Bs, 0, none⟩)] W fun e W' => (∃ v, e = .returned v) ∧ J [] W' := by
  refine callsIn_of_wp Try.func42 rfl h47 ?_ hro
  simp only [Try.ntmps42, List.size_toArray, List.length_cons, List.length_nil, Nat.reduceAdd, Nat.reduceSub, Array.replicate_succ, Array.replicate_zero, List.push_toArray, List.append_toArray, List.nil_append, List.cons_append]
  gi_wp2
  gi_loopw [3] (fun i wr => i = .int .i64 (-1) ∧ J [] wr) (fun _ _ => 0)
  case atStart => exact ⟨rfl, h0⟩
  case round =>
    obtain ⟨rfl, hJs⟩ := hrel
    gi_wp2
    go_end0
    exact ⟨⟨_, rfl⟩, hJs⟩
set_option maxHeartbeats 1000000 in
/-- Backward: the slice is boxed; the function value captures the box -/
theorem backward_in (F : Fence) (n : Nat) (h38 : F.fn 33) (hro : F.round = none) (a : Option Addr) (len cap : Nat) (w : World) :
    CallsIn F n Try.prog 33 #[.slice a len cap] w fun e w' => e = .returned (.func (.func 42) #[] #[.pointer (some ⟨w.heap.size, 0, none⟩)]) ∧ w' = w.alloc (.cells #[.slice a len cap] 56) := by
  refine callsIn_of_wp Try.func33 rfl h38 ?_ hro
  simp only [Try.ntmps33, List.size_toArray, List.length_cons, List.length_nil, Nat.reduceAdd, Nat.reduceSub, Array.replicate_succ, Array.replicate_zero, List.push_toArray, List.append_toArray, List.nil_append, List.cons_append]
  gi_wp2
  go_ret
  exact ⟨rfl, rfl⟩
/-- writes in memory, as a slice holds them, in a block below n₀; or it is nil and there are none -/
def WaitsAt (n₀ : Nat) (W : World) (sv : Value) (ws : List (Nat × ByteArray)) : Prop :=
  (sv = .slice none 0 0 ∧ ws = []) ∨ ∃ b cap, sv = .slice (some ⟨b, 0, none⟩) ws.length cap ∧ b < n₀ ∧ ∀ j (hj : j < ws.length), W.cell? ⟨b, j * 2, none⟩ = some (.int .i64 (ws[j].1 : Int)) ∧ W.cell? ⟨b, j * 2 + 1, none⟩ = some (.string ws[j].2)
theorem WaitsAt.below {n₀ : Nat} {A B : World} (h : Below n₀ A B) {sv : Value} {ws : List (Nat × ByteArray)} : WaitsAt n₀ A sv ws → WaitsAt n₀ B sv ws
  | .inl e => .inl e
  | .inr ⟨b, cap, e, hb, hc⟩ => .inr ⟨b, cap, e, hb, fun j hj => ⟨(h.cell (p := ⟨b, j * 2, none⟩) hb).trans (hc j hj).1, (h.cell (p := ⟨b, j * 2 + 1, none⟩) hb).trans (hc j hj).2⟩⟩
theorem back_stops (F : Fence) (n : Nat) (h47 : F.fn 42) (hro : F.round = none) (hn : 1 ≤ n) (Bs n₀ : Nat) (sv : Value) (ws : List (Nat × ByteArray)) (hreach : ws.length ≤ 1000000) (w : World) (hBs : Bs < n₀) (hn₀ : n₀ ≤ w.heap.size)
    (hc : w.cell? ⟨Bs, 0, none⟩ = some sv) (hI : WaitsAt n₀ w sv ws) :
    SeqStopsK F n Try.prog 42 #[.pointer (some ⟨Bs, 0, none⟩)] encW (Below n₀) (fun ys => ys = upto ws ws.length) (fun pre => ∃ k, k ≤ ws.length ∧ pre = upto ws k) ws.length w := fun l J Jx W hW _ _ hY h0 => by
  have hc' := (hW.cell (p := ⟨Bs, 0, none⟩) (Nat.lt_of_lt_of_le hBs hn₀)).trans hc
  rcases hI.below (hW.mono hn₀) with ⟨rfl, rfl⟩ | ⟨b, cap, rfl, hb, hcs⟩
  · exact (back1_nil_in F n h47 hro l Bs J W hc' h0).mono fun e W' ⟨he, hj⟩ => ⟨he, .inl ⟨_, rfl, hj⟩⟩
  · exact back1_in F n h47 hro hn l Bs n₀ b cap ws hreach hb J Jx hY W hc' hBs hcs h0
theorem Dsk.waitsIn {w : World} {d : Ptrs} {s : St} (h : Dsk w d s) (n₀ : Nat) (hn : w.heap.size ≤ n₀) : WaitsAt n₀ w d.wv s.waits := by
  rcases h.waits.2 with ⟨hv, h0⟩ | ⟨g, cap, cur, hv, hb0, hg, rest⟩
  · exact .inl ⟨hv, List.length_eq_zero_iff.1 h0⟩
  · refine .inr ⟨g, cap, hv, ?_, fun j hj => h.wait hv j hj⟩
    have := (Array.getElem?_eq_some_iff.1 hg).1
    omega
end Go.Proofs.Ytjjplkfgihogkaa.Dk
