/- Backward of slices over ints; cell of region. -/
import Derived.Test.YtnmhdlincgefeaaRgSmall
import Derived.Test.YtnmhdlincgefeaaSlCellR
import Derived.RangeFuncNested
import Derived.RangeFuncBound
import Derived.RangeFuncCalls
import Derived.RangeFuncLeaves
import Derived.Shelf.Abstract
import Derived.Shelf.RegionOpen
import Derived.WalkKit
import Derived.OwnWalkIn
import Derived.TacticsInMore
import Derived.LoopNIn
import Derived.LoopIn
import Derived.RegionIn
namespace Go.Proofs.Ytnmhdlincgefeaa.Rg
open Go.RowKit Go.Shelf
open Go.Lib (hid)
open Go.Proofs.Ytnmhdlincgefeaa.Sl
attribute [local go_sem] Oper.semAt_some

/-- what a round gets: a number's place and the number -/
def encI (S : List Nat) (x : Fin S.length) : Array Value := #[.int .i64 ((x.1 : Nat) : Int), .int .i64 ((S[x.1] : Nat) : Int)]
/-- all places, from the last one on -/
def upsI (S : List Nat) : List (Fin S.length) := (List.finRange S.length).reverse
theorem upsI_length (S : List Nat) : (upsI S).length = S.length := by unfold upsI; rw [List.length_reverse, List.length_finRange]
/-- what has come when k rounds are over -/
def uptoI (S : List Nat) (k : Nat) : List (Fin S.length) := (upsI S).take k
theorem uptoI_succ (S : List Nat) (k q : Nat) (h : k < S.length) (hq : S.length - 1 - k = q) (hql : q < S.length) : uptoI S (k + 1) = uptoI S k ++ [⟨q, hql⟩] := by
  unfold uptoI
  rw [List.take_succ_eq_append_getElem (by rw [upsI_length]; exact h)]
  congr 2
  unfold upsI
  simp only [List.getElem_reverse, List.getElem_finRange, List.length_finRange]
  apply Fin.ext
  simp [hq]
theorem uptoI_length (S : List Nat) (k : Nat) (h : k ≤ S.length) : (uptoI S k).length = k := by unfold uptoI; rw [List.length_take, upsI_length]; omega
/-- what lies below A, and block B, are as they were -/
structure KpI (A B : Nat) (W W' : World) : Prop where
  size : W.heap.size ≤ W'.heap.size
  block : ∀ k, k < A ∨ k = B → W'.heap[k]? = W.heap[k]?
theorem KpI.refl (A B : Nat) (W : World) : KpI A B W W := ⟨Nat.le_refl _, fun _ _ => rfl⟩
theorem KpI.trans {A B : Nat} {X Y Z : World} (h : KpI A B X Y) (k : KpI A B Y Z) : KpI A B X Z := ⟨Nat.le_trans h.size k.size, fun j hj => (k.block j hj).trans (h.block j hj)⟩

set_option maxRecDepth 100000 in
set_option maxHeartbeats 2000000 in
theorem back1_in (F : Fence) (n : Nat) (h47 : F.fn 64) (hro : F.round = none) (hn : 1 ≤ n) (l Bs A b o cap : Nat) (S : List Nat) (hreach : S.length ≤ 1000000) (hb : b < A) (J Jx : List (Fin S.length) → World → Prop)
    (hY : ∀ pre x W, J pre W → pre.length < S.length → YieldAt F (n - 1) Try.prog l (encI S x) W fun e W' =>
      (e = .returned (.bool true) ∧ J (pre ++ [x]) W' ∧ KpI A Bs W W') ∨ (e = .returned (.bool false) ∧ Jx (pre ++ [x]) W'))
    (W : World) (hBs : W.cell? ⟨Bs, 0, none⟩ = some (.slice (some ⟨b, o, none⟩) S.length cap))
    (hc : ∀ j (hj : j < S.length), W.cell? ⟨b, o + j, none⟩ = some (.int .i64 (S[j] : Int))) (h0 : J [] W) :
    CallsIn F n Try.prog 64 #[.func (.yield l) #[] #[], .pointer (some ⟨Bs, 0, none⟩)] W fun e W' => (∃ v, e = .returned v) ∧
      ((∃ ys, ys = uptoI S S.length ∧ J ys W') ∨ (∃ pre, (∃ k, k ≤ S.length ∧ pre = uptoI S k) ∧ Jx pre W')) := by
  refine callsIn_of_wp Try.func64 rfl h47 ?_ hro
  simp only [Try.ntmps64, List.size_toArray, List.length_cons, List.length_nil, Nat.reduceAdd, Nat.reduceSub, Array.replicate_succ, Array.replicate_zero, List.push_toArray, List.append_toArray, List.nil_append, List.cons_append]
  gi_wp2
  gi_loopw [3] (fun i wr => ∃ k : Nat, k ≤ S.length ∧ i = .int .i64 ((S.length : Int) - 1 - (k : Int)) ∧ J (uptoI S k) wr ∧ KpI A Bs W wr)
    (fun i _ => (intOf i + 1).toNat)
  case atStart => exact ⟨0, Nat.zero_le _, by simp, h0, KpI.refl _ _ _⟩
  case round =>
    obtain ⟨k, hk, rfl, hJs, hnx⟩ := hrel
    have hBs' := (World.cell?_of_block (a := ⟨Bs, 0, none⟩) (hnx.block Bs (.inr rfl))).trans hBs
    by_cases hlt : k < S.length
    · obtain ⟨q, hq⟩ : ∃ q, S.length - 1 - k = q := ⟨_, rfl⟩
      have hql : q < S.length := by omega
      have eq1 : (S.length : Int) - 1 - (k : Int) = (q : Int) := by omega
      have hup := uptoI_succ S k q hlt hq hql
      have d0 := (World.cell?_of_block (a := ⟨b, o + q, none⟩) (hnx.block b (.inl hb))).trans (hc q hql)
      obtain ⟨fn, tmps, assign, body, hy, hR⟩ := hY _ ⟨q, hql⟩ wr hJs (by rw [uptoI_length _ _ hk]; exact hlt)
      dsimp only [encI] at hy
      rw [eq1]
      generalize S[q] = x at d0 hy
      have HC := hid hc
      clear hc
      gi_wp2
      refine hR.mono ?_
      rintro e W3 (⟨rfl, hJ3, hk3⟩ | ⟨rfl, hJx3⟩)
      · gi_wp2
        go_roundw
        case rel =>
          have e9 : (q : Int) - 1 = (S.length : Int) - 1 - ((k + 1 : Nat) : Int) := by omega
          exact ⟨k + 1, hlt, by rw [← e9], by rw [hup]; exact hJ3, hnx.trans hk3⟩
        case measure => simp [intOf]
      · gi_wp2
        refine bodyPost_ret (results_none rfl _ _ _) rfl ?_
        exact ⟨⟨_, rfl⟩, .inr ⟨_, ⟨k + 1, by omega, hup.symm⟩, hJx3⟩⟩
    · obtain rfl : k = S.length := by omega
      have eq1 : (S.length : Int) - 1 - (S.length : Int) = -1 := by omega
      rw [eq1]
      gi_wp2
      go_end0
      exact ⟨⟨_, rfl⟩, .inl ⟨_, rfl, hJs⟩⟩
set_option maxHeartbeats 1000000 in
/-- Backward: the slice is boxed; the function value captures the box -/
theorem backward_in (F : Fence) (n : Nat) (h38 : F.fn 57) (hro : F.round = none) (a : Option Addr) (len cap : Nat) (w : World) :
    CallsIn F n Try.prog 57 #[.slice a len cap] w fun e w' => e = .returned (.func (.func 64) #[] #[.pointer (some ⟨w.heap.size, 0, none⟩)]) ∧ w' = w.alloc (.cells #[.slice a len cap] 22) := by
  refine callsIn_of_wp Try.func57 rfl h38 ?_ hro
  simp only [Try.ntmps57, List.size_toArray, List.length_cons, List.length_nil, Nat.reduceAdd, Nat.reduceSub, Array.replicate_succ, Array.replicate_zero, List.push_toArray, List.append_toArray, List.nil_append, List.cons_append]
  gi_wp2
  go_ret
  exact ⟨rfl, rfl⟩
theorem back_stops (F : Fence) (n : Nat) (h47 : F.fn 64) (hro : F.round = none) (hn : 1 ≤ n) (Bs A b o cap : Nat) (S : List Nat) (hreach : S.length ≤ 1000000) (w : World) (hBs : Bs < w.heap.size) (hA : A ≤ w.heap.size) (hb : b < A)
    (hc : w.cell? ⟨Bs, 0, none⟩ = some (.slice (some ⟨b, o, none⟩) S.length cap)) (hI : ∀ j (hj : j < S.length), w.cell? ⟨b, o + j, none⟩ = some (.int .i64 (S[j] : Int))) :
    SeqStopsK F n Try.prog 64 #[.pointer (some ⟨Bs, 0, none⟩)] (encI S) (KpI A Bs) (fun ys => ys = uptoI S S.length) (fun pre => ∃ k, k ≤ S.length ∧ pre = uptoI S k) S.length w := fun l J Jx W hW _ _ hY h0 =>
  back1_in F n h47 hro hn l Bs A b o cap S hreach hb J Jx hY W ((hW.cell (p := ⟨Bs, 0, none⟩) hBs).trans hc) (fun j hj => (hW.cell (p := ⟨b, o + j, none⟩) (Nat.lt_of_lt_of_le hb hA)).trans (hI j hj)) h0
end Go.Proofs.Ytnmhdlincgefeaa.Rg
