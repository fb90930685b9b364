/- Shrink in plain numbers. -/
import Derived.Test.YtpbidpgpehicmaaSlGrowM
namespace Go.Proofs.Ytpbidpgpehicmaa.Sl
open Go.RowKit
open Go.Lib (hid)

/-- may row i and the one behind it be one? -/
def shrOk (C : List Int) (L sz i Q : Nat) : Prop := ∀ n, n < Q → n % sz = i + 1 → rowL C L n = rowL C L (n - 1)
/-- what stays -/
def shrC (C : List Int) (L sz i Q : Nat) : List Int := (List.range Q).flatMap fun n => if n % sz = i + 1 then [] else rowL C L n
theorem count_one (sz j : Nat) (hj : j < sz) : ((List.range sz).filter fun n => decide (n ≠ j)).length = sz - 1 := by
  have H : ∀ k, ((List.range k).filter fun n => decide (n ≠ j)).length = if j < k then k - 1 else k := by
    intro k
    induction k with
    | zero => simp
    | succ k ih =>
      rw [List.range_succ, List.filter_append, List.length_append, ih]
      by_cases e : k = j
      · subst e
        simp
      · have e1 : ((List.filter (fun n => decide (n ≠ j)) [k]).length) = 1 := by simp [e]
        rw [e1]
        split <;> split <;> omega
  rw [H sz, if_pos hj]
theorem count_all (a sz j : Nat) (hj : j < sz) : ((List.range (a * sz)).filter fun n => decide (n % sz ≠ j)).length = a * (sz - 1) := by
  induction a with
  | zero => simp
  | succ a ih =>
    rw [range_mul, List.filter_append, List.length_append, ih, List.filter_map, List.length_map]
    have e : (List.range sz).filter ((fun n => decide (n % sz ≠ j)) ∘ fun x => a * sz + x) = (List.range sz).filter fun n => decide (n ≠ j) := by
      apply List.filter_congr
      intro n hn
      rw [List.mem_range] at hn
      show decide ((a * sz + n) % sz ≠ j) = _
      rw [Nat.add_comm, Nat.add_mul_mod_self_right, Nat.mod_eq_of_lt hn]
    rw [e, count_one sz j hj, Nat.add_mul, Nat.one_mul]
theorem rowL_len {α : Type} (C : List α) (L n Q : Nat) (h : n < Q) (hC : C.length = Q * L) : (rowL C L n).length = L := by
  unfold rowL
  rw [List.length_take, List.length_drop, hC]
  have : (n + 1) * L ≤ Q * L := Nat.mul_le_mul_right _ h
  rw [Nat.add_mul, Nat.one_mul] at this
  omega
theorem flat_len {α : Type} (C : List α) (L Q : Nat) (hC : C.length = Q * L) (l : List Nat) (h : ∀ n ∈ l, n < Q) : (l.flatMap (rowL C L)).length = l.length * L := by
  induction l with
  | nil => simp
  | cons a l ih =>
    rw [List.flatMap_cons, List.length_append, ih fun n hn => h n (by simp [hn]), rowL_len C L a Q (h a (by simp)) hC, List.length_cons, Nat.add_mul, Nat.one_mul]
    omega
theorem shrC_eq (C : List Int) (L sz i Q : Nat) : shrC C L sz i Q = ((List.range Q).filter fun n => decide (n % sz ≠ i + 1)).flatMap (rowL C L) := by
  unfold shrC
  rw [flatMap_filter]
  congr 1
  funext n
  by_cases e : n % sz = i + 1 <;> simp [e]
theorem shr_len (S : List Nat) (C : List Int) (F : Fits S C) (d i : Nat) (hd : d < S.length) (hi : i + 1 < S.getD d 1) : (shrC C (prodL (S.drop (d + 1))) (S.getD d 1) i (C.length / prodL (S.drop (d + 1)))).length = prodL (S.set d (S.getD d 1 - 1)) := by
  have hp : 0 < prodL (S.drop (d + 1)) := prodL_pos _ fun s hs => F.pos s (List.mem_of_mem_drop hs)
  have hq : C.length / prodL (S.drop (d + 1)) = prodL (S.take d) * S.getD d 1 := by
    rw [F.len, prod_at S d hd, ← Nat.mul_assoc, Nat.mul_div_cancel _ hp]
  have hC : C.length = (prodL (S.take d) * S.getD d 1) * prodL (S.drop (d + 1)) := by rw [F.len, prod_at S d hd, Nat.mul_assoc]
  rw [hq, shrC_eq, flat_len C _ _ hC _ (fun n hn => List.mem_range.1 (List.mem_filter.1 hn).1), count_all _ _ _ hi, prod_set S d _ hd, Nat.mul_assoc]
theorem shr_fits (S : List Nat) (C : List Int) (F : Fits S C) (d i : Nat) (hd : d < S.length) (hi : i + 1 < S.getD d 1) : Fits (S.set d (S.getD d 1 - 1)) (shrC C (prodL (S.drop (d + 1))) (S.getD d 1) i (C.length / prodL (S.drop (d + 1)))) := by
  refine ⟨?_, by rw [List.length_set]; exact F.few, ?_, ?_, shr_len S C F d i hd hi⟩
  · intro e
    have := congrArg List.length e
    rw [List.length_set, List.length_nil] at this
    omega
  · intro s hs
    rw [set_split S d _ hd] at hs
    rcases List.mem_append.1 hs with h | h
    · exact F.pos s (List.mem_of_mem_take h)
    · rcases List.mem_cons.1 h with rfl | h
      · omega
      · exact F.pos s (List.mem_of_mem_drop h)
  · refine Nat.le_trans ?_ F.most
    rw [prod_set S d _ hd, prod_at S d hd]
    exact Nat.mul_le_mul_left _ (Nat.mul_le_mul_right _ (Nat.sub_le _ _))
theorem shr_pos (S : List Nat) (C : List Int) (F : Fits S C) (d i : Nat) (hd : d < S.length) (hi : i + 1 < S.getD d 1) : 0 < (shrC C (prodL (S.drop (d + 1))) (S.getD d 1) i (C.length / prodL (S.drop (d + 1)))).length := by
  have h := shr_fits S C F d i hd hi
  rw [h.len]
  exact prodL_pos _ h.pos
end Go.Proofs.Ytpbidpgpehicmaa.Sl
