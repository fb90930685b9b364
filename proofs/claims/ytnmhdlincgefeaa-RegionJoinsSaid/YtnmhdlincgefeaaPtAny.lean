/- A drawn region by an invariant: one case an operation, not one an order. -/
import Derived.Test.YtnmhdlincgefeaaPtHalf
namespace Go.Proofs.Ytnmhdlincgefeaa.Pt
open Go.RowKit
open Go.Lib (hid)

/-- how many have not come up -/
def left (n : Nat) (listed : Array Bool) : Nat := ((List.range n).filter fun i => !listed.getD i true).length
theorem left_set {n i : Nat} {listed : Array Bool} (hi : i < n) (hl : listed.getD i true = false) : left n (listed.setIfInBounds i true) < left n listed := by
  unfold left
  have hs : i < listed.size := by
    rcases Nat.lt_or_ge i listed.size with h | h
    · exact h
    · simp [Array.getD, Nat.not_lt.2 h] at hl
  have e : ((List.range n).filter fun j => !(listed.setIfInBounds i true).getD j true) = ((List.range n).filter fun j => !listed.getD j true).filter fun j => j != i := by
    rw [List.filter_filter]
    apply List.filter_congr
    intro j _
    by_cases hj : j = i
    · subst hj; simp [Array.getD, hs]
    · have hij : i ≠ j := fun e => hj e.symm
      have h1 : (listed.setIfInBounds i true).getD j true = listed.getD j true := by
        rw [Array.getD_eq_getD_getElem?, Array.getD_eq_getD_getElem?, Array.getElem?_setIfInBounds, if_neg hij]
      rw [h1]
      simp [hj]
  rw [e, List.length_filter_lt_length_iff_exists]
  exact ⟨i, List.mem_filter.2 ⟨List.mem_range.2 hi, by rw [hl]; rfl⟩, by simp⟩
section
variable {P : Program} {ops : Array Oper} {Q : Exit → Act → World → Prop} {md : Region.Mode} {S : World → Prop}
theorem ready_left {listed : Array Bool} (h : left ops.size listed = 0) : Region.ready md ops listed = [] := by
  unfold left at h
  have h1 := List.length_eq_zero_iff.1 h
  unfold Region.ready
  rw [List.filter_eq_nil_iff] at h1 ⊢
  intro i hi
  have := h1 i hi
  simp at this ⊢
  intro h2
  rw [this] at h2
  cases h2
theorem ready_lt {listed : Array Bool} {i : Nat} (h : i ∈ Region.ready md ops listed) : i < ops.size ∧ listed.getD i true = false := by
  unfold Region.ready at h
  have h1 := List.mem_filter.1 h
  refine ⟨List.mem_range.1 h1.1, ?_⟩
  have := h1.2
  simp only [Bool.and_eq_true, Bool.not_eq_true'] at this
  exact this.1
/-- the rule: I is kept by whatever comes up, and gives the end -/
theorem wpAnyH_inv (I : Array Bool → Act → World → Prop) (hS : ∀ listed a w, I listed a w → S w)
    (hst : ∀ listed a w i, I listed a w → i ∈ Region.ready md ops listed → wpOp P ops Q i (fun a' w' => I (listed.setIfInBounds i true) a' w') a w)
    (hen : ∀ listed a w, I listed a w → Region.ready md ops listed = [] → Q .normal a w) :
    ∀ (fuel : Nat) (listed : Array Bool) (a : Act) (w : World), I listed a w → left ops.size listed ≤ fuel → wpAnyH P md ops Q S fuel listed a w
  | 0, listed, a, w, h, hl => ⟨ready_left (by omega), hen _ _ _ h (ready_left (by omega))⟩
  | fuel + 1, listed, a, w, h, hl => ⟨hen _ _ _ h, fun i hi => wpOp_mono (fun a' w' h' => ⟨hS _ _ _ h', wpAnyH_inv I hS hst hen fuel _ a' w' h' (by
      obtain ⟨h1, h2⟩ := ready_lt hi
      have := left_set (n := ops.size) h1 h2
      omega)⟩) (hst _ _ _ _ h hi)⟩
/-- one operation, at the walk -/
theorem op_step {I : Act → World → Prop} {i : Nat} {o : Oper} {a : Act} {w : World} (ho : ops[i]? = some o)
    (h : ∀ K' : Act → World → Prop, Shut (∀ a w, I a w → K' a w) → if Region.wanted o (yielded ops a.tmps) = true then Oper.wp P o a w K' Q else K' (a.put o.dst undef) w) : wpOp P ops Q i I a w :=
  wpOp_step ho (fun K' hK => h K' hK)
end
end Go.Proofs.Ytnmhdlincgefeaa.Pt
