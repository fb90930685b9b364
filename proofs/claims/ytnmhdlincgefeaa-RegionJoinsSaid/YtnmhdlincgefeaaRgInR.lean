/- A drawn region of plain operations inside a round of a range over a function: the held walk serves there, too. -/
import Derived.Test.YtnmhdlincgefeaaSlMath
import Derived.OrdersIn
import Derived.RegionIn
import Derived.Deep.RegionHeld
namespace Go.Proofs.Ytnmhdlincgefeaa.Rg

/-- an operation that makes no call -/
def plainOp (o : Oper) : Bool := match o.op with
  | .move _ | .assign _ | .load _ _ | .store _ _ _ | .binOp _ _ _ _ _ | .indexAddr _ _ _ | .fieldAddr _ _ _ => true
  | _ => false
/-- what such an operation comes to -/
def plainRes : Result Next → Prop
  | .ok (.value _) _ => True
  | .ok .skip _ => True
  | .ok _ _ => False
  | .halt _ _ => True
theorem plain_v {P : Program} {w : World} (s : Sem Value) : plainRes ((do pure (Next.value (← s)) : Sem Next).run P w) := by
  rw [Sem.run_bind]
  cases s.run P w with
  | ok v w' => exact True.intro
  | halt h w' => exact True.intro
theorem plain_u {P : Program} {w : World} (s : Sem Unit) : plainRes ((do s; pure Next.skip : Sem Next).run P w) := by
  rw [Sem.run_bind]
  cases s.run P w with
  | ok v w' => exact True.intro
  | halt h w' => exact True.intro
theorem plain_run {P : Program} {w : World} {o : Oper} (h : plainOp o = true) (ρ : Operand → Value) : plainRes ((execOp ρ o).run P w) := by
  unfold plainOp at h
  unfold execOp
  cases ho : o.op <;> rw [ho] at h <;> first | (exact absurd h Bool.false_ne_true) | exact plain_v _ | exact plain_u _ | exact True.intro
theorem plain_about {P : Program} {w : World} {o : Oper} (h : plainOp o = true) (ρ : Operand → Value) : o.about P w ρ = none := by
  unfold plainOp at h
  unfold Oper.about
  cases ho : o.op <;> rw [ho] at h <;> first | rfl | exact absurd h Bool.false_ne_true
theorem plain_sem {o : Oper} (h : plainOp o = true) (ro : Option Nat) (ρ : Operand → Value) : o.semAt ro ρ = execOp ρ o := by
  refine Oper.semAt_eq ro ρ o fun c hc => ?_
  unfold plainOp at h
  rw [hc] at h
  cases h
section
variable {F : Fence} {n : Nat} {P : Program} {ops : Array Oper} {Q : Exit → Act → World → Prop} {md : Region.Mode} {S : World → Prop}
theorem op_in {i : Nat} {K K' : Act → World → Prop} {a : Act} {w : World} (hpl : ∀ o ∈ ops, plainOp o = true) (hout : ∀ a w, ¬ Q .outgrown a w) (hK : ∀ a w, K a w → K' a w)
    (h : wpOp P ops Q i K a w) : wpOpIn F n P ops Q i K' a w := by
  unfold wpOp at h
  unfold wpOpIn
  cases ho : ops[i]? with
  | none => rw [ho] at h; exact hK _ _ h
  | some o =>
    rw [ho] at h
    have hp := hpl o (Array.mem_of_getElem? ho)
    dsimp only at h ⊢
    by_cases hw : Region.wanted o (yielded ops a.tmps) = true
    · rw [if_pos hw] at h ⊢
      rcases h with h | ⟨_, a', w', h⟩
      · unfold Oper.wp at h
        unfold Oper.wpIn
        refine ⟨fun f hf => absurd hf (by rw [plain_about hp]; simp), ?_⟩
        rw [plain_sem hp]
        have hr := plain_run (P := P) (w := w) hp a.eval
        generalize (execOp a.eval o).run P w = r at h hr ⊢
        cases r with
        | ok x w' =>
          cases x with
          | value v => exact hK _ _ h
          | skip => exact hK _ _ h
          | _ => exact hr.elim
        | halt x w' =>
          cases x <;> first | exact h | exact (h : False).elim
      · exact absurd h (hout _ _)
    · rw [if_neg hw] at h ⊢
      exact ⟨fun f hf => absurd hf (by rw [plain_about hp]; simp), hK _ _ h⟩
theorem any_in (hpl : ∀ o ∈ ops, plainOp o = true) (hout : ∀ a w, ¬ Q .outgrown a w) : ∀ (fuel : Nat) (listed : Array Bool) (a : Act) (w : World), wpAnyH P md ops Q S fuel listed a w → wpAnyIn F n P md ops Q fuel listed a w
  | 0, _, _, _, h => h
  | fuel + 1, _, _, _, h => ⟨h.1, fun i hi => op_in hpl hout (fun a' w' hk => any_in hpl hout fuel _ a' w' hk.2) (h.2 i hi)⟩
/-- the rule -/
theorem region_in {id : Nat} {a : Act} {w : World} (hm : P.follows .mixedOrders = true) (hpl : (ops.all plainOp) = true) (hout : ∀ a w, ¬ Q .outgrown a w) (hS : S w.drew)
    (h : S w.drew → wpAnyH P .any ops Q S ops.size (Array.replicate ops.size false) a w.drew) : (Code.region id ops true).wpIn F n P Q a w :=
  wpIn_region_any hm (any_in (fun o ho => by rw [Array.all_eq_true_iff_forall_mem] at hpl; exact hpl o ho) hout _ _ _ _ (h hS))
end
end Go.Proofs.Ytnmhdlincgefeaa.Rg
