/- The small calls of bucket, of the reference and of the laws. -/
import Derived.Test.YtnmhdlincgefeaaBkBase
import Derived.Test.YtnmhdlincgefeaaShelf
namespace Go.Proofs.Ytnmhdlincgefeaa.Bk
open Go.RowKit
open Go.Lib (hid)
open Go.Proofs.Ytnmhdlincgefeaa.Ky

theorem quiet_eq {f : FuncId} {args : Array Value} {w : World} {n : Nat} {v : Value} (h : Calls Try.prog f args (w.drewN n) fun e w' => e = .returned v ∧ w.drewN n = w') :
    Calls Try.prog f args (w.drewN n) fun e w'' => e = .returned v ∧ ∃ m, w'' = w.drewN m := h.mono fun _ _ ⟨he, hm⟩ => ⟨he, n, hm.symm⟩
theorem quiet_more {f : FuncId} {args : Array Value} {w : World} {n : Nat} {v : Value} (h : Calls Try.prog f args (w.drewN n) fun e w' => e = .returned v ∧ ∃ m, w' = (w.drewN n).drewN m) :
    Calls Try.prog f args (w.drewN n) fun e w'' => e = .returned v ∧ ∃ m, w'' = w.drewN m := h.mono fun _ _ ⟨he, _, hm⟩ => ⟨he, _, hm.trans (World.drewN_drewN _ _ _)⟩
/-- records that a program may have: not too many, not too long -/
def bigR (L : List Rec) : Prop := L.length ≤ 1000 ∧ ∀ r ∈ L, r.1.length ≤ 1000 ∧ r.2.size ≤ 1000
theorem fewR_big {L : List Rec} (h : fewR L) : bigR L := ⟨by have := h.1; omega, fun r hr => by have := h.2 r hr; omega⟩
theorem sizeR_lt (L : List Rec) (h : ∀ r ∈ L, r.1.length ≤ 1000 ∧ r.2.size ≤ 1000) : sizeR L ≤ 1 + L.length * 5001 := by
  unfold sizeR
  induction L with
  | nil => simp
  | cons a l ih =>
    have h1 := h a (by simp)
    have h2 := ih fun r hr => h r (by simp [hr])
    simp only [List.map_cons, List.sum_cons, List.length_cons]
    omega
theorem bigR_take {L : List Rec} (h : bigR L) (k : Nat) : sizeR (L.take k) ≤ 6000000 := by
  have h1 := sizeR_mono L k
  have h2 := sizeR_lt L h.2
  have := h.1
  omega
def fitsB (L : List Rec) (c : Int) : Bool := decide ((L.length : Int) ≤ c) && decide (sizeR L ≤ 230)
def takesB (c : Int) : Bool := decide (2 ≤ c) && decide (c ≤ 16)
theorem mayR_eq (r : Rec) (d : Int) : mayR r d = (checkB r.1.length d && decide (r.2.size ≤ 40)) := by
  unfold mayR checkB mayB
  rw [Bool.eq_iff_iff]; simp; omega
/-- a row of the first k records that may be -/
def mayAll (L : List Rec) (d : Int) : Bool := L.all fun r => mayR r d
theorem mayAll_take {L : List Rec} {d : Int} {k : Nat} (h : k < L.length) (h1 : mayAll (L.take k) d = true) (h2 : mayR L[k] d = true) : mayAll (L.take (k + 1)) d = true := by
  unfold mayAll at *
  rw [List.take_succ_eq_append_getElem h, List.all_append, h1]
  simp [h2]
theorem mayAll_no {L : List Rec} {d : Int} {k : Nat} (h : k < L.length) (h2 : mayR L[k] d = false) : mayAll L d = false := by
  unfold mayAll
  rw [List.all_eq_false]
  exact ⟨L[k], List.getElem_mem h, by simp [h2]⟩
end Go.Proofs.Ytnmhdlincgefeaa.Bk
