/- The box that two boxes are the halves of, in plain lists. -/
import Derived.Test.YtnmhdlincgefeaaRgMath
import Derived.Test.YtnmhdlincgefeaaPtAllM
namespace Go.Proofs.Ytnmhdlincgefeaa.Rg
open Go.Proofs.Ytnmhdlincgefeaa.Ky
open Go.Proofs.Ytnmhdlincgefeaa.Pt

theorem sameBoxB_iff {al ah bl bh : List Nat} : sameBoxB al ah bl bh = true ↔ al = bl ∧ ah = bh := by unfold sameBoxB sameB; simp
/-- may both be? -/
def okJ (al ah bl bh : List Nat) : Bool := boxB al ah (al.length : Int) && boxB bl bh (al.length : Int)
/-- the halves of a box are these two, at a coordinate -/
def twoB (lo hi al ah bl bh : List Nat) (i : Nat) : Bool := halfB lo hi (i : Int) && (sameBoxB (xlo lo hi (i : Int)) (xhi lo hi (i : Int)) al ah && sameBoxB (ylo lo hi (i : Int)) (yhi lo hi (i : Int)) bl bh)
/-- the same, of the least box that has both, whichever way round -/
def hitB (al ah bl bh : List Nat) (i : Nat) : Bool := twoB (zmin al bl) (zmax ah bh) al ah bl bh i || twoB (zmin al bl) (zmax ah bh) bl bh al ah i
/-- the coordinate -/
def joinL (al ah bl bh : List Nat) : Option Nat := if okJ al ah bl bh = true then (List.range al.length).find? (hitB al ah bl bh) else none
def jlo (al bl : List Nat) : Option Nat → List Nat
  | some _ => zmin al bl
  | none => []
def jhi (ah bh : List Nat) : Option Nat → List Nat
  | some _ => zmax ah bh
  | none => []
theorem half_eqs {lo hi : List Nat} {i : Nat} (h : halfB lo hi (i : Int) = true) : xlo lo hi (i : Int) = lo ∧ xhi lo hi (i : Int) = hi.set i (midN lo hi i) ∧ ylo lo hi (i : Int) = lo.set i (midN lo hi i + 1) ∧ yhi lo hi (i : Int) = hi :=
  ⟨by unfold xlo; rw [h]; rfl, by unfold xhi; rw [h, Int.toNat_natCast]; rfl, by unfold ylo; rw [h, Int.toNat_natCast]; rfl, by unfold yhi; rw [h]; rfl⟩
theorem twoB_iff {lo hi al ah bl bh : List Nat} {i : Nat} : twoB lo hi al ah bl bh i = true ↔ halfB lo hi (i : Int) = true ∧ lo = al ∧ hi.set i (midN lo hi i) = ah ∧ lo.set i (midN lo hi i + 1) = bl ∧ hi = bh := by
  unfold twoB
  rw [Bool.and_eq_true, Bool.and_eq_true, sameBoxB_iff, sameBoxB_iff]
  constructor
  · rintro ⟨h, ⟨h1, h2⟩, h3, h4⟩
    obtain ⟨e1, e2, e3, e4⟩ := half_eqs h
    exact ⟨h, e1.symm.trans h1, e2.symm.trans h2, e3.symm.trans h3, e4.symm.trans h4⟩
  · rintro ⟨h, h1, h2, h3, h4⟩
    obtain ⟨e1, e2, e3, e4⟩ := half_eqs h
    exact ⟨h, ⟨e1.trans h1, e2.trans h2⟩, e3.trans h3, e4.trans h4⟩
theorem zmin_set {l : List Nat} {i m : Nat} (hi : i < l.length) (hm : l[i] ≤ m) : zmin l (l.set i m) = l := by
  apply List.ext_getElem (by rw [zmin_len (by simp)])
  intro j h1 h2
  rw [zmin_at j h1 h2 (by rw [List.length_set]; exact h2)]
  by_cases e : i = j
  · subst e; rw [List.getElem_set_self]; omega
  · rw [List.getElem_set_ne e]; simp
theorem zmax_set {l : List Nat} {i m : Nat} (hi : i < l.length) (hm : m ≤ l[i]) : zmax (l.set i m) l = l := by
  apply List.ext_getElem (by rw [zmax_len (by simp), List.length_set])
  intro j h1 h2
  rw [zmax_at j h1 (by rw [List.length_set]; exact h2) h2]
  by_cases e : i = j
  · subst e; rw [List.getElem_set_self]; omega
  · rw [List.getElem_set_ne e]; simp
/-- the halves of a box: the least box that has both is it -/
theorem two_box {al ah bl bh : List Nat} {i : Nat} (h : twoB al bh al ah bl bh i = true) : zmin al bl = al ∧ zmax ah bh = bh ∧ okJ al ah bl bh = true ∧ al.length = ah.length ∧ al.length = bl.length ∧ al.length = bh.length ∧ i < al.length := by
  obtain ⟨h0, _, h2, h3, _⟩ := twoB_iff.1 h
  obtain ⟨i', e, g1, g2, glen, gle, gc, f1, f2, f3⟩ := half_facts h0
  have e : i = i' := by omega
  subst e
  have hb := half_box h0
  obtain ⟨e1, e2, e3, e4⟩ := half_eqs h0
  rw [e1, e2, e3, e4, h2, h3] at hb
  refine ⟨?_, ?_, ?_, ?_, ?_, glen, g1⟩
  · rw [← h3]; exact zmin_set g1 (by omega)
  · rw [← h2]; exact zmax_set g2 (by omega)
  · unfold okJ; rw [hb.1, hb.2]; rfl
  · rw [← h2, List.length_set]; exact glen
  · rw [← h3, List.length_set]
theorem okJ_comm (al ah bl bh : List Nat) (h : al.length = bl.length) : okJ al ah bl bh = okJ bl bh al ah := by
  unfold okJ; rw [h, Bool.and_comm]
theorem hit_comm (al ah bl bh : List Nat) (i : Nat) : hitB al ah bl bh i = hitB bl bh al ah i := by
  unfold hitB; rw [zmin_comm al bl, zmax_comm ah bh, Bool.or_comm]
/-- what the document looks for, is what is looked for -/
theorem hit_two {al ah bl bh : List Nat} {i : Nat} : (okJ al ah bl bh = true ∧ hitB al ah bl bh i = true) ↔ (twoB al bh al ah bl bh i = true ∨ twoB bl ah bl bh al ah i = true) := by
  constructor
  · rintro ⟨_, h⟩
    unfold hitB at h
    rcases Bool.or_eq_true _ _ ▸ h with h | h
    · left
      obtain ⟨h0, h1, h2, h3, h4⟩ := twoB_iff.1 h
      rw [h1, h4] at h
      exact h
    · right
      obtain ⟨h0, h1, h2, h3, h4⟩ := twoB_iff.1 h
      rw [h1, h4] at h
      exact h
  · rintro (h | h)
    · obtain ⟨e1, e2, e3, _⟩ := two_box h
      refine ⟨e3, ?_⟩
      unfold hitB
      rw [e1, e2, h]; rfl
    · obtain ⟨e1, e2, e3, e4, e5, _⟩ := two_box h
      rw [zmin_comm] at e1
      rw [zmax_comm] at e2
      refine ⟨by rw [okJ_comm al ah bl bh e5.symm]; exact e3, ?_⟩
      unfold hitB
      rw [e1, e2, h, Bool.or_true]
theorem okJ_len {al ah bl bh : List Nat} (h : okJ al ah bl bh = true) : al.length = ah.length ∧ al.length = bl.length ∧ al.length = bh.length ∧ 1 ≤ al.length ∧ al.length ≤ 6 := by
  unfold okJ boxB checkB mayB at h
  simp only [Bool.and_eq_true, decide_eq_true_eq] at h
  have h1 := leAll_len h.1.2
  have h2 := leAll_len h.2.2
  refine ⟨h1, ?_, ?_, ?_, ?_⟩ <;> omega
theorem find_first (n i : Nat) (f : Nat → Bool) (hi : i < n) (hf : f i = true) (hb : ∀ j, j < i → f j = false) : (List.range n).find? f = some i := by
  rw [List.find?_range_eq_some]
  exact ⟨hf, List.mem_range.2 hi, fun j hj => by rw [hb j hj]; rfl⟩
theorem find_no (n : Nat) (f : Nat → Bool) (hb : ∀ j, j < n → f j = false) : (List.range n).find? f = none := by
  rw [List.find?_eq_none]
  intro j hj
  rw [hb j (List.mem_range.1 hj)]; simp
theorem joinL_no {al ah bl bh : List Nat} (h : okJ al ah bl bh = false) : joinL al ah bl bh = none := by unfold joinL; rw [h]; rfl
theorem joinL_some {al ah bl bh : List Nat} {i : Nat} (h : okJ al ah bl bh = true) (hi : i < al.length) (hf : hitB al ah bl bh i = true) (hb : ∀ j, j < i → hitB al ah bl bh j = false) : joinL al ah bl bh = some i := by
  unfold joinL; rw [if_pos h]; exact find_first _ _ _ hi hf hb
theorem joinL_none {al ah bl bh : List Nat} (hb : ∀ j, j < al.length → hitB al ah bl bh j = false) : joinL al ah bl bh = none := by
  unfold joinL; split
  · exact find_no _ _ hb
  · rfl
theorem joinL_comm (al ah bl bh : List Nat) : joinL al ah bl bh = joinL bl bh al ah := by
  have e : hitB al ah bl bh = hitB bl bh al ah := funext fun i => hit_comm al ah bl bh i
  cases h : okJ al ah bl bh with
  | true =>
    have hl := (okJ_len h).2.1
    unfold joinL
    rw [← okJ_comm al ah bl bh hl, h, e, hl]
  | false =>
    cases h2 : okJ bl bh al ah with
    | true =>
      have hl := (okJ_len h2).2.1
      rw [okJ_comm bl bh al ah hl, h] at h2
      cases h2
    | false => rw [joinL_no h, joinL_no h2]
/-- the halves of a box are joined, at the coordinate at which it was halved -/
theorem join_half {lo hi : List Nat} {i : Nat} (h : halfB lo hi (i : Int) = true) :
    joinL (xlo lo hi (i : Int)) (xhi lo hi (i : Int)) (ylo lo hi (i : Int)) (yhi lo hi (i : Int)) = some i ∧ zmin (xlo lo hi (i : Int)) (ylo lo hi (i : Int)) = lo ∧ zmax (xhi lo hi (i : Int)) (yhi lo hi (i : Int)) = hi := by
  obtain ⟨e1, e2, e3, e4⟩ := half_eqs h
  have ht : twoB lo hi lo (hi.set i (midN lo hi i)) (lo.set i (midN lo hi i + 1)) hi i = true := twoB_iff.2 ⟨h, rfl, rfl, rfl, rfl⟩
  obtain ⟨z1, z2, z3, _, _, _, z7⟩ := two_box ht
  rw [e1, e2, e3, e4]
  refine ⟨joinL_some z3 z7 (hit_two.2 (.inl ht)).2 fun j hj => ?_, z1, z2⟩
  obtain ⟨i', e, g1, g2, glen, gle, gc, f1, f2, f3⟩ := half_facts h
  have e : i = i' := by omega
  subst e
  cases hh : hitB lo (hi.set i (midN lo hi i)) (lo.set i (midN lo hi i + 1)) hi j with
  | false => rfl
  | true =>
    exfalso
    unfold hitB at hh
    rw [z1, z2] at hh
    rcases Bool.or_eq_true _ _ ▸ hh with hh | hh
    · obtain ⟨k0, _, k2, _, _⟩ := twoB_iff.1 hh
      obtain ⟨j', e, m1, m2, mlen, mle, mc, n1, n2, n3⟩ := half_facts k0
      have e : j = j' := by omega
      subst e
      have := congrArg (fun l => l[j]?) k2
      simp only [List.getElem?_set_self m2] at this
      rw [List.getElem?_set_ne (by omega), List.getElem?_eq_getElem m2] at this
      injection this with this
      omega
    · obtain ⟨k0, k1, _⟩ := twoB_iff.1 hh
      have := congrArg (fun l => l[i]?) k1
      simp only [List.getElem?_set_self g1, List.getElem?_eq_getElem g1] at this
      injection this with this
      omega
end Go.Proofs.Ytnmhdlincgefeaa.Rg
