/- Halves, in plain lists. -/
import Derived.Test.YtnmhdlincgefeaaPtHalf2
namespace Go.Proofs.Ytnmhdlincgefeaa.Pt
open Go.RowKit
open Go.Lib (hid)
open Go.Proofs.Ytnmhdlincgefeaa.Ky
open Go.Proofs.Ytnmhdlincgefeaa.Bk
theorem le_set_r {k h : List Nat} {i m : Nat} (hi : i < h.length) (hm : m ≤ h[i]) : leAll k (h.set i m) = (leAll k h && decide (k.getD i 0 ≤ m)) := by
  rw [Bool.eq_iff_iff, Bool.and_eq_true, leAll_iff, leAll_iff, decide_eq_true_eq]
  constructor
  · rintro ⟨h1, h2⟩
    rw [List.length_set] at h1
    refine ⟨⟨h1, fun j hj hj' => ?_⟩, ?_⟩
    · have := h2 j hj (by rw [List.length_set]; exact hj')
      by_cases e : i = j
      · subst e; rw [List.getElem_set_self] at this; omega
      · rw [List.getElem_set_ne e] at this; exact this
    · have := h2 i (by omega) (by rw [List.length_set]; exact hi)
      rw [List.getElem_set_self] at this
      rw [List.getD_eq_getElem?_getD, List.getElem?_eq_getElem (by omega)]; exact this
  · rintro ⟨⟨h1, h2⟩, h3⟩
    refine ⟨by rw [List.length_set]; exact h1, fun j hj hj' => ?_⟩
    rw [List.length_set] at hj'
    by_cases e : i = j
    · subst e
      rw [List.getElem_set_self]
      rw [List.getD_eq_getElem?_getD, List.getElem?_eq_getElem hj] at h3
      exact h3
    · rw [List.getElem_set_ne e]; exact h2 j hj hj'
theorem le_set_l {k l : List Nat} {i m : Nat} (hi : i < l.length) (hm : l[i] ≤ m) (hk : l.length = k.length) : leAll (l.set i m) k = (leAll l k && decide (m ≤ k.getD i 0)) := by
  rw [Bool.eq_iff_iff, Bool.and_eq_true, leAll_iff, leAll_iff, decide_eq_true_eq]
  constructor
  · rintro ⟨h1, h2⟩
    rw [List.length_set] at h1
    refine ⟨⟨h1, fun j hj hj' => ?_⟩, ?_⟩
    · have := h2 j (by rw [List.length_set]; exact hj) hj'
      by_cases e : i = j
      · subst e; rw [List.getElem_set_self] at this; omega
      · rw [List.getElem_set_ne e] at this; exact this
    · have := h2 i (by rw [List.length_set]; exact hi) (by omega)
      rw [List.getElem_set_self] at this
      rw [List.getD_eq_getElem?_getD, List.getElem?_eq_getElem (by omega)]; exact this
  · rintro ⟨⟨h1, h2⟩, h3⟩
    refine ⟨by rw [List.length_set]; exact h1, fun j hj hj' => ?_⟩
    rw [List.length_set] at hj
    by_cases e : i = j
    · subst e
      rw [List.getElem_set_self]
      rw [List.getD_eq_getElem?_getD, List.getElem?_eq_getElem hj'] at h3
      exact h3
    · rw [List.getElem_set_ne e]; exact h2 j hj hj'
/-- what is known of a box that can be halved -/
theorem half_facts {lo hi : List Nat} {a : Int} (h : halfB lo hi a = true) : ∃ i : Nat, a = (i : Int) ∧ ∃ (h1 : i < lo.length) (h2 : i < hi.length), lo.length = hi.length ∧ leAll lo hi = true ∧ checkB lo.length (lo.length : Int) = true ∧ lo[i] < hi[i] ∧ lo[i] ≤ midN lo hi i ∧ midN lo hi i < hi[i] := by
  unfold halfB boxB at h
  simp only [Bool.and_eq_true, decide_eq_true_eq, Bool.not_eq_true', decide_eq_false_iff_not] at h
  obtain ⟨⟨hc, hle⟩, ⟨h0, h1⟩, hne⟩ := h
  have hlen := leAll_len hle
  obtain ⟨i, rfl⟩ : ∃ i : Nat, a = (i : Int) := ⟨a.toNat, by omega⟩
  have hil : i < lo.length := by omega
  have hih : i < hi.length := by omega
  rw [Int.toNat_natCast, List.getD_eq_getElem?_getD, List.getD_eq_getElem?_getD, List.getElem?_eq_getElem hil, List.getElem?_eq_getElem hih] at hne
  have h3 := (leAll_iff.1 hle).2 i hil hih
  have hm : midN lo hi i = lo[i] + (hi[i] - lo[i]) / 2 := by
    unfold midN
    rw [List.getD_eq_getElem?_getD, List.getD_eq_getElem?_getD, List.getElem?_eq_getElem hil, List.getElem?_eq_getElem hih]; rfl
  have h4 : lo[i] ≠ hi[i] := hne
  exact ⟨i, rfl, hil, hih, hlen, hle, hc, by omega, by omega, by omega⟩
theorem half_in {lo hi : List Nat} {a : Int} (h : halfB lo hi a = true) (k : List Nat) : inB k lo hi = (inB k (xlo lo hi a) (xhi lo hi a) || inB k (ylo lo hi a) (yhi lo hi a)) ∧ (inB k (xlo lo hi a) (xhi lo hi a) && inB k (ylo lo hi a) (yhi lo hi a)) = false := by
  obtain ⟨i, rfl, h1, h2, hlen, hle, hc, h3, h4, h5⟩ := half_facts h
  have e1 : xlo lo hi (i : Int) = lo := by unfold xlo; rw [h]; rfl
  have e2 : xhi lo hi (i : Int) = hi.set i (midN lo hi i) := by unfold xhi; rw [h, Int.toNat_natCast]; rfl
  have e3 : ylo lo hi (i : Int) = lo.set i (midN lo hi i + 1) := by unfold ylo; rw [h, Int.toNat_natCast]; rfl
  have e4 : yhi lo hi (i : Int) = hi := by unfold yhi; rw [h]; rfl
  rw [e1, e2, e3, e4]
  by_cases hk : lo.length = k.length
  · unfold inB
    rw [le_set_r h2 (by omega), le_set_l h1 (by omega) hk]
    cases leAll lo k <;> cases leAll k hi <;> simp <;> omega
  · have z1 : inB k lo hi = false := by unfold inB; rw [leAll_ne hk, Bool.false_and]
    have z2 : inB k lo (hi.set i (midN lo hi i)) = false := by unfold inB; rw [leAll_ne hk, Bool.false_and]
    have z3 : inB k (lo.set i (midN lo hi i + 1)) hi = false := by unfold inB; rw [leAll_ne (by rw [List.length_set]; exact hk), Bool.false_and]
    rw [z1, z2, z3]
    exact ⟨rfl, rfl⟩
theorem half_box {lo hi : List Nat} {a : Int} (h : halfB lo hi a = true) : boxB (xlo lo hi a) (xhi lo hi a) (lo.length : Int) = true ∧ boxB (ylo lo hi a) (yhi lo hi a) (lo.length : Int) = true := by
  obtain ⟨i, rfl, h1, h2, hlen, hle, hc, h3, h4, h5⟩ := half_facts h
  have e1 : xlo lo hi (i : Int) = lo := by unfold xlo; rw [h]; rfl
  have e2 : xhi lo hi (i : Int) = hi.set i (midN lo hi i) := by unfold xhi; rw [h, Int.toNat_natCast]; rfl
  have e3 : ylo lo hi (i : Int) = lo.set i (midN lo hi i + 1) := by unfold ylo; rw [h, Int.toNat_natCast]; rfl
  have e4 : yhi lo hi (i : Int) = hi := by unfold yhi; rw [h]; rfl
  rw [e1, e2, e3, e4]
  unfold boxB
  have g1 : lo.getD i 0 = lo[i] := by rw [List.getD_eq_getElem?_getD, List.getElem?_eq_getElem h1]; rfl
  have g2 : hi.getD i 0 = hi[i] := by rw [List.getD_eq_getElem?_getD, List.getElem?_eq_getElem h2]; rfl
  rw [List.length_set, hc, le_set_r h2 (by omega), le_set_l h1 (by omega) hlen, hle, g1, g2]
  simp; omega
theorem in_at {k lo hi : List Nat} (h : inB k lo hi = true) : k.length = lo.length ∧ k.length = hi.length ∧ ∀ j (h1 : j < k.length) (h2 : j < lo.length) (h3 : j < hi.length), lo[j] ≤ k[j] ∧ k[j] ≤ hi[j] := by
  unfold inB at h
  simp only [Bool.and_eq_true] at h
  obtain ⟨x1, x2⟩ := leAll_iff.1 h.1
  obtain ⟨y1, y2⟩ := leAll_iff.1 h.2
  exact ⟨x1.symm, y1, fun j h1 h2 h3 => ⟨x2 j h2 h1, y2 j h1 h3⟩⟩
end Go.Proofs.Ytnmhdlincgefeaa.Pt
