/- The plain numbers of region: where a number stands, the least range that has cells, numbers that rise. -/
import Derived.Test.YtnmhdlincgefeaaSlMath
namespace Go.Proofs.Ytnmhdlincgefeaa.Rg
open Go.Proofs.Ytnmhdlincgefeaa.Sl (prodL cellL okC withinL rangeL countL cellL_length cellL_ok prodL_pos rangeL_length)

/-- the first k places at which x stands -/
def plc (C : List Int) (k : Nat) (x : Int) : List Nat := (List.range k).filter fun i => C.getD i 0 == x
theorem plc_zero (C : List Int) (x : Int) : plc C 0 x = [] := rfl
theorem plc_yes (C : List Int) (k : Nat) (x : Int) (h : C.getD k 0 = x) : plc C (k + 1) x = plc C k x ++ [k] := by
  unfold plc; rw [List.range_succ, List.filter_append]; simp only [List.filter_cons, List.filter_nil, h, beq_self_eq_true, if_true]
theorem plc_no (C : List Int) (k : Nat) (x : Int) (h : C.getD k 0 ≠ x) : plc C (k + 1) x = plc C k x := by
  have h' : (C.getD k 0 == x) = false := beq_eq_false_iff_ne.2 h
  unfold plc; rw [List.range_succ, List.filter_append]; simp only [List.filter_cons, List.filter_nil, h', Bool.false_eq_true, if_false, List.append_nil]
theorem plc_lt {C : List Int} {k : Nat} {x : Int} {p : Nat} (h : p ∈ plc C k x) : p < k := List.mem_range.1 (List.mem_filter.1 h).1
theorem plc_len (C : List Int) (k : Nat) (x : Int) : (plc C k x).length ≤ k := by
  have := List.length_filter_le (fun i => C.getD i 0 == x) (List.range k)
  rwa [List.length_range] at this
theorem plc_mem {C : List Int} {k : Nat} {x : Int} (hk : k ≤ C.length) : plc C k x = [] ↔ x ∉ C.take k := by
  unfold plc
  rw [List.filter_eq_nil_iff]
  constructor
  · intro h hx
    obtain ⟨i, hi, e⟩ := List.getElem_of_mem hx
    rw [List.length_take] at hi
    have := h i (List.mem_range.2 (by omega))
    rw [List.getElem_take] at e
    rw [List.getD_eq_getElem?_getD, List.getElem?_eq_getElem (by omega)] at this
    exact this (by simp [e])
  · intro h i hi
    have hi := List.mem_range.1 hi
    rw [List.getD_eq_getElem?_getD, List.getElem?_eq_getElem (by omega)]
    intro e
    refine h ?_
    have e' : C[i] = x := by simpa using e
    rw [← e']
    have hi2 : i < (C.take k).length := by rw [List.length_take]; omega
    have := List.getElem_mem hi2
    rwa [List.getElem_take] at this

def zmin (l m : List Nat) : List Nat := l.zipWith min m
def zmax (l m : List Nat) : List Nat := l.zipWith max m
theorem zmin_len {l m : List Nat} (h : l.length = m.length) : (zmin l m).length = l.length := by unfold zmin; simp; omega
theorem zmax_len {l m : List Nat} (h : l.length = m.length) : (zmax l m).length = l.length := by unfold zmax; simp; omega
theorem zmin_self (l : List Nat) : zmin l l = l := by unfold zmin; induction l with
  | nil => rfl
  | cons a l ih => rw [List.zipWith_cons_cons, ih]; simp
theorem zmax_self (l : List Nat) : zmax l l = l := by unfold zmax; induction l with
  | nil => rfl
  | cons a l ih => rw [List.zipWith_cons_cons, ih]; simp
theorem zmin_comm (l m : List Nat) : zmin l m = zmin m l := by unfold zmin; exact List.zipWith_comm_of_comm Nat.min_comm
theorem zmax_comm (l m : List Nat) : zmax l m = zmax m l := by unfold zmax; exact List.zipWith_comm_of_comm Nat.max_comm
/-- the first k numbers of one row, behind them those of another -/
def mixL (a b : List Nat) (k : Nat) : List Nat := a.take k ++ b.drop k
theorem mixL_len {a b : List Nat} (k : Nat) (h : a.length = b.length) : (mixL a b k).length = b.length := by unfold mixL; simp; omega
theorem mixL_zero (a b : List Nat) : mixL a b 0 = b := by simp [mixL]
theorem mixL_all {a b : List Nat} (h : a.length = b.length) : mixL a b b.length = a := by unfold mixL; rw [List.drop_length, ← h, List.take_length, List.append_nil]
theorem mixL_at {a b : List Nat} (k : Nat) (h : a.length = b.length) (hk : k < b.length) : (mixL a b k)[k]'(by rw [mixL_len k h]; exact hk) = b[k] := by
  unfold mixL
  rw [List.getElem_append_right (by rw [List.length_take]; omega)]
  simp only [List.length_take, List.getElem_drop]
  congr 1; omega
theorem mixL_set {a b : List Nat} (k : Nat) (h : a.length = b.length) (hk : k < b.length) : (mixL a b k).set k (a[k]'(by omega)) = mixL a b (k + 1) := by
  unfold mixL
  rw [List.set_append_right _ _ (by rw [List.length_take]; omega), List.drop_eq_getElem_cons hk, List.take_succ_eq_append_getElem (show k < a.length by omega), List.append_assoc]
  rw [show k - (a.take k).length = 0 by rw [List.length_take]; omega]
  rfl
theorem zmin_at {l m : List Nat} (k : Nat) (h : k < (zmin l m).length) (h1 : k < l.length) (h2 : k < m.length) : (zmin l m)[k] = min l[k] m[k] := by
  have : (List.zipWith min l m)[k]'(by simp; omega) = min l[k] m[k] := List.getElem_zipWith
  exact this
theorem zmax_at {l m : List Nat} (k : Nat) (h : k < (zmax l m).length) (h1 : k < l.length) (h2 : k < m.length) : (zmax l m)[k] = max l[k] m[k] := by
  have : (List.zipWith max l m)[k]'(by simp; omega) = max l[k] m[k] := List.getElem_zipWith
  exact this

/-- the least range that has the cells of places -/
def loF (S : List Nat) (l : List Nat) (ps : List Nat) : List Nat := ps.foldl (fun l p => zmin l (cellL S p)) l
def hiF (S : List Nat) (l : List Nat) (ps : List Nat) : List Nat := ps.foldl (fun l p => zmax l (cellL S p)) l
def boxF (S : List Nat) : List Nat → List Nat × List Nat
  | [] => ([], [])
  | p :: t => (loF S (cellL S p) t, hiF S (cellL S p) t)
theorem loF_snoc (S l ps : List Nat) (p : Nat) : loF S l (ps ++ [p]) = zmin (loF S l ps) (cellL S p) := by simp [loF]
theorem hiF_snoc (S l ps : List Nat) (p : Nat) : hiF S l (ps ++ [p]) = zmax (hiF S l ps) (cellL S p) := by simp [hiF]
theorem boxF_one (S : List Nat) (p : Nat) : boxF S [p] = (cellL S p, cellL S p) := rfl
theorem boxF_snoc (S ps : List Nat) (p : Nat) (h : ps ≠ []) : boxF S (ps ++ [p]) = (zmin (boxF S ps).1 (cellL S p), zmax (boxF S ps).2 (cellL S p)) := by
  cases ps with
  | nil => exact absurd rfl h
  | cons q t => simp only [List.cons_append, boxF, loF_snoc, hiF_snoc]

/-- a range of cells of such sizes -/
structure Rng (S lo hi : List Nat) : Prop where
  okl : okC S lo = true
  okh : okC S hi = true
  le : withinL lo lo hi = true
theorem okC_zmin {S c d : List Nat} (h : okC S c = true) (h' : okC S d = true) : okC S (zmin c d) = true ∧ okC S (zmax c d) = true := by
  unfold zmin zmax
  induction S generalizing c d with
  | nil => cases c <;> cases d <;> simp_all [okC]
  | cons s t ih =>
    cases c with
    | nil => cases h
    | cons x c => cases d with
      | nil => cases h'
      | cons y d =>
        simp only [okC, Bool.and_eq_true, decide_eq_true_eq, List.zipWith_cons_cons] at h h' ⊢
        have := ih h.2 h'.2
        exact ⟨⟨by omega, this.1⟩, ⟨by omega, this.2⟩⟩
theorem within_zz {S l h c : List Nat} (h1 : okC S l = true) (h2 : okC S h = true) (h3 : okC S c = true) (hw : withinL l l h = true) : withinL (zmin l c) (zmin l c) (zmax h c) = true := by
  unfold zmin zmax
  induction S generalizing l h c with
  | nil => cases l <;> cases h <;> cases c <;> simp_all [okC, withinL]
  | cons s t ih =>
    cases l with
    | nil => cases h1
    | cons x l => cases h with
      | nil => cases h2
      | cons y h => cases c with
        | nil => cases h3
        | cons z c =>
          simp only [okC, withinL, Bool.and_eq_true, decide_eq_true_eq, List.zipWith_cons_cons] at h1 h2 h3 hw ⊢
          exact ⟨⟨Nat.le_refl _, by omega⟩, ih h1.2 h2.2 h3.2 hw.2⟩
theorem within_self {S c : List Nat} (h : okC S c = true) : withinL c c c = true := by
  induction S generalizing c with
  | nil => cases c <;> simp_all [okC, withinL]
  | cons s t ih =>
    cases c with
    | nil => cases h
    | cons x c =>
      simp only [okC, withinL, Bool.and_eq_true, decide_eq_true_eq] at h ⊢
      exact ⟨⟨Nat.le_refl _, Nat.le_refl _⟩, ih h.2⟩
theorem Rng.one {S : List Nat} (hS : ∀ s ∈ S, 0 < s) (p : Nat) : Rng S (cellL S p) (cellL S p) := ⟨cellL_ok S p hS, cellL_ok S p hS, within_self (cellL_ok S p hS)⟩
theorem Rng.more {S lo hi c : List Nat} (h : Rng S lo hi) (hc : okC S c = true) : Rng S (zmin lo c) (zmax hi c) :=
  ⟨(okC_zmin h.okl hc).1, (okC_zmin h.okh hc).2, within_zz h.okl h.okh hc h.le⟩
theorem Rng.fold {S : List Nat} (hS : ∀ s ∈ S, 0 < s) (t : List Nat) : ∀ {lo hi : List Nat}, Rng S lo hi → Rng S (loF S lo t) (hiF S hi t) := by
  induction t with
  | nil => intro lo hi h; exact h
  | cons p t ih => intro lo hi h; exact ih (h.more (cellL_ok S p hS))
theorem okC_len {S c : List Nat} (h : okC S c = true) : S.length = c.length := Sl.okC_length S c h
theorem Rng.len {S lo hi : List Nat} (h : Rng S lo hi) : lo.length = hi.length := (okC_len h.okl).symm.trans (okC_len h.okh)

theorem countL_snoc (lo hi : List Nat) (k : Nat) (h1 : k < lo.length) (h2 : k < hi.length) : countL (lo.take (k + 1)) (hi.take (k + 1)) = countL (lo.take k) (hi.take k) * (hi[k] + 1 - lo[k]) := by
  induction k generalizing lo hi with
  | zero =>
    cases lo with
    | nil => simp at h1
    | cons x lo => cases hi with
      | nil => simp at h2
      | cons y hi => simp [countL]
  | succ k ih =>
    cases lo with
    | nil => simp at h1
    | cons x lo => cases hi with
      | nil => simp at h2
      | cons y hi =>
        have := ih lo hi (by simpa using h1) (by simpa using h2)
        simp only [List.take_succ_cons, countL, List.getElem_cons_succ, this, Nat.mul_assoc]
theorem countL_take {S lo hi : List Nat} (hS : ∀ s ∈ S, 0 < s) (h : Rng S lo hi) (k : Nat) : countL (lo.take k) (hi.take k) ≤ prodL S := by
  obtain ⟨h1, h2, h3⟩ := h
  induction S generalizing lo hi k with
  | nil => cases lo <;> cases hi <;> simp_all [okC, countL, prodL]
  | cons s t ih =>
    cases lo with
    | nil => cases h1
    | cons x lo => cases hi with
      | nil => cases h2
      | cons y hi =>
        simp only [okC, withinL, Bool.and_eq_true, decide_eq_true_eq] at h1 h2 h3
        have hp := prodL_pos t fun z hz => hS z (by simp [hz])
        cases k with
        | zero =>
          show 1 ≤ s * prodL t
          exact Nat.mul_pos (by omega) hp
        | succ k =>
          have := ih (fun z hz => hS z (by simp [hz])) k h1.2 h2.2 h3.2
          show (y + 1 - x) * countL (lo.take k) (hi.take k) ≤ s * prodL t
          exact Nat.mul_le_mul (by omega) this
theorem Rng.at {S lo hi : List Nat} (h : Rng S lo hi) (k : Nat) (h1 : k < lo.length) (h2 : k < hi.length) : lo[k] ≤ hi[k] ∧ hi[k] ≤ prodL S := by
  obtain ⟨o1, o2, o3⟩ := h
  induction S generalizing lo hi k with
  | nil => cases lo with
    | nil => simp at h1
    | cons x lo => cases o1
  | cons s t ih =>
    cases lo with
    | nil => cases o1
    | cons x lo => cases hi with
      | nil => cases o2
      | cons y hi =>
        simp only [okC, withinL, Bool.and_eq_true, decide_eq_true_eq] at o1 o2 o3
        have hp := prodL_pos t fun z hz => by
          have := o1.2
          clear ih o1 o2 o3 h1 h2
          induction t generalizing lo with
          | nil => simp at hz
          | cons a t ih => cases lo with
            | nil => cases this
            | cons b lo =>
              simp only [okC, Bool.and_eq_true, decide_eq_true_eq] at this
              rcases List.mem_cons.1 hz with rfl | hz
              · omega
              · exact ih lo hz this.2
        cases k with
        | zero =>
          refine ⟨o3.1.2, ?_⟩
          show y ≤ s * prodL t
          have := Nat.le_mul_of_pos_right s hp
          omega
        | succ k =>
          have := ih k (by simpa using h1) (by simpa using h2) o1.2 o2.2 o3.2
          refine ⟨this.1, ?_⟩
          show (y :: hi)[k + 1] ≤ s * prodL t
          rw [List.getElem_cons_succ]
          have := Nat.le_mul_of_pos_left (prodL t) (show 0 < s by omega)
          have := (ih k (by simpa using h1) (by simpa using h2) o1.2 o2.2 o3.2).2
          omega

/-- the range of cells at just these places; none: there is none -/
def filledL (S ps : List Nat) : Option (List Nat × List Nat) := if ps ≠ [] ∧ countL (boxF S ps).1 (boxF S ps).2 = ps.length then some (boxF S ps) else none
def lowR (r : Option (List Nat × List Nat)) : List Nat := (r.getD ([], [])).1
def highR (r : Option (List Nat × List Nat)) : List Nat := (r.getD ([], [])).2

/-- a number put among ones that rise, if it is not there -/
def insU (x : Int) : List Int → List Int
  | [] => [x]
  | y :: t => if y < x then y :: insU x t else if y = x then y :: t else x :: y :: t
def numL (C : List Int) : List Int := C.foldl (fun l x => insU x l) []
theorem numL_snoc (C : List Int) (x : Int) : numL (C ++ [x]) = insU x (numL C) := by simp [numL]
theorem insU_mem (x z : Int) (l : List Int) : z ∈ insU x l ↔ z = x ∨ z ∈ l := by
  induction l with
  | nil => simp [insU]
  | cons y t ih =>
    unfold insU
    split
    · simp only [List.mem_cons, ih]
      constructor
      · rintro (h | h | h) <;> simp [h]
      · rintro (h | h | h) <;> simp [h]
    · split
      · rename_i h; subst h; simp only [List.mem_cons]
        constructor
        · intro h; exact .inr h
        · rintro (h | h | h) <;> simp [h]
      · simp only [List.mem_cons]
theorem insU_rise (x : Int) (l : List Int) (h : l.Pairwise (· < ·)) : (insU x l).Pairwise (· < ·) := by
  induction l with
  | nil => simp [insU]
  | cons y t ih =>
    have h' := List.pairwise_cons.1 h
    unfold insU
    split
    · rename_i hy
      refine List.pairwise_cons.2 ⟨fun z hz => ?_, ih h'.2⟩
      rcases (insU_mem x z t).1 hz with rfl | hz
      · exact hy
      · exact h'.1 z hz
    · split
      · exact h
      · rename_i h1 h2
        refine List.pairwise_cons.2 ⟨fun z hz => ?_, h⟩
        rcases List.mem_cons.1 hz with rfl | hz
        · omega
        · have := h'.1 z hz; omega
theorem numL_rise (C : List Int) : (numL C).Pairwise (· < ·) := by
  have : ∀ (C l : List Int), l.Pairwise (· < ·) → (C.foldl (fun l x => insU x l) l).Pairwise (· < ·) := by
    intro C
    induction C with
    | nil => intro l h; exact h
    | cons x C ih => intro l h; exact ih _ (insU_rise x l h)
  exact this C [] List.Pairwise.nil
theorem numL_mem (C : List Int) (z : Int) : z ∈ numL C ↔ z ∈ C := by
  have : ∀ (C l : List Int), z ∈ C.foldl (fun l x => insU x l) l ↔ z ∈ l ∨ z ∈ C := by
    intro C
    induction C with
    | nil => intro l; simp
    | cons x C ih =>
      intro l
      rw [List.foldl_cons, ih, insU_mem, List.mem_cons]
      constructor
      · rintro ((h | h) | h) <;> simp [h]
      · rintro (h | h | h) <;> simp [h]
  have h := this C []
  simp only [List.not_mem_nil, false_or] at h
  exact h
theorem numL_nodup (C : List Int) : (numL C).Nodup := (numL_rise C).imp (fun h e => by omega)
theorem numL_len (C : List Int) : (numL C).length ≤ C.length := by
  have : ∀ (C l : List Int), (C.foldl (fun l x => insU x l) l).length ≤ l.length + C.length := by
    intro C
    induction C with
    | nil => intro l; simp
    | cons x C ih =>
      intro l
      have h1 := ih (insU x l)
      have h2 : (insU x l).length ≤ l.length + 1 := by
        clear h1 ih
        induction l with
        | nil => simp [insU]
        | cons y t ih =>
          unfold insU
          split
          · simp; omega
          · split <;> simp
      rw [List.foldl_cons, List.length_cons]; omega
  simpa [numL] using this C []
/-- where a number has its place -/
def posU (x : Int) (l : List Int) : Nat := (l.takeWhile fun y => decide (y < x)).length
theorem posU_le (x : Int) (l : List Int) : posU x l ≤ l.length := by
  unfold posU; exact (List.takeWhile_sublist _).length_le
theorem posU_below (x : Int) (l : List Int) (j : Nat) (h : j < posU x l) (hl : j < l.length) : l[j] < x := by
  induction l generalizing j with
  | nil => simp at hl
  | cons y t ih =>
    by_cases hy : y < x
    · have e : posU x (y :: t) = posU x t + 1 := by simp [posU, hy]
      cases j with
      | zero => exact hy
      | succ j => exact ih j (by omega) (by simpa using hl)
    · have e : posU x (y :: t) = 0 := by simp [posU, hy]
      omega
theorem posU_stop (x : Int) (l : List Int) (h : posU x l < l.length) : ¬ l[posU x l] < x := by
  induction l with
  | nil => simp at h
  | cons y t ih =>
    by_cases hy : y < x
    · have e : posU x (y :: t) = posU x t + 1 := by simp [posU, hy]
      simp only [e] at h ⊢
      exact ih (by simpa using h)
    · have e : posU x (y :: t) = 0 := by simp [posU, hy]
      simp only [e]; exact hy
theorem insU_pos (x : Int) (l : List Int) : insU x l = if l[posU x l]? = some x then l else l.take (posU x l) ++ x :: l.drop (posU x l) := by
  induction l with
  | nil => simp [insU, posU]
  | cons y t ih =>
    unfold insU
    by_cases hy : y < x
    · have e : posU x (y :: t) = posU x t + 1 := by simp [posU, hy]
      rw [if_pos hy, e, ih, List.getElem?_cons_succ]
      split <;> simp
    · have e : posU x (y :: t) = 0 := by simp [posU, hy]
      rw [if_neg hy, e, List.getElem?_cons_zero]
      by_cases h2 : y = x
      · simp [h2]
      · simp [h2]
theorem insU_same (x : Int) (l : List Int) (h : l[posU x l]? = some x) : insU x l = l := by rw [insU_pos, if_pos h]
theorem insU_new (x : Int) (l : List Int) (h : l[posU x l]? ≠ some x) : insU x l = l.take (posU x l) ++ x :: l.drop (posU x l) := by rw [insU_pos, if_neg h]
theorem insU_all (x : Int) (l : List Int) (f : Int → Bool) : (insU x l).all f = (f x && l.all f) := by
  rw [Bool.eq_iff_iff, Bool.and_eq_true, List.all_eq_true, List.all_eq_true]
  constructor
  · intro h; exact ⟨h x ((insU_mem x x l).2 (.inl rfl)), fun z hz => h z ((insU_mem x z l).2 (.inr hz))⟩
  · rintro ⟨h1, h2⟩ z hz
    rcases (insU_mem x z l).1 hz with rfl | hz
    · exact h1
    · exact h2 z hz
end Go.Proofs.Ytnmhdlincgefeaa.Rg
