/- Chains in plain numbers: the cell of a chain, the chain of a point, the chains that a box meets. -/
import Derived.Test.YtalohakibpjmmaaExLawM
namespace Go.Proofs.Ytalohakibpjmmaa.Ln
open Go.Proofs.Ytalohakibpjmmaa.Ky
open Go.Proofs.Ytalohakibpjmmaa.Pt
open Go.Proofs.Ytalohakibpjmmaa.Ex

/-- a level, and next one of it -/
def lvB (l x : Int) : Bool := (decide (0 ≤ l) && decide (l ≤ 10)) && (decide (0 ≤ x) && decide (x < 2 ^ l.toNat))
theorem pow_10 {D : Nat} (h : D ≤ 10) : 2 ^ D ≤ 1024 ∧ 1 ≤ 2 ^ D := ⟨Nat.le_trans (Nat.pow_le_pow_right (by omega) h) (by decide), Nat.one_le_two_pow⟩
theorem int_pow (L : Nat) : ((2 : Int) ^ L) = ((2 ^ L : Nat) : Int) := by simp
theorem lvB_iff {l x : Int} : lvB l x = true ↔ ∃ L X : Nat, l = (L : Int) ∧ L ≤ 10 ∧ x = (X : Int) ∧ X < 2 ^ L := by
  unfold lvB
  simp only [Bool.and_eq_true, decide_eq_true_eq]
  constructor
  · rintro ⟨⟨h1, h2⟩, h3, h4⟩
    rw [int_pow] at h4
    exact ⟨l.toNat, x.toNat, by omega, by omega, by omega, by omega⟩
  · rintro ⟨L, X, rfl, h1, rfl, h2⟩
    rw [Int.toNat_natCast, int_pow]
    omega
/-- depth and address of a chain's cell -/
def dep (L X c : Nat) : Nat := if c < 2 * X then L + 1 else L
def adr (X c : Nat) : Nat := if c < 2 * X then c else c - X
theorem dep_le {L X c : Nat} (hL : L ≤ 10) : dep L X c ≤ 11 := by unfold dep; split <;> omega
theorem adr_lt {L X c : Nat} (hX : X < 2 ^ L) (hc : c < 2 ^ L + X) : adr X c < 2 ^ dep L X c := by
  unfold adr dep
  split
  · rw [Nat.pow_succ]; omega
  · omega
/-- the chain of a point -/
def fnd (k : List Nat) (L X : Nat) : Nat := if bitsK k L < X then bitsK k (L + 1) else bitsK k L + X
theorem fnd_lt {k : List Nat} {L X : Nat} (hX : X < 2 ^ L) : fnd k L X < 2 ^ L + X := by
  have h1 := bits_lt k L
  have h2 := bits_half k L
  unfold fnd
  split <;> omega
theorem fnd_iff {k : List Nat} {L X c : Nat} : adr X c = bitsK k (dep L X c) ↔ c = fnd k L X := by
  have h2 := bits_half k L
  unfold adr dep fnd
  split <;> split <;> omega
/-- is a box met by a chain's cell? -/
def metC (n L X : Nat) (bl bh : List Nat) (c : Nat) : Bool := met n (dep L X c) bl bh (adr X c)
def rng (n L X : Nat) (bl bh : List Nat) : List Nat := (List.range (2 ^ L + X)).filter (metC n L X bl bh)
/-- what comes of an address -/
def ofA (n L X : Nat) (bl bh : List Nat) (a : Nat) : List Nat := if X ≤ a then [a + X] else [2 * a, 2 * a + 1].filter (met n (L + 1) bl bh)
def upC (X m : Nat) : Nat := if m ≤ X then 2 * m else m + X
theorem ofA_no {n L : Nat} (hn : 1 ≤ n ∧ n ≤ 6) (hL : L ≤ 10) {bl bh : List Nat} {a : Nat} (h : met n L bl bh a = false) : [2 * a, 2 * a + 1].filter (met n (L + 1) bl bh) = [] := by
  have g0 : met n (L + 1) bl bh (2 * a) = false := by
    cases hh : met n (L + 1) bl bh (2 * a) with
    | false => rfl
    | true => have := met_up hn (by omega) hh; rw [show 2 * a / 2 = a by omega, h] at this; cases this
  have g1 : met n (L + 1) bl bh (2 * a + 1) = false := by
    cases hh : met n (L + 1) bl bh (2 * a + 1) with
    | false => rfl
    | true => have := met_up hn (by omega) hh; rw [show (2 * a + 1) / 2 = a by omega, h] at this; cases this
  simp [g0, g1]
theorem flat_step {n L X : Nat} (hn : 1 ≤ n ∧ n ≤ 6) (hL : L ≤ 10) {bl bh : List Nat} (m : Nat) :
    ((List.range m).filter (met n L bl bh)).flatMap (ofA n L X bl bh) = (List.range (upC X m)).filter (metC n L X bl bh) := by
  induction m with
  | zero => simp [upC]
  | succ m ih =>
    rw [List.range_succ, List.filter_append, List.flatMap_append, ih]
    by_cases hm : m < X
    · have e1 : upC X m = 2 * m := by unfold upC; rw [if_pos (by omega)]
      have e2 : upC X (m + 1) = 2 * m + 1 + 1 := by unfold upC; rw [if_pos (by omega)]; omega
      rw [e1, e2, List.range_succ, List.range_succ, List.append_assoc, List.filter_append]
      congr 1
      have c0 : metC n L X bl bh (2 * m) = met n (L + 1) bl bh (2 * m) := by unfold metC dep adr; rw [if_pos (by omega), if_pos (by omega)]
      have c1 : metC n L X bl bh (2 * m + 1) = met n (L + 1) bl bh (2 * m + 1) := by unfold metC dep adr; rw [if_pos (by omega), if_pos (by omega)]
      have r : ([2 * m] ++ [2 * m + 1]).filter (metC n L X bl bh) = [2 * m, 2 * m + 1].filter (met n (L + 1) bl bh) := by
        simp only [List.singleton_append, List.filter_cons, c0, c1, List.filter_nil]
      rw [r]
      cases h : met n L bl bh m with
      | true =>
        rw [show [m].filter (met n L bl bh) = [m] by simp [h]]
        simp only [List.flatMap_cons, List.flatMap_nil, List.append_nil]
        unfold ofA
        rw [if_neg (by omega)]
      | false =>
        rw [show [m].filter (met n L bl bh) = [] by simp [h], ofA_no hn hL h]
        rfl
    · have e1 : upC X m = m + X := by unfold upC; split <;> omega
      have e2 : upC X (m + 1) = m + X + 1 := by unfold upC; split <;> omega
      rw [e1, e2, List.range_succ, List.filter_append]
      congr 1
      have c0 : metC n L X bl bh (m + X) = met n L bl bh m := by unfold metC dep adr; rw [if_neg (by omega), if_neg (by omega), Nat.add_sub_cancel]
      cases h : met n L bl bh m with
      | true =>
        rw [show [m].filter (met n L bl bh) = [m] by simp [h], show [m + X].filter (metC n L X bl bh) = [m + X] by simp [c0, h]]
        simp only [List.flatMap_cons, List.flatMap_nil, List.append_nil]
        unfold ofA
        rw [if_pos (by omega)]
      | false =>
        rw [show [m].filter (met n L bl bh) = [] by simp [h], show [m + X].filter (metC n L X bl bh) = [] by simp [c0, h]]
        rfl
theorem flat_all {n L X : Nat} (hn : 1 ≤ n ∧ n ≤ 6) (hL : L ≤ 10) (hX : X < 2 ^ L) {bl bh : List Nat} :
    (rangeL n L bl bh).flatMap (ofA n L X bl bh) = rng n L X bl bh := by
  unfold rangeL rng
  rw [flat_step hn hL, show upC X (2 ^ L) = 2 ^ L + X by unfold upC; rw [if_neg (by omega)]]
theorem rng_len (n L X : Nat) (bl bh : List Nat) : (rng n L X bl bh).length ≤ 2 ^ L + X := by
  unfold rng; exact Nat.le_trans (List.length_filter_le _ _) (by simp)
theorem ofA_len (n L X : Nat) (bl bh : List Nat) (a : Nat) : (ofA n L X bl bh a).length ≤ 2 := by
  unfold ofA
  split
  · simp
  · exact Nat.le_trans (List.length_filter_le _ _) (by simp)
/-- a list's first addresses, gone through -/
def outL (n L X : Nat) (bl bh : List Nat) (A : List Nat) (i : Nat) : List Nat := (A.take i).flatMap (ofA n L X bl bh)
theorem outL_zero (n L X : Nat) (bl bh A : List Nat) : outL n L X bl bh A 0 = [] := by simp [outL]
theorem outL_next {n L X : Nat} {bl bh A : List Nat} {i : Nat} (h : i < A.length) : outL n L X bl bh A (i + 1) = outL n L X bl bh A i ++ ofA n L X bl bh A[i] := by
  unfold outL
  rw [List.take_succ_eq_append_getElem h, List.flatMap_append]
  simp
theorem outL_all (n L X : Nat) (bl bh A : List Nat) : outL n L X bl bh A A.length = A.flatMap (ofA n L X bl bh) := by simp [outL]
theorem outL_len (n L X : Nat) (bl bh A : List Nat) (i : Nat) : (outL n L X bl bh A i).length ≤ 2 * i := by
  induction i with
  | zero => simp [outL]
  | succ i ih =>
    by_cases h : i < A.length
    · rw [outL_next h, List.length_append]
      have := ofA_len n L X bl bh A[i]
      omega
    · have : outL n L X bl bh A (i + 1) = outL n L X bl bh A i := by
        unfold outL; rw [List.take_of_length_le (by omega), List.take_of_length_le (by omega)]
      rw [this]; omega
end Go.Proofs.Ytalohakibpjmmaa.Ln
