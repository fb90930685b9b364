/- Partial of both sides. -/
import Derived.Test.YtnmhdlincgefeaaKyRep
namespace Go.Proofs.Ytnmhdlincgefeaa.Ky
open Go.RowKit
open Go.Lib (hid)

/-- a list of numbers that came in -/
structure Is (w : World) (p : Option Addr) (l : List Int) : Prop where
  cells : ∀ j, (hj : j < l.length) → ∃ b off, p = some ⟨b, off, none⟩ ∧ b < w.heap.size ∧ w.cell? ⟨b, off + j, none⟩ = some (.int .i64 l[j])
  fit : ∀ j, (hj : j < l.length) → -9223372036854775808 ≤ l[j] ∧ l[j] ≤ 9223372036854775807
theorem Is.below {w w' : World} {p : Option Addr} {l : List Int} (h : Is w p l) (hb : Below w.heap.size w w') : Is w' p l :=
  ⟨fun j hj => by
    obtain ⟨b, off, e, hlt, hc⟩ := h.cells j hj
    exact ⟨b, off, e, Nat.lt_of_lt_of_le hlt hb.size, (hb.cell hlt).trans hc⟩, h.fit⟩
/-- the first k put in -/
def putsK (b : List Nat) (at_ : List Int) (k : List Nat) (j : Nat) : List Nat := puts b (at_.take j) (k.take j)
theorem puts_snoc (b : List Nat) (at_ : List Int) (k : List Nat) (c : Int) (x : Nat) (h : at_.length = k.length) : puts b (at_ ++ [c]) (k ++ [x]) = (puts b at_ k).set c.toNat x := by
  induction at_ generalizing b k with
  | nil => cases k with
    | nil => rfl
    | cons _ _ => simp at h
  | cons a l ih => cases k with
    | nil => simp at h
    | cons y m => simp only [List.cons_append, puts]; exact ih _ _ (by simpa using h)
theorem putsK_more (b : List Nat) (at_ : List Int) (k : List Nat) (j : Nat) (h : at_.length = k.length) (h1 : j < at_.length) (h2 : j < k.length) : (putsK b at_ k j).set at_[j].toNat k[j] = putsK b at_ k (j + 1) := by
  unfold putsK
  rw [List.take_succ_eq_append_getElem h1, List.take_succ_eq_append_getElem h2, puts_snoc _ _ _ _ _ (by simp; omega)]
theorem putsK_all (b : List Nat) (at_ : List Int) (k : List Nat) (h : at_.length = k.length) : putsK b at_ k at_.length = puts b at_ k := by
  unfold putsK; rw [List.take_length, h, List.take_length]
theorem puts_length (b : List Nat) (at_ : List Int) (k : List Nat) : (puts b at_ k).length = b.length := by
  induction at_ generalizing b k with
  | nil => cases k <;> rfl
  | cons a l ih => cases k with
    | nil => rfl
    | cons y m => simp only [puts]; rw [ih]; simp
theorem puts_fit (b : List Nat) (at_ : List Int) (k : List Nat) (hb : ∀ x ∈ b, x < 4294967296) (hk : ∀ x ∈ k, x < 4294967296) : ∀ x ∈ puts b at_ k, x < 4294967296 := by
  induction at_ generalizing b k with
  | nil => cases k <;> exact hb
  | cons a l ih => cases k with
    | nil => exact hb
    | cons y m =>
      simp only [puts]
      refine ih _ _ (fun x hx => ?_) (fun x hx => hk x (by simp [hx]))
      rcases List.mem_or_eq_of_mem_set hx with h | rfl
      · exact hb x h
      · exact hk _ (by simp)
/-- what the next one may be at least, behind the first j -/
def leastK (at_ : List Int) : Nat → Int
  | 0 => 0
  | j + 1 => at_.getD j 0 + 1
theorem rises_drop (dim : Nat) (at_ : List Int) (j : Nat) (h : j < at_.length) : rises dim (leastK at_ j) (at_.drop j) = (decide (leastK at_ j ≤ at_[j]) && (decide (at_[j] < dim) && rises dim (leastK at_ (j + 1)) (at_.drop (j + 1)))) := by
  rw [List.drop_eq_getElem_cons h]
  simp only [rises, leastK]
  rw [List.getD_eq_getElem?_getD, List.getElem?_eq_getElem h]; rfl
/-- the loop's relation -/
def PR (w : World) (g8 gl gh D : Nat) (at_ : List Int) (k : List Nat) (lv iv : Value) (wr : World) : Prop :=
  ∃ j : Nat, j ≤ at_.length ∧ iv = .int .i64 j ∧ lv = .int .i64 (leastK at_ j) ∧ rises D (leastK at_ j) (at_.drop j) = rises D 0 at_ ∧ (0 ≤ leastK at_ j ∧ leastK at_ j ≤ D) ∧
    Own wr gl (putsK (List.replicate D 0) at_ k j) ∧ Own wr gh (putsK (List.replicate D 4294967295) at_ k j) ∧ wr.heap[g8]? = some (.cells #[.slice (some ⟨gl, 0, none⟩) D D, .slice (some ⟨gh, 0, none⟩) D D] 43 (0, 0)) ∧
    wr.heap[w.heap.size]? = some (.cells #[Value.slice none 0 0, .slice none 0 0] 43 (0, 0)) ∧ Below w.heap.size w wr
theorem part_no {w w' : World} {dim : Int} {at_ : List Int} {k : List Nat} (h : partOk dim at_ k = false) (hb : Below w.heap.size w w') :
    NewBox w (partLo dim at_ k) (partHi dim at_ k) (.int .i64 (err (partOk dim at_ k))) (.returned (.tuple #[.agg #[.slice none 0 0, .slice none 0 0], .int .i64 1])) w' := by
  have e1 : partLo dim at_ k = [] := by simp [partLo, h]
  have e2 : partHi dim at_ k = [] := by simp [partHi, h]
  rw [h, e1, e2]
  exact ⟨none, 0, none, 0, rfl, Pt.nil _ _, Pt.nil _ _, hb⟩
theorem part_yes {w w' : World} {D gl gh : Nat} {at_ : List Int} {k : List Nat} (h : partOk (D : Int) at_ k = true) (hk : ∀ x ∈ k, x < 4294967296)
    (h1 : Own w' gl (puts (List.replicate D 0) at_ k)) (h2 : Own w' gh (puts (List.replicate D 4294967295) at_ k)) (hb : Below w.heap.size w w') :
    NewBox w (partLo D at_ k) (partHi D at_ k) (.int .i64 (err (partOk D at_ k))) (.returned (.tuple #[.agg #[.slice (some ⟨gl, 0, none⟩) D D, .slice (some ⟨gh, 0, none⟩) D D], .int .i64 0])) w' := by
  have e1 : partLo D at_ k = puts (List.replicate D 0) at_ k := by simp [partLo, h, lowW]
  have e2 : partHi D at_ k = puts (List.replicate D 4294967295) at_ k := by simp [partHi, h, highW]
  rw [h, e1, e2]
  refine ⟨_, D, _, D, by rw [puts_length, puts_length, List.length_replicate, List.length_replicate]; rfl, h1.pt (puts_fit _ _ _ (rep_fit _ _ (by omega)) hk), h2.pt (puts_fit _ _ _ (rep_fit _ _ (by omega)) hk), hb⟩
/-- nothing but the result's variable is stored to, once more -/
theorem zero_again {w V : World} (hb : Below w.heap.size w V) (hz : V.heap[w.heap.size]? = some (.cells #[Value.slice none 0 0, .slice none 0 0] 43 (0, 0))) :
    Below w.heap.size w ((V.setCell ⟨w.heap.size, 0, none⟩ (.slice none 0 0)).setCell ⟨w.heap.size, 1, none⟩ (.slice none 0 0)) ∧ ((V.setCell ⟨w.heap.size, 0, none⟩ (.slice none 0 0)).setCell ⟨w.heap.size, 1, none⟩ (.slice none 0 0)).cell? ⟨w.heap.size, 0, none⟩ = some (.slice none 0 0) ∧ ((V.setCell ⟨w.heap.size, 0, none⟩ (.slice none 0 0)).setCell ⟨w.heap.size, 1, none⟩ (.slice none 0 0)).cell? ⟨w.heap.size, 1, none⟩ = some (.slice none 0 0) :=
  have h := store_out (lo := []) (hi := []) (A := none) (A' := none) hb (Nat.le_refl _) hz (Pt.nil _ _) (Pt.nil _ _) (.slice none 0 0) (.slice none 0 0) (by simp)
  ⟨h.2.2.1, h.2.2.2⟩
end Go.Proofs.Ytnmhdlincgefeaa.Ky
