/- Lists of records in memory. -/
import Derived.Test.YtnmhdlincgefeaaBkMath
import Derived.Test.YtnmhdlincgefeaaKyCmp
import Derived.Deep.AppendLies
import Derived.Deep.AppendSrc
namespace Go.Proofs.Ytnmhdlincgefeaa.Bk
open Go.RowKit
open Go.Lib (hid)
open Go.Proofs.Ytnmhdlincgefeaa.Ky

/-- nothing but the blocks D has turned -/
structure Keep (D : Nat → Prop) (w w' : World) : Prop where
  size : w.heap.size ≤ w'.heap.size
  block : ∀ k, k < w.heap.size → ¬ D k → w'.heap[k]? = w.heap[k]?
theorem Keep.below {D : Nat → Prop} {w w' : World} (h : Below w.heap.size w w') : Keep D w w' := ⟨h.size, fun k hk _ => h.block k hk⟩
theorem Keep.cell {D : Nat → Prop} {w w' : World} (h : Keep D w w') {b i : Nat} (hb : b < w.heap.size) (hD : ¬ D b) : w'.cell? ⟨b, i, none⟩ = w.cell? ⟨b, i, none⟩ := World.cell?_of_block (h.block b hb hD)
/-- a point whose block is none of D -/
structure PtD (D : Nat → Prop) (w : World) (p : Option Addr) (l : List Nat) : Prop where
  cells : ∀ j, (hj : j < l.length) → ∃ b off, p = some ⟨b, off, none⟩ ∧ b < w.heap.size ∧ ¬ D b ∧ w.cell? ⟨b, off + j, none⟩ = some (.int .u32 (l[j] : Int))
  fit : ∀ j, (hj : j < l.length) → l[j] < 4294967296
section
variable {D D' : Nat → Prop} {w w' : World} {p : Option Addr} {l : List Nat}
theorem PtD.pt (h : PtD D w p l) : Pt w p l := ⟨fun j hj => by
  obtain ⟨b, off, h1, h2, _, h3⟩ := h.cells j hj
  exact ⟨b, off, h1, h2, h3⟩, h.fit⟩
theorem PtD.keep (h : PtD D w p l) (hk : Keep D w w') : PtD D w' p l := ⟨fun j hj => by
  obtain ⟨b, off, h1, h2, h3, h4⟩ := h.cells j hj
  exact ⟨b, off, h1, Nat.lt_of_lt_of_le h2 hk.size, h3, (hk.cell h2 h3).trans h4⟩, h.fit⟩
theorem PtD.less (h : PtD D w p l) (hd : ∀ b, b < w.heap.size → D' b → D b) : PtD D' w p l := ⟨fun j hj => by
  obtain ⟨b, off, h1, h2, h3, h4⟩ := h.cells j hj
  exact ⟨b, off, h1, h2, fun hb => h3 (hd b h2 hb), h4⟩, h.fit⟩
end
/-- a point in blocks that are none of D; the cells xs are records L -/
def RC (D : Nat → Prop) (w : World) (xs : List Value) (L : List Rec) : Prop :=
  xs.length = L.length * 2 ∧ ∀ j, (hj : j < L.length) → ∃ q c, xs[j * 2]? = some (.slice q L[j].1.length c) ∧ xs[j * 2 + 1]? = some (.string L[j].2) ∧ PtD D w q L[j].1
section
variable {D D' : Nat → Prop} {w w' : World} {xs ys : List Value} {L M : List Rec}
theorem RC.nil : RC D w [] [] := ⟨rfl, fun j hj => absurd hj (by simp)⟩
theorem RC.keep (h : RC D w xs L) (hk : Keep D w w') : RC D w' xs L := ⟨h.1, fun j hj => by
  obtain ⟨q, c, h1, h2, h3⟩ := h.2 j hj
  exact ⟨q, c, h1, h2, h3.keep hk⟩⟩
theorem RC.less (h : RC D w xs L) (hd : ∀ b, b < w.heap.size → D' b → D b) : RC D' w xs L := ⟨h.1, fun j hj => by
  obtain ⟨q, c, h1, h2, h3⟩ := h.2 j hj
  exact ⟨q, c, h1, h2, h3.less hd⟩⟩
theorem RC.below (h : RC D w xs L) (hb : Below w.heap.size w w') : RC D w' xs L := h.keep (.below hb)
theorem RC.app (h : RC D w xs L) (g : RC D w ys M) : RC D w (xs ++ ys) (L ++ M) := by
  refine ⟨by rw [List.length_append, List.length_append, h.1, g.1]; omega, fun j hj => ?_⟩
  rw [List.length_append] at hj
  by_cases hl : j < L.length
  · obtain ⟨q, c, h1, h2, h3⟩ := h.2 j hl
    refine ⟨q, c, ?_, ?_, ?_⟩
    · rw [List.getElem?_append_left (by rw [h.1]; omega), h1]; congr 1; rw [List.getElem_append_left hl]
    · rw [List.getElem?_append_left (by rw [h.1]; omega), h2]; congr 1; rw [List.getElem_append_left hl]
    · rw [List.getElem_append_left hl]; exact h3
  · obtain ⟨q, c, h1, h2, h3⟩ := g.2 (j - L.length) (by omega)
    have e1 : j * 2 - xs.length = (j - L.length) * 2 := by rw [h.1]; omega
    have e2 : j * 2 + 1 - xs.length = (j - L.length) * 2 + 1 := by rw [h.1]; omega
    have e3 : (L ++ M)[j]'(by rw [List.length_append]; omega) = M[j - L.length]'(by omega) := List.getElem_append_right (by omega)
    refine ⟨q, c, ?_, ?_, ?_⟩
    · rw [List.getElem?_append_right (by rw [h.1]; omega), e1, h1, e3]
    · rw [List.getElem?_append_right (by rw [h.1]; omega), e2, h2, e3]
    · rw [e3]; exact h3
theorem RC.take (h : RC D w xs L) (n : Nat) (hn : n ≤ L.length) : RC D w (xs.take (n * 2)) (L.take n) := by
  refine ⟨by rw [List.length_take, List.length_take, h.1]; omega, fun j hj => ?_⟩
  have hj2 : j < n := by rw [List.length_take] at hj; omega
  obtain ⟨q, c, h1, h2, h3⟩ := h.2 j (by omega)
  have e3 : (L.take n)[j] = L[j]'(by omega) := List.getElem_take
  exact ⟨q, c, by rw [List.getElem?_take_of_lt (by omega), h1, e3], by rw [List.getElem?_take_of_lt (by omega), h2, e3], by rw [e3]; exact h3⟩
theorem RC.drop (h : RC D w xs L) (n : Nat) (hn : n ≤ L.length) : RC D w (xs.drop (n * 2)) (L.drop n) := by
  refine ⟨by rw [List.length_drop, List.length_drop, h.1]; omega, fun j hj => ?_⟩
  have hj2 : n + j < L.length := by rw [List.length_drop] at hj; omega
  obtain ⟨q, c, h1, h2, h3⟩ := h.2 (n + j) hj2
  have e3 : (L.drop n)[j] = L[n + j]'(by omega) := List.getElem_drop
  exact ⟨q, c, by rw [List.getElem?_drop, show n * 2 + j * 2 = (n + j) * 2 by omega, h1, e3], by rw [List.getElem?_drop, show n * 2 + (j * 2 + 1) = (n + j) * 2 + 1 by omega, h2, e3], by rw [e3]; exact h3⟩
theorem RC.one {q : Option Addr} {k : List Nat} {c : Nat} {t : ByteArray} (h : PtD D w q k) : RC D w [.slice q k.length c, .string t] [(k, t)] :=
  ⟨rfl, fun j hj => by
    have : j = 0 := by simpa using hj
    subst this
    exact ⟨q, c, rfl, rfl, h⟩⟩
theorem RC.oneCell (h : RC D w xs L) : ∀ u ∈ xs, u.oneCell' = true := by
  intro u hu
  obtain ⟨i, hi, rfl⟩ := List.getElem_of_mem hu
  rw [h.1] at hi
  obtain ⟨q, c, h1, h2, _⟩ := h.2 (i / 2) (by omega)
  rcases Nat.mod_two_eq_zero_or_one i with e | e
  · rw [show i / 2 * 2 = i by omega] at h1
    rw [List.getElem?_eq_some_iff] at h1
    obtain ⟨_, h1⟩ := h1
    rw [h1]; rfl
  · rw [show i / 2 * 2 + 1 = i by omega] at h2
    rw [List.getElem?_eq_some_iff] at h2
    obtain ⟨_, h2⟩ := h2
    rw [h2]; rfl
end
/-- a list of records that is read: its cells, whatever it begins at; no block of it and of its points is in D -/
def Rs (D : Nat → Prop) (w : World) (p : Option Addr) (L : List Rec) : Prop :=
  ∃ xs, RC D w xs L ∧ ∀ j u, xs[j]? = some u → ∃ b off, p = some ⟨b, off, none⟩ ∧ b < w.heap.size ∧ ¬ D b ∧ w.cell? ⟨b, off + j, none⟩ = some u
section
variable {D D' : Nat → Prop} {w w' : World} {p : Option Addr} {L : List Rec}
theorem Rs.nil (p : Option Addr) : Rs D w p [] := ⟨[], RC.nil, fun j u h => absurd h (by simp)⟩
theorem Rs.keep (h : Rs D w p L) (hk : Keep D w w') : Rs D w' p L := by
  obtain ⟨xs, h1, h2⟩ := h
  refine ⟨xs, h1.keep hk, fun j u hj => ?_⟩
  obtain ⟨b, off, g1, g2, g3, g4⟩ := h2 j u hj
  exact ⟨b, off, g1, Nat.lt_of_lt_of_le g2 hk.size, g3, (hk.cell g2 g3).trans g4⟩
theorem Rs.below (h : Rs D w p L) (hb : Below w.heap.size w w') : Rs D w' p L := h.keep (.below hb)
theorem Rs.less (h : Rs D w p L) (hd : ∀ b, b < w.heap.size → D' b → D b) : Rs D' w p L := by
  obtain ⟨xs, h1, h2⟩ := h
  refine ⟨xs, h1.less hd, fun j u hj => ?_⟩
  obtain ⟨b, off, g1, g2, g3, g4⟩ := h2 j u hj
  exact ⟨b, off, g1, g2, fun hb => g3 (hd b g2 hb), g4⟩
/-- the cells of the j-th record, and its point -/
theorem Rs.at (h : Rs D w p L) (j : Nat) (hj : j < L.length) :
    ∃ b off q c, p = some ⟨b, off, none⟩ ∧ b < w.heap.size ∧ w.cell? ⟨b, off + j * 2, none⟩ = some (.slice q L[j].1.length c) ∧ w.cell? ⟨b, off + j * 2 + 1, none⟩ = some (.string L[j].2) ∧ PtD D w q L[j].1 := by
  obtain ⟨xs, h1, h2⟩ := h
  obtain ⟨q, c, g1, g2, g3⟩ := h1.2 j hj
  obtain ⟨b, off, e1, e2, _, e3⟩ := h2 _ _ g1
  obtain ⟨b', off', f1, _, _, f3⟩ := h2 _ _ g2
  rw [e1] at f1
  cases f1
  exact ⟨b, off, q, c, e1, e2, e3, f3, g3⟩
theorem Rs.drew (h : Rs D w p L) : Rs D w.drew p L := h.keep ⟨Nat.le_refl _, fun _ _ _ => rfl⟩
theorem Rs.drewN (h : Rs D w p L) (n : Nat) : Rs D (w.drewN n) p L := h.keep ⟨Nat.le_refl _, fun _ _ _ => rfl⟩
theorem Rs.alloc (h : Rs D w p L) (o : Obj) : Rs D (w.alloc o) p L := h.below (below_alloc w o)
end
theorem addr_add (b o i : Nat) : (⟨b, o, none⟩ : Addr).add i = ⟨b, o + i, none⟩ := by unfold Addr.add; split <;> simp_all
/-- a slice of a list -/
def cutP (p : Option Addr) (n : Nat) : Option Addr := p.map fun a => a.add n
theorem Rs.take {D : Nat → Prop} {w : World} {p : Option Addr} {L : List Rec} (h : Rs D w p L) (n : Nat) (hn : n ≤ L.length) : Rs D w p (L.take n) := by
  obtain ⟨xs, h1, h2⟩ := h
  refine ⟨xs.take (n * 2), h1.take n hn, fun j u hj => h2 j u ?_⟩
  rw [List.getElem?_take] at hj
  split at hj
  · exact hj
  · cases hj
theorem Rs.drop {D : Nat → Prop} {w : World} {p : Option Addr} {L : List Rec} (h : Rs D w p L) (n : Nat) (hn : n ≤ L.length) : Rs D w (cutP p (n * 2)) (L.drop n) := by
  obtain ⟨xs, h1, h2⟩ := h
  refine ⟨xs.drop (n * 2), h1.drop n hn, fun j u hj => ?_⟩
  rw [List.getElem?_drop] at hj
  obtain ⟨b, off, e1, e2, e3, e4⟩ := h2 _ _ hj
  refine ⟨b, off + n * 2, by rw [e1]; unfold cutP; simp [addr_add], e2, e3, ?_⟩
  rw [← e4]; congr 2; omega
/-- the blocks that are there, from N on -/
def Ge (N : Nat) : Nat → Prop := fun k => N ≤ k
end Go.Proofs.Ytnmhdlincgefeaa.Bk
