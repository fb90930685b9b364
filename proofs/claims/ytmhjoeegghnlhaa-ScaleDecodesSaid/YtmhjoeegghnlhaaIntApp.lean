/- Appends of ints: onto a slice without room, and onto a row of the call's own; a store into what was made. -/
import Derived.Test.YtmhjoeegghnlhaaBkApp
import Derived.Test.YtmhjoeegghnlhaaKyPart
namespace Go.Proofs.Ytmhjoeegghnlhaa.Bk
open Go.RowKit
open Go.Lib (hid)
open Go.Proofs.Ytmhjoeegghnlhaa.Ky

theorem iinfo : (Try.prog.info? 3).map (fun i => (i.zero, i.size, i.bytes)) = some (some (.int .i64 0), 1, 8) := by kernel_rfl
/-- cells of ints -/
def il (l : List Int) : List Value := l.map fun x => Value.int .i64 x
theorem il_length (l : List Int) : (il l).length = l.length := by simp [il]
theorem il_one (l : List Int) : ∀ u ∈ il l, u.oneCell' = true := fun u hu => by
  obtain ⟨x, _, rfl⟩ := List.mem_map.1 hu
  rfl
theorem il_append (l m : List Int) : il (l ++ m) = il l ++ il m := by simp [il]
theorem Is.read {w : World} {p : Option Addr} {l : List Int} (h : Is w p l) : ReadAt w p (il l) := fun j u hj => by
  have hjl : j < l.length := by have := (List.getElem?_eq_some_iff.1 hj).1; rwa [il_length] at this
  obtain ⟨b, off, e, hb, hc⟩ := h.1 j hjl
  refine ⟨b, off, e, hb, hc.trans ?_⟩
  rw [← hj]; simp [il, hjl]
theorem is_of_read {w : World} {p : Option Addr} {l : List Int} (h : ReadAt w p (il l)) (hf : ∀ j (hj : j < l.length), -9223372036854775808 ≤ l[j] ∧ l[j] ≤ 9223372036854775807) : Is w p l := by
  refine ⟨fun j hj => ?_, hf⟩
  obtain ⟨b, off, e, hb, hc⟩ := h j (.int .i64 l[j]) (by simp [il, hj])
  exact ⟨b, off, e, hb, hc⟩
theorem int_full {w : World} (ty : TypeId) (x : Option Addr) (n : Nat) (xs : List Value) (hx : ReadAt w x xs) (hxl : xs.length = n) (q : Option Addr) (m c : Nat) (news : List Value) (hq : ReadAt w q news) (hl : news.length = m) (h1 : ∀ u ∈ news, u.oneCell' = true) (hb : n + m ≤ 100000000) :
    ∃ v' w', (Builtin.append_ #[35, 35] ty #[.slice x n n, .slice q m c]).run Try.prog w = .ok v' w' ∧ Full w 3 1 n m (xs ++ news) v' w' := by
  obtain ⟨i, hi, hz0, hz1, hz2⟩ := info_parts iinfo
  obtain ⟨p', c', w', hr, h⟩ := run_app_full (P := Try.prog) Try.underlying35 hi hz0 hz1 hz2 rfl (by decide) ty x n xs hx (by rw [Nat.mul_one]; exact hxl) (.slice q m c) m news (hq.src Try.underlying35 (by rw [Nat.mul_one]; exact hl) (by decide) h1 c) (by unfold maxLen; omega) (by omega)
  exact ⟨_, w', hr, p', c', rfl, h⟩
theorem int_own {w : World} (ty : TypeId) {base : Nat} (v : Value) (n : Nat) (xs : List Value) (hown : w.ownsRow base 3 1 v n xs) (q : Option Addr) (m c : Nat) (news : List Value) (hq : ReadAt w q news) (hl : news.length = m) (h1 : ∀ u ∈ news, u.oneCell' = true) (hb : n + m ≤ 100000000) (hbase : base ≤ w.heap.size) :
    ∃ v' w', (Builtin.append_ #[35, 35] ty #[v, .slice q m c]).run Try.prog w = .ok v' w' ∧ Owns w base 3 1 v (n + m) (xs ++ news) v' w' := by
  obtain ⟨i, hi, hz0, hz1, hz2⟩ := info_parts iinfo
  exact run_app_own (P := Try.prog) Try.underlying35 hi hz0 hz1 hz2 rfl (by decide) ty v n xs hown q m c news hq (by rw [Nat.mul_one]; exact hl) h1 (by unfold maxLen; omega) (by omega) hbase
/-- a row of ints that the call has made -/
structure IR (w : World) (g n : Nat) (l : List Int) : Prop where
  cells : ∀ j (hj : j < l.length), w.cell? ⟨g, j, none⟩ = some (.int .i64 l[j])
  froz : ∀ j, w.frozen? ⟨g, j, none⟩ = false
  lt : g < w.heap.size
  len : l.length = n
theorem ir_of {w w' : World} {n : Nat} {l : List Int} {v' : Value} (h0 : 0 < n) (hl : l.length = n) (h : Full w 3 1 0 n (il l) v' w') : ∃ c, v' = .slice (some ⟨w.heap.size, 0, none⟩) n c ∧ IR w' w.heap.size n l ∧ Below w.heap.size w w' := by
  obtain ⟨p', c', rfl, hr, hb, _, ho⟩ := h
  obtain ⟨ho, hp⟩ := ho h0
  rw [Nat.zero_add] at *
  subst hp
  rcases ho.2 with ⟨_, hz⟩ | ⟨g, cap, cur, e, _, hg, _⟩
  · omega
  · injection e with e1 e2 e3
    injection e1 with e1
    injection e1 with e1
    subst e1
    refine ⟨c', rfl, ⟨fun j hj => ?_, fun j => frozen_of_row _ _ _ _ _ hg, (Array.getElem?_eq_some_iff.1 hg).1, hl⟩, hb⟩
    obtain ⟨b, off, e, _, hc⟩ := hr j (.int .i64 l[j]) (by simp [il, hj])
    injection e with e
    injection e with e1 e2
    subst e1; subst e2
    rw [Nat.zero_add] at hc
    exact hc
theorem IR.set {w : World} {g n : Nat} {l : List Int} (h : IR w g n l) (i : Nat) (_ : i < n) (x : Int) : IR (w.setCell ⟨g, i, none⟩ (.int .i64 x)) g n (l.set i x) := by
  refine ⟨fun j hj => ?_, fun j => ?_, by simpa [World.setCell] using h.lt, by rw [List.length_set]; exact h.len⟩
  · have hjl : j < l.length := by rw [List.length_set] at hj; exact hj
    by_cases e : i = j
    · subst e
      rw [List.getElem_set_self]
      exact World.cell?_setCell_same' w ⟨g, i, none⟩ _ (by rw [h.cells i hjl]; rfl)
    · rw [List.getElem_set_ne e]
      have hne : (⟨g, i, none⟩ : Addr) ≠ ⟨g, j, none⟩ := by intro h2; injection h2 with h3 h4; exact e h4
      rw [World.cell?_setCell_other (h := hne)]
      exact h.cells j hjl
  · rw [World.frozen?_setCell]; exact h.froz j
theorem IR.is {w : World} {g n : Nat} {l : List Int} (h : IR w g n l) (hf : ∀ j (hj : j < l.length), -9223372036854775808 ≤ l[j] ∧ l[j] ≤ 9223372036854775807) : Is w (some ⟨g, 0, none⟩) l :=
  ⟨fun j hj => ⟨g, 0, rfl, h.lt, by rw [Nat.zero_add]; exact h.cells j hj⟩, hf⟩
theorem IR.below {w w' : World} {g n : Nat} {l : List Int} (h : IR w g n l) (hb : Below w.heap.size w w') : IR w' g n l :=
  ⟨fun j hj => (hb.cell (p := ⟨g, j, none⟩) h.lt).trans (h.cells j hj), fun j => by have := h.froz j; unfold World.frozen? at *; rw [hb.block g h.lt]; exact this, Nat.lt_of_lt_of_le h.lt hb.size, h.len⟩
end Go.Proofs.Ytmhjoeegghnlhaa.Bk
