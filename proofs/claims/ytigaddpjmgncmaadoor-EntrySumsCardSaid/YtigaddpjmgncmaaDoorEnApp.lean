/- A list of pages, copied by an append into new memory; one body of it stored. -/
import Derived.Test.YtigaddpjmgncmaaDoorApGen
import Derived.Test.YtigaddpjmgncmaaDoorEnSum
namespace Go.Proofs.YtigaddpjmgncmaaDoor.En
open Go.RowKit
open Go.Lib (hid)
open Go.Proofs.YtigaddpjmgncmaaDoor.Ap

def flatP (L : List PageT) : List Value := L.flatMap fun p => [.int .i64 p.1, .int .i64 p.2.1, .string p.2.2]
theorem flatP_cons (p : PageT) (L : List PageT) : flatP (p :: L) = .int .i64 p.1 :: .int .i64 p.2.1 :: .string p.2.2 :: flatP L := rfl
theorem flatP_length (L : List PageT) : (flatP L).length = L.length * 3 := by
  induction L with
  | nil => rfl
  | cons p L ih => rw [flatP_cons, List.length_cons, List.length_cons, List.length_cons, ih, List.length_cons]; omega
theorem flatP_one (L : List PageT) : ∀ u ∈ flatP L, u.oneCell' = true := fun u hu => by
  obtain ⟨p, _, h⟩ := List.mem_flatMap.1 hu
  simp only [List.mem_cons, List.not_mem_nil, or_false] at h
  rcases h with rfl | rfl | rfl <;> rfl
theorem flatP_at (L : List PageT) : ∀ i (h : i < L.length), (flatP L)[i * 3]? = some (.int .i64 L[i].1) ∧ (flatP L)[i * 3 + 1]? = some (.int .i64 L[i].2.1) ∧ (flatP L)[i * 3 + 2]? = some (.string L[i].2.2) := by
  induction L with
  | nil => intro i h; simp at h
  | cons p L ih =>
    intro i h
    rw [flatP_cons]
    cases i with
    | zero => exact ⟨rfl, rfl, rfl⟩
    | succ i =>
      have := ih i (by simpa using h)
      rw [show (i + 1) * 3 = i * 3 + 1 + 1 + 1 by omega]
      simpa using this
theorem Pgs.read {w : World} {p : Option Addr} {L : List PageT} (h : Pgs w p L) : ReadAt w p (flatP L) := fun j u hj => by
  have hjl : j < L.length * 3 := by rw [← flatP_length]; exact (List.getElem?_eq_some_iff.1 hj).1
  obtain ⟨i, r, rfl, hr⟩ : ∃ i r, j = i * 3 + r ∧ r < 3 := ⟨j / 3, j % 3, by omega, Nat.mod_lt _ (by decide)⟩
  have hi : i < L.length := by omega
  obtain ⟨b, off, e, hb, c0, c1, c2⟩ := h i hi
  obtain ⟨a0, a1, a2⟩ := flatP_at L i hi
  refine ⟨b, off, e, hb, ?_⟩
  rcases (by omega : r = 0 ∨ r = 1 ∨ r = 2) with rfl | rfl | rfl
  · rw [Nat.add_zero] at hj ⊢; rw [a0] at hj; cases hj; exact c0
  · rw [a1] at hj; cases hj; rw [← Nat.add_assoc]; exact c1
  · rw [a2] at hj; cases hj; rw [← Nat.add_assoc]; exact c2
theorem pinfo : (Tryd.prog.info? 23).map (fun i => (i.zero, i.size, i.bytes)) = some (some (.agg #[.int .i64 0, .int .i64 0, .string ⟨#[]⟩]), 3, 32) := by kernel_rfl
/-- pages in a block of the call's own, that may be written -/
structure Mine (w : World) (g : Nat) (M : List PageT) : Prop where
  cell : ∀ i (_ : i < M.length), w.cell? ⟨g, i * 3, none⟩ = some (.int .i64 M[i].1) ∧ w.cell? ⟨g, i * 3 + 1, none⟩ = some (.int .i64 M[i].2.1) ∧ w.cell? ⟨g, i * 3 + 2, none⟩ = some (.string M[i].2.2)
  free : ∀ j, w.frozen? ⟨g, j, none⟩ = false
  lt : g < w.heap.size
theorem Mine.below {w w' : World} {g : Nat} {M : List PageT} (h : Mine w g M) (hb : Below w.heap.size w w') : Mine w' g M :=
  ⟨fun i hi => by
    obtain ⟨c0, c1, c2⟩ := h.cell i hi
    exact ⟨(hb.cell (p := ⟨g, i * 3, none⟩) h.lt).trans c0, (hb.cell (p := ⟨g, i * 3 + 1, none⟩) h.lt).trans c1, (hb.cell (p := ⟨g, i * 3 + 2, none⟩) h.lt).trans c2⟩,
   fun j => (hb.frozen (p := ⟨g, j, none⟩) h.lt).trans (h.free j), Nat.lt_of_lt_of_le h.lt hb.size⟩
theorem Mine.pgs {w : World} {g : Nat} {M : List PageT} (h : Mine w g M) : Pgs w (some ⟨g, 0, none⟩) M := fun i hi => by
  obtain ⟨c0, c1, c2⟩ := h.cell i hi
  exact ⟨g, 0, rfl, h.lt, by rw [Nat.zero_add]; exact c0, by rw [Nat.zero_add]; exact c1, by rw [Nat.zero_add]; exact c2⟩
theorem Mine.set {w : World} {g : Nat} {M : List PageT} (h : Mine w g M) (k : Nat) (hk : k < M.length) (b : ByteArray) : Mine (w.setCell ⟨g, k * 3 + 2, none⟩ (.string b)) g (M.set k (M[k].1, M[k].2.1, b)) := by
  refine ⟨fun i hi => ?_, fun j => by rw [World.frozen?_setCell]; exact h.free j, by rw [World.size_setCell]; exact h.lt⟩
  have hi' : i < M.length := by simpa using hi
  obtain ⟨c0, c1, c2⟩ := h.cell i hi'
  by_cases e : k = i
  · subst e
    refine ⟨?_, ?_, ?_⟩
    · rw [World.cell?_setCell_other _ _ _ _ (by intro e2; injection e2; omega), c0]; simp
    · rw [World.cell?_setCell_other _ _ _ _ (by intro e2; injection e2; omega), c1]; simp
    · rw [World.cell?_setCell_same' _ _ _ (by rw [c2]; rfl)]; simp
  · refine ⟨?_, ?_, ?_⟩
    · rw [World.cell?_setCell_other _ _ _ _ (by intro e2; injection e2; omega), c0]; simp [e]
    · rw [World.cell?_setCell_other _ _ _ _ (by intro e2; injection e2; omega), c1]; simp [e]
    · rw [World.cell?_setCell_other _ _ _ _ (by intro e2; injection e2; omega), c2]; simp [e]
/-- what an append of pages onto no slice gives -/
def MineNew (w : World) (L : List PageT) (v' : Value) (w' : World) : Prop := ∃ c', v' = .slice (some ⟨w.heap.size, 0, none⟩) L.length c' ∧ Mine w' w.heap.size L ∧ Below w.heap.size w w'
theorem pages_new {w : World} (ty : TypeId) (q : Option Addr) (L : List PageT) (c n : Nat) (hn : L.length = n) (hq : Pgs w q L) (h0 : 0 < n) (hb : n ≤ 100000) :
    ∃ v' w', (Builtin.append_ #[27, 27] ty #[.slice none 0 0, .slice q n c]).run Tryd.prog w = .ok v' w' ∧ MineNew w L v' w' := by
  subst hn
  obtain ⟨i, hi, hz0, hz1, hz2⟩ := Ap.info_parts pinfo
  obtain ⟨p', c', w', hr, h1, h2, h3, h4⟩ := run_app_full (P := Tryd.prog) Tryd.underlying27 hi hz0 hz1 hz2 rfl (by decide) ty none 0 [] (ReadAt.nil w none) (by simp) (.slice q L.length c) L.length (flatP L) (hq.read.src Tryd.underlying27 (flatP_length L) (by decide) (flatP_one L) c) (by unfold maxLen; omega) (by omega)
  obtain ⟨h5, rfl⟩ := h4 h0
  rw [Nat.zero_add] at hr h5
  refine ⟨_, w', hr, c', rfl, ⟨fun i hi => ?_, fun j => ?_, ?_⟩, h2⟩
  · obtain ⟨a0, a1, a2⟩ := flatP_at L i hi
    have hc : ∀ j u, (flatP L)[j]? = some u → w'.cell? ⟨w.heap.size, j, none⟩ = some u := fun j u hj => by
      obtain ⟨b, off, e, _, hc⟩ := h1 j u (by simpa using hj)
      cases e
      rw [Nat.zero_add] at hc; exact hc
    exact ⟨hc _ _ a0, hc _ _ a1, hc _ _ a2⟩
  · rcases h5.2 with ⟨h6, h7⟩ | ⟨g, cap, cur, e, _, hh, _⟩
    · cases h6
    · cases e
      exact frozen_of_row _ _ _ _ _ hh
  · rcases h5.2 with ⟨h6, h7⟩ | ⟨g, cap, cur, e, _, hh, _⟩
    · cases h6
    · cases e
      exact (Array.getElem?_eq_some_iff.1 hh).1
end Go.Proofs.YtigaddpjmgncmaaDoor.En
