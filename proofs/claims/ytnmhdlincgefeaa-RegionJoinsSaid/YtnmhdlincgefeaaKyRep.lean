/- Repeat of slices, for one number, and Whole. -/
import Derived.Test.YtnmhdlincgefeaaKyWhole
import Derived.Laws.CopyOwn
namespace Go.Proofs.Ytnmhdlincgefeaa.Ky
open Go.RowKit
open Go.Lib (hid)

theorem size46 : (Try.prog.info? 55).map (·.size) = some 1 := by kernel_rfl
/-- so many of one text, as cells -/
def csT (m : Nat) (t : Nat) : List Value := List.replicate m (.int .u32 (t : Int))
/-- a row of n texts of which the first k are laid -/
def rowT (n k : Nat) (t : Nat) : List Value := csT k t ++ csT (n - k) 0
theorem csT_length (m : Nat) (t : Nat) : (csT m t).length = m := by simp [csT]
theorem rowT_length (n k : Nat) (t : Nat) (h : k ≤ n) : (rowT n k t).length = n := by simp [rowT, csT]; omega
theorem rowT_more (n k m : Nat) (t : Nat) : splice (rowT n k t) k (csT m t) = rowT n (k + m) t := by
  unfold splice rowT csT
  rw [List.take_append_of_le_length (by simp), List.drop_append, List.length_replicate, List.length_replicate, List.take_of_length_le (by simp)]
  have e1 : k + m - k = m := by omega
  have e2 : (List.replicate k (Value.int .u32 (t : Int))).drop (k + m) = [] := by simp
  rw [e1, e2, List.nil_append, List.drop_replicate, ← List.append_assoc, List.replicate_append_replicate]
  have e3 : n - k - m = n - (k + m) := by omega
  rw [e3]
theorem csT_at (m : Nat) (t : Nat) (j : Nat) (v : Value) (h : (csT m t)[j]? = some v) : j < m ∧ v = .int .u32 (t : Int) := by
  unfold csT at h
  rw [List.getElem?_replicate] at h
  by_cases hj : j < m
  · rw [if_pos hj] at h; exact ⟨hj, by injection h with h; exact h.symm⟩
  · rw [if_neg hj] at h; cases h
theorem csT_one (m : Nat) (t : Nat) : ∀ v ∈ csT m t, v.oneCell' = true := fun v hv => by
  unfold csT at hv
  rw [(List.mem_replicate.1 hv).2]; rfl
theorem rowT_at (n k : Nat) (t : Nat) (j : Nat) (hj : j < k) : (rowT n k t)[j]? = some (.int .u32 (t : Int)) := by
  unfold rowT csT
  rw [List.getElem?_append_left (by simpa using hj)]
  simp [hj]
theorem rowT_full (n : Nat) (t : Nat) : rowT n n t = kl (List.replicate n t) := by
  simp [rowT, csT, kl]
theorem src_row {w : World} {g n k : Nat} {t : Nat} (h : w.heap[g]? = some (.cells (rowT n k t).toArray 55 (0, 0))) (m : Nat) (hm : m ≤ k) :
    ∀ j v, (csT m t)[j]? = some v → w.cell? ((⟨g, 0, none⟩ : Addr).add j) = some v := fun j v hj => by
  obtain ⟨hj, rfl⟩ := csT_at _ _ _ _ hj
  have hadd : (⟨g, 0, none⟩ : Addr).add j = ⟨g, j, none⟩ := by unfold Addr.add; split <;> simp_all
  rw [hadd, cell_of_row _ _ _ _ _ _ h, List.getElem?_toArray]
  exact rowT_at _ _ _ _ (by omega)
theorem smake (n : Nat) (h : n ≤ 6) (t : Nat) (w : World) :
    (Instr.makeSlice 41 (.int .i64 (n : Int)) (.int .i64 (n : Int))).run Try.prog w = .ok (.slice (some ⟨w.heap.size, 0, none⟩) n n) (w.alloc (.cells (rowT n 0 t).toArray 55)) := by
  obtain ⟨i, hi, hz, hs, hb⟩ := info_parts info46
  have := run_makeSlice (P := Try.prog) (w := w) 41 55 i (.int .u32 0) Try.underlying41 hi hz .i64 .i64 n n (by omega) (by omega) (by rw [hs]; omega) (by rw [hb]; omega) (by omega)
  rw [this]
  have e : madeCells (Value.int .u32 0).cells (n * 1) = (rowT n 0 t).toArray := by
    apply Array.ext
    · simp [madeCells, rowT, csT]
    · intro i h1 h2
      simp [madeCells, Value.cells, Nat.mod_one, rowT, csT]
  simp only [Int.toNat_natCast, hs, e]
/-- a new box of two points of the call's own -/
def OwnBox (w : World) (D : Nat) (e : Ending) (w' : World) : Prop :=
  ∃ gl gh, e = .returned (.agg #[.slice (some ⟨gl, 0, none⟩) D D, .slice (some ⟨gh, 0, none⟩) D D]) ∧ Own w' gl (List.replicate D 0) ∧ Own w' gh (List.replicate D 4294967295) ∧ gl ≠ gh ∧ w.heap.size ≤ gl ∧ w.heap.size ≤ gh ∧ Below w.heap.size w w'
end Go.Proofs.Ytnmhdlincgefeaa.Ky
