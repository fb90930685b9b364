/- A scale in memory; what is read of it; New, Sizes. -/
import Derived.Test.YtmhjoeegghnlhaaScRow
import Derived.Test.YtmhjoeegghnlhaaKyBox
namespace Go.Proofs.Ytmhjoeegghnlhaa.Sc
open Go.RowKit
open Go.Lib (hid)
open Go.Proofs.Ytmhjoeegghnlhaa.Ky Go.Proofs.Ytmhjoeegghnlhaa.Bk

/-- a scale at b, whose rows stand in R: of each coordinate a row of the call's own -/
structure Sc (N : Nat) (w : World) (b R : Nat) (vs : List Value) (bs : List (List Nat)) : Prop where
  head : w.heap[b]? = some (.cells #[.slice (some ⟨R, 0, none⟩) bs.length bs.length] 71 (0, 0))
  row : w.heap[R]? = some (.cells vs.toArray 31 (0, 0))
  len : vs.length = bs.length
  own : ∀ (i : Nat) (v : Value) (l : List Nat), vs[i]? = some v → bs[i]? = some l → w.ownsRow N 30 1 v l.length (kl l)
  apart : ∀ (i j : Nat) (v u : Value) (k : Nat), vs[i]? = some v → vs[j]? = some u → v.ownBlock = some k → u.ownBlock = some k → i = j
  nb : ∀ v ∈ vs, v.ownBlock ≠ some b ∧ v.ownBlock ≠ some R
  lo : N ≤ b ∧ N ≤ R ∧ b ≠ R
  fit : ∀ l ∈ bs, (∀ x ∈ l, x < 4294967296) ∧ l.length ≤ 255
  dim : 1 ≤ bs.length ∧ bs.length ≤ 6
/-- its own blocks -/
def FS (b R : Nat) (vs : List Value) (k : Nat) : Prop := k = b ∨ k = R ∨ ∃ v ∈ vs, v.ownBlock = some k
section
variable {N b R : Nat} {w w' : World} {vs : List Value} {bs : List (List Nat)}
theorem Sc.ltb (h : Sc N w b R vs bs) : b < w.heap.size := (Array.getElem?_eq_some_iff.1 h.head).1
theorem Sc.ltR (h : Sc N w b R vs bs) : R < w.heap.size := (Array.getElem?_eq_some_iff.1 h.row).1
theorem Sc.lt (h : Sc N w b R vs bs) : ∀ k, FS b R vs k → k < w.heap.size := by
  rintro k (rfl | rfl | ⟨v, hv, hk⟩)
  · exact h.ltb
  · exact h.ltR
  · obtain ⟨i, hi, rfl⟩ := List.getElem_of_mem hv
    have hib : i < bs.length := by rw [← h.len]; exact hi
    exact ((h.own i _ _ (List.getElem?_eq_getElem hi) (List.getElem?_eq_getElem hib)).lt k hk).2
theorem Sc.ge (h : Sc N w b R vs bs) : ∀ k, FS b R vs k → N ≤ k := by
  rintro k (rfl | rfl | ⟨v, hv, hk⟩)
  · exact h.lo.1
  · exact h.lo.2.1
  · obtain ⟨i, hi, rfl⟩ := List.getElem_of_mem hv
    have hib : i < bs.length := by rw [← h.len]; exact hi
    exact ((h.own i _ _ (List.getElem?_eq_getElem hi) (List.getElem?_eq_getElem hib)).lt k hk).1
theorem row_keep {base e size n : Nat} {v : Value} {xs : List Value} (h : w.ownsRow base e size v n xs) (hk : ∀ g, v.ownBlock = some g → w'.heap[g]? = w.heap[g]?) : w'.ownsRow base e size v n xs := by
  refine ⟨h.1, ?_⟩
  rcases h.2 with hn | ⟨g, cap, cur, hv, hb0, hg, rest⟩
  · exact .inl hn
  · exact .inr ⟨g, cap, cur, hv, hb0, by rw [hk g (by rw [hv]; rfl)]; exact hg, rest⟩
/-- what keeps its blocks keeps it -/
theorem Sc.keep (h : Sc N w b R vs bs) (hk : ∀ k, FS b R vs k → w'.heap[k]? = w.heap[k]?) : Sc N w' b R vs bs :=
  ⟨(hk b (.inl rfl)).trans h.head, (hk R (.inr (.inl rfl))).trans h.row, h.len, fun i v l hv hl => row_keep (h.own i v l hv hl) (fun g hg => hk g (.inr (.inr ⟨v, List.mem_of_getElem? hv, hg⟩))), h.apart, h.nb, h.lo, h.fit, h.dim⟩
theorem Sc.next (h : Sc N w b R vs bs) (hb : Below w.heap.size w w') : Sc N w' b R vs bs := h.keep fun k hk => hb.block k (h.lt k hk)
theorem Sc.cell (h : Sc N w b R vs bs) : w.cell? ⟨b, 0, none⟩ = some (.slice (some ⟨R, 0, none⟩) bs.length bs.length) ∧ w.frozen? ⟨b, 0, none⟩ = false :=
  ⟨by rw [cell_of_row _ _ _ _ _ _ h.head]; rfl, frozen_of_row _ _ _ _ _ h.head⟩
/-- the row of a coordinate -/
theorem Sc.at (h : Sc N w b R vs bs) {i : Nat} {l : List Nat} (hi : bs[i]? = some l) : ∃ v p c, vs[i]? = some v ∧ v = .slice p l.length c ∧ w.cell? ⟨R, i, none⟩ = some (.slice p l.length c) ∧ w.frozen? ⟨R, i, none⟩ = false ∧ Pt w p l ∧ w.ownsRow N 30 1 v l.length (kl l) ∧ l.length ≤ c := by
  have hib : i < bs.length := (List.getElem?_eq_some_iff.1 hi).1
  have hiv : i < vs.length := by rw [h.len]; exact hib
  have hv := List.getElem?_eq_getElem hiv
  have ho := h.own i _ _ hv hi
  have hf := (h.fit l (List.mem_of_getElem? hi)).1
  have hc : w.cell? ⟨R, i, none⟩ = some vs[i] := by rw [cell_of_row _ _ _ _ _ _ h.row]; simp [hiv]
  obtain ⟨p, c, e, hp, hlc⟩ : ∃ p c, vs[i] = .slice p l.length c ∧ Pt w p l ∧ l.length ≤ c := by
    rcases ho.2 with ⟨e, h0⟩ | ⟨g, cap, cur, e, _, hg, hn, _, hs, ht⟩
    · have : l = [] := List.eq_nil_of_length_eq_zero h0
      subst this
      exact ⟨none, 0, e, Pt.nil _ _, Nat.le_refl _⟩
    · refine ⟨_, cap, e, ⟨fun j hj => ⟨g, 0, rfl, (Array.getElem?_eq_some_iff.1 hg).1, ?_⟩, fun j hj => hf _ (List.getElem_mem hj)⟩, hn⟩
      rw [cell_of_row _ _ _ _ _ _ hg, Nat.zero_add]
      have h1 : (kl l)[j]? = some (.int .u32 (l[j] : Int)) := by simp [kl, hj]
      rw [← ht, List.getElem?_take] at h1
      split at h1
      · simpa using h1
      · cases h1
  exact ⟨vs[i], p, c, hv, e, by rw [hc, e], frozen_of_row _ _ _ _ _ h.row, hp, ho, hlc⟩
end
theorem info_row : (Try.prog.info? 31).map (fun i => (i.zero, i.size, i.bytes)) = some (some (.slice none 0 0), 1, 24) := by kernel_rfl
theorem cmake (n : Nat) (h : n ≤ 6) (w : World) :
    (Instr.makeSlice 69 (.int .i64 (n : Int)) (.int .i64 (n : Int))).run Try.prog w = .ok (.slice (some ⟨w.heap.size, 0, none⟩) n n) (w.alloc (.cells (List.replicate n (Value.slice none 0 0)).toArray 31)) := by
  obtain ⟨i, hi, hz, hs, hb⟩ := info_parts info_row
  have := run_makeSlice (P := Try.prog) (w := w) 69 31 i (.slice none 0 0) Try.underlying69 hi hz .i64 .i64 n n (by omega) (by omega) (by rw [hs]; omega) (by rw [hb]; omega) (by omega)
  rw [this]
  have e : madeCells (Value.slice none 0 0).cells (n * 1) = (List.replicate n (Value.slice none 0 0)).toArray := by
    apply Array.ext
    · simp [madeCells]
    · intro i h1 h2
      simp [madeCells, Value.cells, Nat.mod_one]
  simp only [Int.toNat_natCast, hs, e]
/-- a new scale -/
theorem sc_new (n : Nat) (w : World) (N : Nat) (hN : N ≤ w.heap.size) (h : 1 ≤ n ∧ n ≤ 6) :
    Sc N ((w.alloc (.cells (List.replicate n (Value.slice none 0 0)).toArray 31)).alloc (.cells #[.slice (some ⟨w.heap.size, 0, none⟩) n n] 71)) (w.heap.size + 1) w.heap.size (List.replicate n (.slice none 0 0)) (List.replicate n []) := by
  refine ⟨?_, ?_, by simp, fun i v l hv hl => ?_, fun i j v u k hv hu hk _ => ?_, fun v hv => ?_, by omega, fun l hl => ?_, by simpa using h⟩
  · have := heap_alloc_new (w.alloc (.cells (List.replicate n (Value.slice none 0 0)).toArray 31)) (.cells #[.slice (some ⟨w.heap.size, 0, none⟩) n n] 71)
    rw [World.size_alloc] at this
    rw [this]; simp
  · rw [Below.heap_alloc _ _ _ (by simp)]; exact heap_alloc_new _ _
  · obtain rfl : v = .slice none 0 0 := (List.mem_replicate.1 (List.mem_of_getElem? hv)).2
    obtain rfl : l = [] := (List.mem_replicate.1 (List.mem_of_getElem? hl)).2
    exact World.ownsRow_nil _ _ _ _
  · obtain rfl : v = .slice none 0 0 := (List.mem_replicate.1 (List.mem_of_getElem? hv)).2
    cases hk
  · obtain rfl : v = .slice none 0 0 := (List.mem_replicate.1 hv).2
    exact ⟨by simp [Value.ownBlock], by simp [Value.ownBlock]⟩
  · obtain rfl : l = [] := (List.mem_replicate.1 hl).2
    simp
set_option maxHeartbeats 1000000 in
theorem new_ok (n : Nat) (w : World) (h : 1 ≤ n ∧ n ≤ 6) :
    Calls Try.prog 9 #[.int .i64 (n : Int)] w fun e w' => e = .returned (.tuple #[.pointer (some ⟨w.heap.size + 1, 0, none⟩), .int .i64 0]) ∧ w' = (w.alloc (.cells (List.replicate n (Value.slice none 0 0)).toArray 31)).alloc (.cells #[.slice (some ⟨w.heap.size, 0, none⟩) n n] 71) := by
  have e1 : decide ((n : Int) < 1) = false := by simp; omega
  have e2 : decide ((6 : Int) < (n : Int)) = false := by simp; omega
  have e1' : decide (n < 1) = false := by simp; omega
  have e2' : decide (6 < n) = false := by simp; omega
  have hm := cmake n h.2
  clear h
  go_enter Try.func9, Try.ntmps9
  go_wp2_with fail
  go_ret2
  exact ⟨rfl, rfl⟩
set_option maxHeartbeats 1000000 in
theorem new_bad (d : Int) (w : World) (h : d < 1 ∨ 6 < d) : Calls Try.prog 9 #[.int .i64 d] w fun e w' => e = .returned (.tuple #[.pointer none, .int .i64 1]) ∧ w = w' := by
  by_cases h1 : d < 1
  · have e1 : decide (d < 1) = true := by simpa using h1
    clear h h1
    go_enter Try.func9, Try.ntmps9
    go_wp2_with fail
    go_ret2
    exact ⟨rfl, rfl⟩
  · have e1 : decide (d < 1) = false := by simpa using h1
    have e2 : decide (6 < d) = true := by simp; omega
    clear h h1
    go_enter Try.func9, Try.ntmps9
    go_wp2_with fail
    go_ret2
    exact ⟨rfl, rfl⟩
set_option maxHeartbeats 400000 in
theorem coords_ok {b n c : Nat} {p : Option Addr} (w : World) (h : w.cell? ⟨b, 0, none⟩ = some (.slice p n c)) :
    Calls Try.prog 45 #[.pointer (some ⟨b, 0, none⟩)] w fun e w' => e = .returned (.int .i64 (n : Int)) ∧ w = w' := by
  go_enter Try.func45, Try.ntmps45
  go_wp2_with fail
  go_ret
  exact ⟨rfl, rfl⟩
set_option maxHeartbeats 400000 in
theorem coords_nil (w : World) : Calls Try.prog 45 #[.pointer none] w fun e w' => e = .returned (.int .i64 0) ∧ w = w' := by
  go_enter Try.func45, Try.ntmps45
  go_wp2_with fail
  go_ret
  exact ⟨rfl, rfl⟩
def hasC (n : Nat) (at_ : Int) : Bool := decide (0 ≤ at_) && decide (at_ < (n : Int))
theorem hasC_iff {n : Nat} {a : Int} : hasC n a = true ↔ ∃ A : Nat, a = (A : Int) ∧ A < n := by
  unfold hasC
  simp only [Bool.and_eq_true, decide_eq_true_eq]
  exact ⟨fun h => ⟨a.toNat, by omega, by omega⟩, fun ⟨A, h1, h2⟩ => by omega⟩
set_option maxHeartbeats 1000000 in
theorem has_any (P : Option Addr) (n : Nat) (a : Int) (w : World) (h : Calls Try.prog 45 #[.pointer P] w fun e w' => e = .returned (.int .i64 (n : Int)) ∧ w = w') :
    Calls Try.prog 39 #[.pointer P, .int .i64 a] w fun e w' => e = .returned (.bool (hasC n a)) ∧ w = w' := by
  have H := hid h
  clear h
  by_cases h0 : 0 ≤ a
  · have e0 : decide (0 ≤ a) = true := by simpa using h0
    have e : hasC n a = decide (a < (n : Int)) := by unfold hasC; rw [e0]; rfl
    rw [e]
    clear e h0
    go_enter Try.func39, Try.ntmps39
    go_wp2_with fail
    refine H.out.mono ?_
    rintro e w' ⟨rfl, rfl⟩
    go_wp2_with fail
    go_ret
    exact ⟨rfl, rfl⟩
  · have e0 : decide (0 ≤ a) = false := by simpa using h0
    have e : hasC n a = false := by unfold hasC; rw [e0]; rfl
    rw [e]
    clear e h0
    go_enter Try.func39, Try.ntmps39
    go_wp2_with fail
    go_ret
    exact ⟨rfl, rfl⟩
end Go.Proofs.Ytmhjoeegghnlhaa.Sc
