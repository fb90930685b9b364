/- Copies: of a text, a point, a record, records; of both sides. -/
import Derived.Test.YtolnbamdddiifaaBkApp
namespace Go.Proofs.Ytolnbamdddiifaa.Bk
open Go.RowKit
open Go.Lib (hid)
open Go.Proofs.Ytolnbamdddiifaa.Ky

/-- what was there ahead of N -/
def Lt (N : Nat) : Nat → Prop := fun k => k < N
theorem PtD.to {D : Nat → Prop} {w : World} {p : Option Addr} {l : List Nat} {N : Nat} (h : PtD D w p l) (hd : ∀ k, k < N → D k) : PtD (Lt N) w p l := h.less fun b _ hb => hd b hb
theorem Pt.ptd {w : World} {p : Option Addr} {l : List Nat} (h : Pt w p l) : PtD (fun _ => False) w p l := ⟨fun j hj => by
  obtain ⟨b, off, h1, h2, h3⟩ := h.cells j hj
  exact ⟨b, off, h1, h2, id, h3⟩, h.fit⟩
set_option maxHeartbeats 1000000 in
theorem clone_ok (l : List Nat) (p : Option Addr) (c : Nat) (w : World) (h : Pt w p l) (hl : l.length ≤ 1000000) :
    Calls Try.prog 15 #[.slice p l.length c] w fun e w' => ∃ p' c', e = .returned (.slice p' l.length c') ∧ PtD (Lt w.heap.size) w' p' l ∧ Below w.heap.size w w' := by
  have q22 : ∀ (w : World) (a : Option Addr) (n c n' c' : Nat), (binOp .eql 23 (.slice a n c) (.slice none n' c')).run Try.prog w = .ok (.bool a.isNone) w := fun w a n c n' c' => Lib.run_eql_slice_nil w _ _ a n c n' c' Try.underlying23
  cases p with
  | none =>
    have h0 : l = [] := by
      cases l with
      | nil => rfl
      | cons x l => obtain ⟨b, off, e, _⟩ := h.cells 0 (by simp); cases e
    subst h0
    clear h
    go_enter Try.func15, Try.ntmps15
    go_wp2_with fail
    go_ret
    exact ⟨none, 0, rfl, ⟨fun j hj => absurd hj (by simp), fun j hj => absurd hj (by simp)⟩, Below.refl _ _⟩
  | some a =>
    have HP := hid h; clear h
    go_enter Try.func15, Try.ntmps15
    go_wp2_with (at_builtin; refine wpList_app rfl _ _ _ rfl rfl rfl (key_full _ _ _ l _ (HP.out.alloc _) (by omega)) ?_)
    intro v' w1 hF
    obtain ⟨p', c', rfl, hp, hb⟩ := new_pt HP.out.fit hF
    have HN := hid (hp.to (N := w.heap.size) fun k hk => by simp; omega)
    have HB := hid (show Below w.heap.size w w1 from ((below_alloc w _).trans (hb.mono (by simp))))
    clear hF hp hb
    go_wp2_with fail
    go_ret
    exact ⟨p', c', rfl, HN.out, HB.out⟩
/-- a record's two blocks: the argument's, and the result's -/
theorem two_new (w : World) (a b : Obj) : ((w.alloc a).alloc b).heap[w.heap.size]? = some a ∧ ((w.alloc a).alloc b).heap[w.heap.size + 1]? = some b ∧ ((w.alloc a).alloc b).heap.size = w.heap.size + 2 := by
  have s1 : (w.alloc a).heap.size = w.heap.size + 1 := by simp
  refine ⟨?_, ?_, by simp⟩
  · rw [Below.heap_alloc _ _ _ (by omega), heap_alloc_new]
  · rw [← s1, heap_alloc_new]
theorem two_cells {w : World} {g : Nat} {x y : Value} {T : TypeId} (h : w.heap[g]? = some (.cells #[x, y] T)) : w.cell? ⟨g, 0, none⟩ = some x ∧ w.cell? ⟨g, 1, none⟩ = some y ∧ w.frozen? ⟨g, 0, none⟩ = false ∧ w.frozen? ⟨g, 1, none⟩ = false :=
  ⟨by rw [cell_of_row _ _ _ _ _ _ h]; rfl, by rw [cell_of_row _ _ _ _ _ _ h]; rfl, by simp [World.frozen?, h], by simp [World.frozen?, h]⟩
theorem two_set {w : World} {g : Nat} {x y : Value} {T : TypeId} (h : w.heap[g]? = some (.cells #[x, y] T)) (u v : Value) : ((w.setCell ⟨g, 0, none⟩ u).setCell ⟨g, 1, none⟩ v).heap[g]? = some (.cells #[u, v] T) := by
  have b1 : (w.setCell ⟨g, 0, none⟩ u).heap[g]? = some (.cells #[u, y] T (0, 0)) := by simp [World.setCell, Array.getElem?_modify, h]
  rw [World.setCell, Array.getElem?_modify, if_pos rfl, b1]; rfl
theorem two_keep {D : Nat → Prop} {w : World} {g : Nat} (hg : D g) (u v : Value) : Keep D w ((w.setCell ⟨g, 0, none⟩ u).setCell ⟨g, 1, none⟩ v) :=
  ⟨by simp, fun k _ hD => by
    have hne : k ≠ g := fun e => hD (e ▸ hg)
    rw [Below.heap_setCell _ ⟨g, 1, none⟩ _ _ hne, Below.heap_setCell _ ⟨g, 0, none⟩ _ _ hne]⟩
theorem rmake (n : Nat) (h : n ≤ 1000000) (w : World) :
    (Instr.makeSlice 27 (.int .i64 (n : Int)) (.int .i64 (n : Int))).run Try.prog w = .ok (.slice (some ⟨w.heap.size, 0, none⟩) n n) (w.alloc (.cells (madeCells (Value.agg #[.slice none 0 0, .string ⟨#[]⟩]).cells (n * 2)) 56)) := by
  obtain ⟨i, hi, hz, hs, hb⟩ := info_parts rinfo
  have := run_makeSlice (P := Try.prog) (w := w) 27 56 i _ Try.underlying27 hi hz .i64 .i64 n n (by omega) (by omega) (by rw [hs]; omega) (by rw [hb]; omega) (by omega)
  rw [hs] at this
  exact this
/-- a row of n records that is filled, the first k of L -/
structure Fill (w : World) (g n k : Nat) (L : List Rec) : Prop where
  row : ∃ cur, w.heap[g]? = some (.cells cur 56 (0, 0)) ∧ cur.size = n * 2 ∧ RC (fun b => b ≤ g) w (cur.toList.take (k * 2)) (L.take k)
theorem Fill.lt {w : World} {g n k : Nat} {L : List Rec} (h : Fill w g n k L) : g < w.heap.size := by
  obtain ⟨cur, h1, _⟩ := h.row
  exact (Array.getElem?_eq_some_iff.1 h1).1
theorem Fill.below {w w' : World} {g n k : Nat} {L : List Rec} (h : Fill w g n k L) (hb : Below w.heap.size w w') : Fill w' g n k L := by
  obtain ⟨cur, h1, h2, h3⟩ := h.row
  exact ⟨cur, (hb.block g h.lt).trans h1, h2, h3.below hb⟩
theorem Fill.cell {w : World} {g n k : Nat} {L : List Rec} (h : Fill w g n k L) (j : Nat) (hj : j < n * 2) : (∃ v, w.cell? ⟨g, j, none⟩ = some v) ∧ w.frozen? ⟨g, j, none⟩ = false := by
  obtain ⟨cur, h1, h2, _⟩ := h.row
  exact ⟨⟨cur[j]'(by omega), by rw [cell_of_row _ _ _ _ _ _ h1]; exact Array.getElem?_eq_getElem (by omega)⟩, frozen_of_row _ _ _ _ _ h1⟩
theorem Fill.put {w : World} {g n k : Nat} {L : List Rec} (h : Fill w g n k L) (hk : k < n) (hl : k < L.length) {q : Option Addr} {c : Nat} (hq : PtD (fun b => b ≤ g) w q L[k].1) :
    Fill ((w.setCell ⟨g, k * 2, none⟩ (.slice q L[k].1.length c)).setCell ⟨g, k * 2 + 1, none⟩ (.string L[k].2)) g n (k + 1) L := by
  obtain ⟨cur, h1, h2, h3⟩ := h.row
  have hs1 : (w.setCell ⟨g, k * 2, none⟩ (.slice q L[k].1.length c)).heap[g]? = _ := heap_setCell_same _ _ _ _ _ _ h1
  have hs2 : ((w.setCell ⟨g, k * 2, none⟩ (.slice q L[k].1.length c)).setCell ⟨g, k * 2 + 1, none⟩ (.string L[k].2)).heap[g]? = _ := heap_setCell_same _ _ _ _ _ _ hs1
  have hk0 : Keep (fun b => b ≤ g) w ((w.setCell ⟨g, k * 2, none⟩ (.slice q L[k].1.length c)).setCell ⟨g, k * 2 + 1, none⟩ (.string L[k].2)) :=
    ⟨by simp, fun b _ hD => by
      have hne : b ≠ g := fun e => hD (by show b ≤ g; omega)
      rw [Below.heap_setCell _ ⟨g, _, none⟩ _ _ hne, Below.heap_setCell _ ⟨g, _, none⟩ _ _ hne]⟩
  refine ⟨_, hs2, by simp [h2], ?_⟩
  have e : ((cur.setIfInBounds (k * 2) (.slice q L[k].1.length c)).setIfInBounds (k * 2 + 1) (.string L[k].2)).toList.take ((k + 1) * 2) = cur.toList.take (k * 2) ++ [.slice q L[k].1.length c, .string L[k].2] := by
    apply List.ext_getElem?
    intro j
    rw [List.getElem?_take, Array.getElem?_toList, Array.getElem?_setIfInBounds, Array.getElem?_setIfInBounds, Array.size_setIfInBounds]
    have hlen : (cur.toList.take (k * 2)).length = k * 2 := by rw [List.length_take, Array.length_toList]; omega
    by_cases h0 : j < k * 2
    · rw [if_pos (by omega), if_neg (by omega), if_neg (by omega), List.getElem?_append_left (by omega), List.getElem?_take_of_lt h0, Array.getElem?_toList]
    · rw [List.getElem?_append_right (by omega), hlen]
      by_cases h1 : j = k * 2
      · subst h1
        rw [if_pos (by omega), if_neg (by omega), if_pos rfl, if_pos (by omega), Nat.sub_self]; rfl
      · by_cases h3 : j = k * 2 + 1
        · subst h3
          rw [if_pos (by omega), if_pos rfl, if_pos (by omega), show k * 2 + 1 - k * 2 = 1 by omega]; rfl
        · rw [if_neg (by omega), List.getElem?_eq_none (by simp; omega)]
  rw [e, List.take_succ_eq_append_getElem hl]
  exact (h3.keep hk0).app (RC.one (hq.keep hk0))
theorem Fill.done {w : World} {g n : Nat} {L : List Rec} (h : Fill w g n n L) (hn : n = L.length) : Rs (fun b => b < g) w (some ⟨g, 0, none⟩) L := by
  obtain ⟨cur, h1, h2, h3⟩ := h.row
  rw [hn, List.take_length] at h3
  refine ⟨_, h3.less (fun b _ hb => Nat.le_of_lt hb), fun j u hj => ⟨g, 0, rfl, h.lt, by simp, ?_⟩⟩
  rw [List.getElem?_take] at hj
  split at hj
  · rw [cell_of_row _ _ _ _ _ _ h1, Nat.zero_add]; rw [Array.getElem?_toList] at hj; exact hj
  · cases hj
theorem fill_new (n : Nat) (w : World) (L : List Rec) : Fill (w.alloc (.cells (madeCells (Value.agg #[.slice none 0 0, .string ⟨#[]⟩]).cells (n * 2)) 56)) w.heap.size n 0 L := by
  refine ⟨_, heap_alloc_new _ _, ?_, ?_⟩
  · rw [size_madeCells]
  · rw [Nat.zero_mul, List.take_zero, List.take_zero]; exact RC.nil
end Go.Proofs.Ytolnbamdddiifaa.Bk
