/- Copies: of a text, a point, a record, records; of both sides. -/
import Derived.Test.YtmniaaledplhfaaBkApp
namespace Go.Proofs.Ytmniaaledplhfaa.Bk
open Go.RowKit
open Go.Lib (hid)
open Go.Proofs.Ytmniaaledplhfaa.Ky

/-- what was there ahead of N -/
def Lt (N : Nat) : Nat → Prop := fun k => k < N
theorem PtD.to {D : Nat → Prop} {w : World} {p : Option Addr} {l : List Nat} {N : Nat} (h : PtD D w p l) (hd : ∀ k, k < N → D k) : PtD (Lt N) w p l := h.less fun b _ hb => hd b hb
theorem Pt.ptd {w : World} {p : Option Addr} {l : List Nat} (h : Pt w p l) : PtD (fun _ => False) w p l := ⟨fun j hj => by
  obtain ⟨b, off, h1, h2, h3⟩ := h.cells j hj
  exact ⟨b, off, h1, h2, id, h3⟩, h.fit⟩
set_option maxHeartbeats 400000 in
theorem strClone_ok (t : ByteArray) (w : World) (h : t.size ≤ 1000000) :
    Calls Try.prog 47 #[.string t] w fun e w' => e = .returned (.string t) ∧ Below w.heap.size w w' := by
  have h2 : t.size ≤ 281474976710656 := by omega
  have H := hid h2; clear h h2
  go_enter Try.func47, Try.ntmps47
  go_wp2_with (first
    | (go_at_call 53; refine (Try.stringslite_Clone t _ H.out).mono ?_; rintro e w' ⟨rfl, hb⟩; have HB := hid hb; clear hb)
    | fail)
  go_ret
  exact ⟨rfl, HB.out⟩
set_option maxHeartbeats 1000000 in
theorem clone_ok (l : List Nat) (p : Option Addr) (c : Nat) (w : World) (h : Pt w p l) (hl : l.length ≤ 1000000) :
    Calls Try.prog 46 #[.slice p l.length c] w fun e w' => ∃ p' c', e = .returned (.slice p' l.length c') ∧ PtD (Lt w.heap.size) w' p' l ∧ Below w.heap.size w w' := by
  have q22 : ∀ (w : World) (a : Option Addr) (n c n' c' : Nat), (binOp .eql 31 (.slice a n c) (.slice none n' c')).run Try.prog w = .ok (.bool a.isNone) w := fun w a n c n' c' => Lib.run_eql_slice_nil w _ _ a n c n' c' Try.underlying31
  cases p with
  | none =>
    have h0 : l = [] := by
      cases l with
      | nil => rfl
      | cons x l => obtain ⟨b, off, e, _⟩ := h.cells 0 (by simp); cases e
    subst h0
    clear h
    go_enter Try.func46, Try.ntmps46
    go_wp2_with fail
    go_ret
    exact ⟨none, 0, rfl, ⟨fun j hj => absurd hj (by simp), fun j hj => absurd hj (by simp)⟩, Below.refl _ _⟩
  | some a =>
    have HP := hid h; clear h
    go_enter Try.func46, Try.ntmps46
    go_wp2_with (at_builtin; refine wpList_app rfl _ _ _ rfl rfl rfl (key_full _ _ _ l _ (HP.out.alloc _) (by omega)) ?_)
    intro v' w1 hF
    obtain ⟨p', c', rfl, hp, hb⟩ := new_pt HP.out.fit hF
    have HN := hid (hp.to (N := w.heap.size) fun k hk => by simp; omega)
    have HB := hid (show Below w.heap.size w w1 from ((below_alloc w _).trans (hb.mono (by simp))))
    clear hF hp hb
    go_wp2_with fail
    go_ret
    exact ⟨p', c', rfl, HN.out, HB.out⟩
set_option maxHeartbeats 1000000 in
theorem copy_ok (l : List Nat) (p : Option Addr) (c : Nat) (w : World) (h : Pt w p l) (hl : l.length ≤ 1000000) :
    Calls Try.prog 34 #[.slice p l.length c] w fun e w' => ∃ p' c', e = .returned (.slice p' l.length c') ∧ PtD (Lt w.heap.size) w' p' l ∧ Below w.heap.size w w' := by
  have HP := hid h; clear h
  go_enter Try.func34, Try.ntmps34
  go_wp2_with (at_builtin; refine wpList_app rfl _ _ _ rfl rfl rfl (key_full _ none _ l _ HP.out (by omega)) ?_)
  intro v' w1 hF
  obtain ⟨p', c', rfl, hp, hb⟩ := new_pt HP.out.fit hF
  have HN := hid (hp.to (N := w.heap.size) fun k hk => hk)
  have HB := hid hb
  clear hF hp hb
  go_wp2_with fail
  go_ret
  exact ⟨p', c', rfl, HN.out, HB.out⟩
/-- a record's two blocks: the argument's, and the result's -/
theorem two_new (w : World) (a b : Obj) : ((w.alloc a).alloc b).heap[w.heap.size]? = some a ∧ ((w.alloc a).alloc b).heap[w.heap.size + 1]? = some b ∧ ((w.alloc a).alloc b).heap.size = w.heap.size + 2 := by
  have s1 : (w.alloc a).heap.size = w.heap.size + 1 := by simp
  refine ⟨?_, ?_, by simp⟩
  · rw [Below.heap_alloc _ _ _ (by omega), heap_alloc_new]
  · rw [← s1, heap_alloc_new]
theorem two_cells {w : World} {g : Nat} {x y : Value} {T : TypeId} (h : w.heap[g]? = some (.cells #[x, y] T)) : w.cell? ⟨g, 0, none⟩ = some x ∧ w.cell? ⟨g, 1, none⟩ = some y ∧ w.frozen? ⟨g, 0, none⟩ = false ∧ w.frozen? ⟨g, 1, none⟩ = false :=
  ⟨by rw [cell_of_row _ _ _ _ _ _ h]; rfl, by rw [cell_of_row _ _ _ _ _ _ h]; rfl, by simp [World.frozen?, h], by simp [World.frozen?, h]⟩
theorem two_set {w : World} {g : Nat} {x y : Value} {T : TypeId} (h : w.heap[g]? = some (.cells #[x, y] T)) (u v : Value) : ((w.setCell ⟨g, 0, none⟩ u).setCell ⟨g, 1, none⟩ v).heap[g]? = some (.cells #[u, v] T) := by
  have b1 : (w.setCell ⟨g, 0, none⟩ u).heap[g]? = some (.cells #[u, y] T (0, 0)) := by simp [World.setCell, Array.getElem?_modify, h]
  rw [World.setCell, Array.getElem?_modify, if_pos rfl, b1]; rfl
theorem two_keep {D : Nat → Prop} {w : World} {g : Nat} (hg : D g) (u v : Value) : Keep D w ((w.setCell ⟨g, 0, none⟩ u).setCell ⟨g, 1, none⟩ v) :=
  ⟨by simp, fun k _ hD => by
    have hne : k ≠ g := fun e => hD (e ▸ hg)
    rw [Below.heap_setCell _ ⟨g, 1, none⟩ _ _ hne, Below.heap_setCell _ ⟨g, 0, none⟩ _ _ hne]⟩
set_option maxRecDepth 100000 in
set_option maxHeartbeats 2000000 in
theorem record_ok (l : List Nat) (p : Option Addr) (c : Nat) (t : ByteArray) (w : World) (h : Pt w p l) (hl : l.length ≤ 1000000) (ht : t.size ≤ 1000000) :
    Calls Try.prog 31 #[.agg #[.slice p l.length c, .string t]] w fun e w' => ∃ p' c', e = .returned (.agg #[.slice p' l.length c', .string t]) ∧ PtD (Lt w.heap.size) w' p' l ∧ Below w.heap.size w w' := by
  obtain ⟨oa, hoa⟩ : ∃ o, o = Obj.cells #[Value.slice p l.length c, .string t] 33 := ⟨_, rfl⟩
  obtain ⟨oz, hoz⟩ : ∃ o, o = Obj.cells #[Value.slice none 0 0, .string ⟨#[]⟩] 33 := ⟨_, rfl⟩
  obtain ⟨W, hW⟩ : ∃ W, W = (w.alloc oa).alloc oz := ⟨_, rfl⟩
  have hB0 : Below w.heap.size w W := by rw [hW]; exact (below_alloc w oa).alloc (below_alloc w oa).size oz
  have hA : W.heap[w.heap.size]? = some (.cells #[Value.slice p l.length c, .string t] 33) := by rw [hW, (two_new w oa oz).1, hoa]
  have hZ : W.heap[w.heap.size + 1]? = some (.cells #[Value.slice none 0 0, .string ⟨#[]⟩] 33) := by rw [hW, (two_new w oa oz).2.1, hoz]
  have hS : W.heap.size = w.heap.size + 2 := by rw [hW, (two_new w oa oz).2.2]
  have HA := hid fun (w' : World) (hb : Below W.heap.size W w') => two_cells ((hb.block w.heap.size (by omega)).trans hA)
  have HZ := hid fun (w' : World) (hb : Below W.heap.size W w') => (hb.block (w.heap.size + 1) (by omega)).trans hZ
  have HC := hid fun (w' : World) (hb : Below W.heap.size W w') => clone_ok l p c w' (h.below (hB0.trans (hb.mono (by omega)))) hl
  have HT := hid fun (w' : World) => strClone_ok t w' ht
  have HB := hid hB0
  have HS := hid hS
  clear h hB0 hA hZ hS
  go_enter Try.func31, Try.ntmps31
  subst hoa hoz
  go_wp2_with fail
  rw [← hW]
  clear hW
  have H0 := hid (Below.refl W.heap.size W).drew
  have x0 := HA.out _ H0.out
  go_region_held3 (fun w' => w'.cell? ⟨w.heap.size, 0, none⟩ = some (.slice p l.length c) ∧ w'.cell? ⟨w.heap.size, 1, none⟩ = some (.string t)) (first | exact ⟨x0.1, x0.2.1⟩ | exact ⟨x1.1, x1.2.1⟩ | exact ⟨x2.1, x2.2.1⟩ | go_keep)
    (first
      | (go_at_call 46; (with_reducible refine (HC.out _ H0.out).mono ?_); rintro e w4 ⟨p', c', rfl, hp, hb⟩; have HP := hid hp; have H1 := hid (H0.out.trans (hb.mono H0.out.size)); have x1 := HA.out _ H1.out; clear hp hb)
      | (go_at_call 47; (with_reducible refine (HT.out _).mono ?_); rintro e w5 ⟨rfl, hb⟩; have H2 := hid (H1.out.trans (hb.mono H1.out.size)); have x2 := HA.out _ H2.out; have z2 := two_cells (HZ.out _ H2.out); have HP2 := hid (HP.out.keep (.below hb)); clear hb)
      | fail)
  have z5 := HZ.out _ H2.out
  have y := two_cells (two_set z5 (.slice p' l.length c') (.string t))
  have HN := hid ((HP2.out.keep (two_keep (D := Lt W.heap.size) (g := w.heap.size + 1) (by unfold Lt; have := HS.out; omega) (.slice p' l.length c') (.string t))).less (D' := Lt w.heap.size) (fun b _ hb => by have hb' : b < w.heap.size := hb; show b < W.heap.size; have := HS.out; omega))
  have HE := hid (((HB.out.trans (H2.out.mono HB.out.size)).setCell (p := ⟨w.heap.size + 1, 0, none⟩) (by show w.heap.size ≤ w.heap.size + 1; omega) (.slice p' l.length c')).setCell (p := ⟨w.heap.size + 1, 1, none⟩) (by show w.heap.size ≤ w.heap.size + 1; omega) (.string t))
  clear x0 x1 x2 z2 z5 HP HP2 H0 H1 H2 HB HA HZ HC HT
  go_wp2_with fail
  refine bodyPost_ret (v := .agg #[.slice p' l.length c', .string t]) (by simp [results, Try.results31, go_sem, y]) rfl ?_
  exact ⟨p', c', rfl, HN.out, HE.out⟩
theorem rmake (n : Nat) (h : n ≤ 1000000) (w : World) :
    (Instr.makeSlice 40 (.int .i64 (n : Int)) (.int .i64 (n : Int))).run Try.prog w = .ok (.slice (some ⟨w.heap.size, 0, none⟩) n n) (w.alloc (.cells (madeCells (Value.agg #[.slice none 0 0, .string ⟨#[]⟩]).cells (n * 2)) 33)) := by
  obtain ⟨i, hi, hz, hs, hb⟩ := info_parts rinfo
  have := run_makeSlice (P := Try.prog) (w := w) 40 33 i _ Try.underlying40 hi hz .i64 .i64 n n (by omega) (by omega) (by rw [hs]; omega) (by rw [hb]; omega) (by omega)
  rw [hs] at this
  exact this
/-- a row of n records that is filled, the first k of L -/
structure Fill (w : World) (g n k : Nat) (L : List Rec) : Prop where
  row : ∃ cur, w.heap[g]? = some (.cells cur 33 (0, 0)) ∧ cur.size = n * 2 ∧ RC (fun b => b ≤ g) w (cur.toList.take (k * 2)) (L.take k)
theorem Fill.lt {w : World} {g n k : Nat} {L : List Rec} (h : Fill w g n k L) : g < w.heap.size := by
  obtain ⟨cur, h1, _⟩ := h.row
  exact (Array.getElem?_eq_some_iff.1 h1).1
theorem Fill.below {w w' : World} {g n k : Nat} {L : List Rec} (h : Fill w g n k L) (hb : Below w.heap.size w w') : Fill w' g n k L := by
  obtain ⟨cur, h1, h2, h3⟩ := h.row
  exact ⟨cur, (hb.block g h.lt).trans h1, h2, h3.below hb⟩
theorem Fill.cell {w : World} {g n k : Nat} {L : List Rec} (h : Fill w g n k L) (j : Nat) (hj : j < n * 2) : (∃ v, w.cell? ⟨g, j, none⟩ = some v) ∧ w.frozen? ⟨g, j, none⟩ = false := by
  obtain ⟨cur, h1, h2, _⟩ := h.row
  exact ⟨⟨cur[j]'(by omega), by rw [cell_of_row _ _ _ _ _ _ h1]; exact Array.getElem?_eq_getElem (by omega)⟩, frozen_of_row _ _ _ _ _ h1⟩
theorem Fill.put {w : World} {g n k : Nat} {L : List Rec} (h : Fill w g n k L) (hk : k < n) (hl : k < L.length) {q : Option Addr} {c : Nat} (hq : PtD (fun b => b ≤ g) w q L[k].1) :
    Fill ((w.setCell ⟨g, k * 2, none⟩ (.slice q L[k].1.length c)).setCell ⟨g, k * 2 + 1, none⟩ (.string L[k].2)) g n (k + 1) L := by
  obtain ⟨cur, h1, h2, h3⟩ := h.row
  have hs1 : (w.setCell ⟨g, k * 2, none⟩ (.slice q L[k].1.length c)).heap[g]? = _ := heap_setCell_same _ _ _ _ _ _ h1
  have hs2 : ((w.setCell ⟨g, k * 2, none⟩ (.slice q L[k].1.length c)).setCell ⟨g, k * 2 + 1, none⟩ (.string L[k].2)).heap[g]? = _ := heap_setCell_same _ _ _ _ _ _ hs1
  have hk0 : Keep (fun b => b ≤ g) w ((w.setCell ⟨g, k * 2, none⟩ (.slice q L[k].1.length c)).setCell ⟨g, k * 2 + 1, none⟩ (.string L[k].2)) :=
    ⟨by simp, fun b _ hD => by
      have hne : b ≠ g := fun e => hD (by show b ≤ g; omega)
      rw [Below.heap_setCell _ ⟨g, _, none⟩ _ _ hne, Below.heap_setCell _ ⟨g, _, none⟩ _ _ hne]⟩
  refine ⟨_, hs2, by simp [h2], ?_⟩
  have e : ((cur.setIfInBounds (k * 2) (.slice q L[k].1.length c)).setIfInBounds (k * 2 + 1) (.string L[k].2)).toList.take ((k + 1) * 2) = cur.toList.take (k * 2) ++ [.slice q L[k].1.length c, .string L[k].2] := by
    apply List.ext_getElem?
    intro j
    rw [List.getElem?_take, Array.getElem?_toList, Array.getElem?_setIfInBounds, Array.getElem?_setIfInBounds, Array.size_setIfInBounds]
    have hlen : (cur.toList.take (k * 2)).length = k * 2 := by rw [List.length_take, Array.length_toList]; omega
    by_cases h0 : j < k * 2
    · rw [if_pos (by omega), if_neg (by omega), if_neg (by omega), List.getElem?_append_left (by omega), List.getElem?_take_of_lt h0, Array.getElem?_toList]
    · rw [List.getElem?_append_right (by omega), hlen]
      by_cases h1 : j = k * 2
      · subst h1
        rw [if_pos (by omega), if_neg (by omega), if_pos rfl, if_pos (by omega), Nat.sub_self]; rfl
      · by_cases h3 : j = k * 2 + 1
        · subst h3
          rw [if_pos (by omega), if_pos rfl, if_pos (by omega), show k * 2 + 1 - k * 2 = 1 by omega]; rfl
        · rw [if_neg (by omega), List.getElem?_eq_none (by simp; omega)]
  rw [e, List.take_succ_eq_append_getElem hl]
  exact (h3.keep hk0).app (RC.one (hq.keep hk0))
theorem Fill.done {w : World} {g n : Nat} {L : List Rec} (h : Fill w g n n L) (hn : n = L.length) : Rs (fun b => b < g) w (some ⟨g, 0, none⟩) L := by
  obtain ⟨cur, h1, h2, h3⟩ := h.row
  rw [hn, List.take_length] at h3
  refine ⟨_, h3.less (fun b _ hb => Nat.le_of_lt hb), fun j u hj => ⟨g, 0, rfl, h.lt, by simp, ?_⟩⟩
  rw [List.getElem?_take] at hj
  split at hj
  · rw [cell_of_row _ _ _ _ _ _ h1, Nat.zero_add]; rw [Array.getElem?_toList] at hj; exact hj
  · cases hj
theorem fill_new (n : Nat) (w : World) (L : List Rec) : Fill (w.alloc (.cells (madeCells (Value.agg #[.slice none 0 0, .string ⟨#[]⟩]).cells (n * 2)) 33)) w.heap.size n 0 L := by
  refine ⟨_, heap_alloc_new _ _, ?_, ?_⟩
  · rw [size_madeCells]
  · rw [Nat.zero_mul, List.take_zero, List.take_zero]; exact RC.nil
set_option maxRecDepth 100000 in
set_option maxHeartbeats 2000000 in
theorem records_ok {D : Nat → Prop} (L : List Rec) (p : Option Addr) (c : Nat) (w : World) (h : Rs D w p L) (hl : bigR L) :
    Calls Try.prog 26 #[.slice p L.length c] w fun e w' => ∃ p', e = .returned (.slice p' L.length L.length) ∧ Rs (Lt w.heap.size) w' p' L ∧ Below w.heap.size w w' := by
  have HP := hid h; have HL := hid hl; have hlen := hl.1
  have hmk := rmake L.length (by omega) w
  have HF0 := hid (fill_new L.length w L)
  have HB0 := hid (below_alloc w (.cells (madeCells (Value.agg #[.slice none 0 0, .string ⟨#[]⟩]).cells (L.length * 2)) 33))
  have HG0 := hid (show w.heap.size < (w.alloc (.cells (madeCells (Value.agg #[.slice none 0 0, .string ⟨#[]⟩]).cells (L.length * 2)) 33)).heap.size by simp)
  generalize w.alloc (.cells (madeCells (Value.agg #[.slice none 0 0, .string ⟨#[]⟩]).cells (L.length * 2)) 33) = W at hmk HF0 HB0 HG0
  clear h hl
  go_enter Try.func26, Try.ntmps26
  go_wp2_with fail
  clear hmk
  go_loopw [11] (fun i wr => ∃ k : Nat, k ≤ L.length ∧ i = .int .i64 k ∧ Fill wr w.heap.size L.length k L ∧ Below w.heap.size w wr ∧ w.heap.size < wr.heap.size) (fun i _ => L.length - (intOf i).toNat)
  case atStart => exact ⟨0, by omega, rfl, HF0.out, HB0.out, HG0.out⟩
  case round =>
    clear HF0 HB0 HG0
    obtain ⟨k, hk, rfl, hf, hb, hg⟩ := hrel
    have HF := hid hf; have HB := hid hb; have HG := hid hg; clear hf hb hg
    by_cases hlt : k < L.length
    · obtain ⟨b, off, q, c', rfl, _, d1, d2, hq⟩ := (HP.out.below HB.out).at k hlt
      have hs := HL.out.2 _ (List.getElem_mem hlt)
      have HR := hid fun (w' : World) (hb : Below wr.heap.size wr w') => record_ok L[k].1 q c' L[k].2 w' (hq.pt.below hb) (by omega) (by omega)
      have HK := hid hlt
      have HPUT := hid fun (w' : World) (q' : Option Addr) (c2 : Nat) (hf : Fill w' w.heap.size L.length k L) (hq' : PtD (fun b => b ≤ w.heap.size) w' q' L[k].1) => hf.put (c := c2) hlt hlt hq'
      clear hq hs
      generalize L[k].1 = x at d1 HR HPUT
      generalize L[k].2 = t at d2 HR HPUT
      go_wp2_with (go_at_call 31; refine (HR.out _ (below_alloc wr _)).mono ?_; rintro e w2 ⟨q', c2, rfl, hp, hb⟩; have hb2 := (below_alloc wr _).trans (hb.mono (below_alloc wr _).size); have HF2 := hid (HF.out.below hb2); have HB2 := hid (HB.out.trans (hb2.mono HB.out.size)); have HP2 := hid (hp.less (D' := fun b => b ≤ w.heap.size) (fun b _ hb => by have hb' : b ≤ w.heap.size := hb; show b < (wr.alloc _).heap.size; have := HG.out; simp; omega)); have HG2 := hid (Nat.lt_of_lt_of_le HG.out hb2.size); obtain ⟨⟨v1, f1⟩, f2⟩ := HF2.out.cell (k * 2) (by omega); obtain ⟨⟨v2, f3⟩, f4⟩ := HF2.out.cell (k * 2 + 1) (by omega); clear hp hb hb2)
      have HF3 := hid (HPUT.out _ _ c2 HF2.out HP2.out)
      have HB3 := hid ((HB2.out.setCell (p := ⟨w.heap.size, k * 2, none⟩) (Nat.le_refl _) (.slice q' x.length c2)).setCell (p := ⟨w.heap.size, k * 2 + 1, none⟩) (Nat.le_refl _) (.string t))
      go_roundw
      case rel => exact ⟨k + 1, by omega, by go_num, HF3.out, HB3.out, by simpa using HG2.out⟩
      case measure => simp [intOf]; omega
    · obtain rfl : k = L.length := by omega
      go_wp2_with fail
      go_ret
      exact ⟨_, rfl, HF.out.done rfl, HB.out⟩
end Go.Proofs.Ytmniaaledplhfaa.Bk
