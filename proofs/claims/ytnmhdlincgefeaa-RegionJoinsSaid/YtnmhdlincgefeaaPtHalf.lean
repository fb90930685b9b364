/- Halves of a box: small calls, copies that may be written, and the call itself. -/
import Derived.Test.YtnmhdlincgefeaaBkOwn
import Derived.Test.YtnmhdlincgefeaaKyBox
import Derived.Deep.DeepCutAuto
namespace Go.Proofs.Ytnmhdlincgefeaa.Pt
open Go.RowKit
open Go.Lib (hid)
open Go.Proofs.Ytnmhdlincgefeaa.Ky
open Go.Proofs.Ytnmhdlincgefeaa.Bk

set_option maxHeartbeats 400000 in
theorem has_ok (p : Option Addr) (n c : Nat) (a : Int) (w : World) : Calls Try.prog 48 #[.slice p n c, .int .i64 a] w fun e w' => e = .returned (.bool (decide (0 ≤ a ∧ a < (n : Int)))) ∧ w = w' := by
  by_cases h : 0 ≤ a
  · have e : decide (0 ≤ a ∧ a < (n : Int)) = decide (a < (n : Int)) := by simp [h]
    rw [e]
    clear e
    have h1 : decide (0 ≤ a) = true := by simpa using h
    clear h
    go_enter Try.func48, Try.ntmps48
    go_wp2_with fail
    go_ret
    exact ⟨rfl, rfl⟩
  · have e : decide (0 ≤ a ∧ a < (n : Int)) = false := by simp; omega
    have h1 : decide (0 ≤ a) = false := by simpa using h
    rw [e]
    clear e h
    go_enter Try.func48, Try.ntmps48
    go_wp2_with fail
    go_ret
    exact ⟨rfl, rfl⟩
/-- a row of the call's own that may be written: its first cells are l -/
def Rw (w : World) (g : Nat) (l : List Nat) : Prop := ∃ cur, w.heap[g]? = some (.cells cur 55 (0, 0)) ∧ l.length ≤ cur.size ∧ cur.toList.take l.length = kl l
section
variable {w w' : World} {g : Nat} {l : List Nat}
theorem Rw.lt (h : Rw w g l) : g < w.heap.size := by
  obtain ⟨cur, h1, _⟩ := h
  exact (Array.getElem?_eq_some_iff.1 h1).1
theorem Rw.cell (h : Rw w g l) (i : Nat) (hi : i < l.length) : w.cell? ⟨g, i, none⟩ = some (.int .u32 (l[i] : Int)) := by
  obtain ⟨cur, h1, h2, h3⟩ := h
  rw [cell_of_row _ _ _ _ _ _ h1]
  have h4 : (cur.toList.take l.length)[i]? = (kl l)[i]? := by rw [h3]
  rw [List.getElem?_take, if_pos hi, Array.getElem?_toList] at h4
  rw [h4]
  simp [kl, hi]
theorem Rw.frozen (h : Rw w g l) (i : Nat) : w.frozen? ⟨g, i, none⟩ = false := by
  obtain ⟨cur, h1, _⟩ := h
  exact frozen_of_row _ _ _ _ _ h1
theorem Rw.below (h : Rw w g l) (hb : Below w.heap.size w w') : Rw w' g l := by
  have hlt := h.lt
  obtain ⟨cur, h1, h2⟩ := h
  exact ⟨cur, (hb.block g hlt).trans h1, h2⟩
theorem Rw.far (h : Rw w g l) {p : Addr} (hp : g ≠ p.block) (u : Value) : Rw (w.setCell p u) g l := by
  obtain ⟨cur, h1, h2⟩ := h
  exact ⟨cur, (Below.heap_setCell w p u g hp).trans h1, h2⟩
theorem Rw.set (h : Rw w g l) (i x : Nat) (_ : i < l.length) : Rw (w.setCell ⟨g, i, none⟩ (.int .u32 (x : Int))) g (l.set i x) := by
  obtain ⟨cur, h1, h2, h3⟩ := h
  refine ⟨_, heap_setCell_same _ _ _ _ _ _ h1, by simp; omega, ?_⟩
  rw [List.length_set, Array.toList_setIfInBounds, List.take_set, h3]
  simp [kl]
theorem Rw.pt (h : Rw w g l) (hf : ∀ x ∈ l, x < 4294967296) : Pt w (some ⟨g, 0, none⟩) l :=
  ⟨fun j hj => ⟨g, 0, rfl, h.lt, by rw [Nat.zero_add]; exact h.cell j hj⟩, fun j hj => hf _ (List.getElem_mem hj)⟩
theorem Rw.drew (h : Rw w g l) : Rw w.drew g l := h
theorem Rw.drewN (h : Rw w g l) (n : Nat) : Rw (w.drewN n) g l := h
theorem Rw.ne_box (h : Rw w g l) (hl : 0 < l.length) {b : Nat} {p q : Option Addr} {n c n' c' : Nat} (hb : w.heap[b]? = some (.cells #[.slice p n c, .slice q n' c'] 43)) : g ≠ b := by
  rintro rfl
  have h1 := h.cell 0 hl
  rw [cell_of_row _ _ _ _ _ _ hb] at h1
  cases h1
end
/-- out of what an append gives -/
theorem row_full {w w' : World} {v : Value} {l : List Nat} (h0 : 0 < l.length) (h : Full w 55 1 0 l.length (kl l) v w') : ∃ c, v = .slice (some ⟨w.heap.size, 0, none⟩) l.length c ∧ Rw w' w.heap.size l ∧ Below w.heap.size w w' := by
  obtain ⟨p', c', rfl, _, hb, _, ho⟩ := h
  obtain ⟨h1, rfl⟩ := ho h0
  refine ⟨c', by rw [Nat.zero_add], ?_, hb⟩
  rcases h1.2 with ⟨hv, _⟩ | ⟨g, cap, cur, hv, _, hh, h5, _, hs, ht⟩
  · cases hv
  · injection hv with e1 _ e3
    injection e1 with e1
    injection e1 with e1
    subst e1
    subst e3
    exact ⟨cur, hh, by omega, by rw [← ht]; congr 1; omega⟩
set_option maxHeartbeats 1000000 in
theorem clone_row (l : List Nat) (p : Option Addr) (c : Nat) (w : World) (h : Pt w p l) (h0 : 0 < l.length) (hl : l.length ≤ 1000000) :
    Calls Try.prog 31 #[.slice p l.length c] w fun e w' => ∃ g c', e = .returned (.slice (some ⟨g, 0, none⟩) l.length c') ∧ Rw w' g l ∧ w.heap.size ≤ g ∧ Below w.heap.size w w' := by
  have q22 : ∀ (w : World) (a : Option Addr) (n c n' c' : Nat), (binOp .eql 41 (.slice a n c) (.slice none n' c')).run Try.prog w = .ok (.bool a.isNone) w := fun w a n c n' c' => Lib.run_eql_slice_nil w _ _ a n c n' c' Try.underlying41
  cases p with
  | none => obtain ⟨b, off, e, _⟩ := h.cells 0 h0; cases e
  | some a =>
    have HP := hid h; have H0 := hid h0; clear h h0
    go_enter Try.func31, Try.ntmps31
    go_wp2_with (at_builtin; refine wpList_app rfl _ _ _ rfl rfl rfl (key_full _ _ _ l _ (HP.out.alloc _) (by omega)) ?_)
    intro v' w1 hF
    obtain ⟨c', rfl, hr, hb⟩ := row_full H0.out hF
    have HN := hid hr
    have HB := hid (show Below w.heap.size w w1 from ((below_alloc w _).trans (hb.mono (by simp))))
    clear hF hr hb
    go_wp2_with fail
    go_ret
    exact ⟨_, c', rfl, HN.out, by simp, HB.out⟩
/-- two rows, one behind the other -/
structure Two (w w' : World) (g g' : Nat) (l m : List Nat) : Prop where
  one : Rw w' g l
  two : Rw w' g' m
  ge : w.heap.size ≤ g
  lt : g < g'
  below : Below w.heap.size w w'
theorem Two.step {w w' w2 : World} {g g' : Nat} {l m : List Nat} (h : Two w w' g g' l m) (hb : Below w'.heap.size w' w2) : Two w w2 g g' l m :=
  ⟨h.one.below hb, h.two.below hb, h.ge, h.lt, h.below.trans (hb.mono h.below.size)⟩
/-- a value that is a box of its own -/
def NewBoxV (w : World) (lo hi : List Nat) (e : Ending) (w' : World) : Prop :=
  ∃ g c g' c', e = .returned (.agg #[.slice (some ⟨g, 0, none⟩) lo.length c, .slice (some ⟨g', 0, none⟩) hi.length c']) ∧ Two w w' g g' lo hi
set_option maxRecDepth 100000 in
set_option maxHeartbeats 2000000 in
theorem copied_ok (lo hi : List Nat) (p q : Option Addr) (c c' : Nat) (w : World) (hp : Pt w p lo) (hq : Pt w q hi) (h0 : 0 < lo.length) (h1 : 0 < hi.length) (hl : lo.length ≤ 1000000) (hl2 : hi.length ≤ 1000000) :
    Calls Try.prog 49 #[.agg #[.slice p lo.length c, .slice q hi.length c']] w (NewBoxV w lo hi) := by
  obtain ⟨oa, hoa⟩ : ∃ o, o = Obj.cells #[Value.slice p lo.length c, .slice q hi.length c'] 43 := ⟨_, rfl⟩
  obtain ⟨oz, hoz⟩ : ∃ o, o = Obj.cells #[Value.slice none 0 0, .slice none 0 0] 43 := ⟨_, rfl⟩
  obtain ⟨W, hW⟩ : ∃ W, W = (w.alloc oa).alloc oz := ⟨_, rfl⟩
  have hB0 : Below w.heap.size w W := by rw [hW]; exact (below_alloc w oa).alloc (below_alloc w oa).size oz
  have hA : W.heap[w.heap.size]? = some (.cells #[Value.slice p lo.length c, .slice q hi.length c'] 43) := by rw [hW, (two_new w oa oz).1, hoa]
  have hZ : W.heap[w.heap.size + 1]? = some (.cells #[Value.slice none 0 0, .slice none 0 0] 43) := by rw [hW, (two_new w oa oz).2.1, hoz]
  have hS : W.heap.size = w.heap.size + 2 := by rw [hW, (two_new w oa oz).2.2]
  have HA := hid fun (w' : World) (hb : Below W.heap.size W w') => two_cells ((hb.block w.heap.size (by omega)).trans hA)
  have HZ := hid fun (w' : World) (hb : Below W.heap.size W w') => (hb.block (w.heap.size + 1) (by omega)).trans hZ
  have HC := hid fun (w' : World) (hb : Below W.heap.size W w') => clone_row lo p c w' (hp.below (hB0.trans (hb.mono (by omega)))) h0 hl
  have HT := hid fun (w' : World) (hb : Below W.heap.size W w') => clone_row hi q c' w' (hq.below (hB0.trans (hb.mono (by omega)))) h1 hl2
  have HB := hid hB0
  have HS := hid hS
  clear hp hq hB0 hA hZ hS h0 h1
  go_enter Try.func49, Try.ntmps49
  subst hoa hoz
  go_wp2_with fail
  rw [← hW]
  clear hW
  have H0 := hid (Below.refl W.heap.size W).drew
  have x0 := HA.out _ H0.out
  go_region_held3 (fun w' => w'.cell? ⟨w.heap.size, 0, none⟩ = some (.slice p lo.length c) ∧ w'.cell? ⟨w.heap.size, 1, none⟩ = some (.slice q hi.length c')) (first | exact ⟨x0.1, x0.2.1⟩ | exact ⟨x1.1, x1.2.1⟩ | exact ⟨x2.1, x2.2.1⟩ | go_keep)
    (first
      | (go_at_call 31; (with_reducible refine (HC.out _ H0.out).mono ?_); rintro e w4 ⟨g, c1, rfl, hr, hg, hb⟩; have H1 := hid (H0.out.trans (hb.mono H0.out.size)); have HR := hid hr; have HG := hid (Nat.le_trans H0.out.size hg); have x1 := HA.out _ H1.out; clear hr hg hb)
      | (go_at_call 31; (with_reducible refine (HT.out _ H1.out).mono ?_); rintro e w5 ⟨g2, c2, rfl, hr, hg, hb⟩; have H2 := hid (H1.out.trans (hb.mono H1.out.size)); have HR1 := hid (HR.out.below hb); have HR2 := hid hr; have HG2 := hid (Nat.lt_of_lt_of_le HR.out.lt hg); have x2 := HA.out _ H2.out; have z2 := two_cells (HZ.out _ H2.out); clear hr hg hb)
      | fail)
  have z5 := HZ.out _ H2.out
  have y := two_cells (two_set z5 (.slice (some ⟨g, 0, none⟩) lo.length c1) (.slice (some ⟨g2, 0, none⟩) hi.length c2))
  have hne1 : g ≠ w.heap.size + 1 := by have := HG.out; have := HS.out; omega
  have hne2 : g2 ≠ w.heap.size + 1 := by have := HG2.out; have := HG.out; have := HS.out; omega
  have HF := hid (show Two w ((w5.setCell ⟨w.heap.size + 1, 0, none⟩ (.slice (some ⟨g, 0, none⟩) lo.length c1)).setCell ⟨w.heap.size + 1, 1, none⟩ (.slice (some ⟨g2, 0, none⟩) hi.length c2)) g g2 lo hi from
    ⟨(HR1.out.far (p := ⟨_, _, none⟩) hne1 _).far (p := ⟨_, _, none⟩) hne1 _, (HR2.out.far (p := ⟨_, _, none⟩) hne2 _).far (p := ⟨_, _, none⟩) hne2 _, by have := HG.out; have := HS.out; omega, HG2.out,
      ((HB.out.trans (H2.out.mono HB.out.size)).setCell (p := ⟨w.heap.size + 1, 0, none⟩) (by show w.heap.size ≤ w.heap.size + 1; omega) _).setCell (p := ⟨w.heap.size + 1, 1, none⟩) (by show w.heap.size ≤ w.heap.size + 1; omega) _⟩)
  clear x0 x1 x2 z2 z5 HR HR1 HR2 H0 H1 H2 HB HA HZ HC HT hne1 hne2
  go_wp2_with fail
  refine bodyPost_ret (v := .agg #[.slice (some ⟨g, 0, none⟩) lo.length c1, .slice (some ⟨g2, 0, none⟩) hi.length c2]) (by simp [results, Try.results49, go_sem, y]) rfl ?_
  exact ⟨g, c1, g2, c2, rfl, HF.out⟩
end Go.Proofs.Ytnmhdlincgefeaa.Pt
