/- Meet: what two boxes have both. -/
import Derived.Test.YtnmhdlincgefeaaKyZip
namespace Go.Proofs.Ytnmhdlincgefeaa.Ky
open Go.RowKit
open Go.Lib (hid)

def zipL (f : Nat → Nat → Nat) (l m : List Nat) : List Nat := if m.length = l.length then List.zipWith f l m else []
theorem zipL_yes {f : Nat → Nat → Nat} {l m : List Nat} (h : m.length = l.length) : zipL f l m = List.zipWith f l m := if_pos h
theorem zipL_no {f : Nat → Nat → Nat} {l m : List Nat} (h : m.length ≠ l.length) : zipL f l m = [] := if_neg h
theorem meet_box (al ah bl bh : List Nat) : boxB (zipL max al bl) (zipL min ah bh) (zipL max al bl).length = meetB al ah bl bh := by
  by_cases h1 : bl.length = al.length
  · rw [zipL_yes h1]
    have e1 : (List.zipWith max al bl).length = al.length := by simp; omega
    by_cases h2 : bh.length = ah.length
    · rw [zipL_yes h2]
      have e2 : (List.zipWith min ah bh).length = ah.length := by simp; omega
      by_cases h3 : ah.length = al.length
      · unfold boxB meetB checkB boxN four hiOf loOf
        rw [e1, mayB_nat]
        have : bh.length = al.length := by omega
        simp [h1, h3, this]
      · unfold boxB meetB four
        rw [leAll_ne (by omega)]
        simp [h3]
    · rw [zipL_no h2]
      have hf : four al ah bl bh = false := by
        cases e : four al ah bl bh with
        | false => rfl
        | true => simp [four] at e; omega
      unfold meetB
      rw [hf, Bool.false_and]
      unfold boxB
      by_cases h3 : al.length = 0
      · have : checkB (List.zipWith max al bl).length ((List.zipWith max al bl).length : Int) = false := by rw [e1, h3]; rfl
        rw [this, Bool.false_and]
      · rw [leAll_ne (by rw [e1]; simpa using h3), Bool.and_false]
  · rw [zipL_no h1]
    unfold boxB meetB four checkB mayB
    simp [h1]
theorem zip_fit {f : Nat → Nat → Nat} (hf : ∀ a b, a < 4294967296 → b < 4294967296 → f a b < 4294967296) {l m : List Nat} (hl : ∀ x ∈ l, x < 4294967296) (hm : ∀ x ∈ m, x < 4294967296) : ∀ x ∈ List.zipWith f l m, x < 4294967296 := by
  induction l generalizing m with
  | nil => simp
  | cons a l ih =>
    cases m with
    | nil => simp
    | cons b m =>
      intro x hx
      rw [List.zipWith_cons_cons, List.mem_cons] at hx
      rcases hx with rfl | hx
      · exact hf _ _ (hl _ (by simp)) (hm _ (by simp))
      · exact ih (fun y hy => hl y (by simp [hy])) (fun y hy => hm y (by simp [hy])) x hx
/-- a new point was returned -/
def NewPt (w : World) (l : List Nat) (e : Ending) (w' : World) : Prop := ∃ A c, e = .returned (.slice A l.length c) ∧ Pt w' A l ∧ Below w.heap.size w w'
/-- a box's value -/
def boxV (A : Option Addr) (n c : Nat) (A' : Option Addr) (n' c' : Nat) : Value := .agg #[.slice A n c, .slice A' n' c']
/-- a box and a bool were returned -/
def NewBox (w : World) (lo hi : List Nat) (v : Value) (e : Ending) (w' : World) : Prop :=
  ∃ A c A' c', e = .returned (.tuple #[.agg #[.slice A lo.length c, .slice A' hi.length c'], v]) ∧ Pt w' A lo ∧ Pt w' A' hi ∧ Below w.heap.size w w'
theorem zipL_len (f : Nat → Nat → Nat) (l m : List Nat) : (zipL f l m).length ≤ l.length := by unfold zipL; split <;> simp; omega
theorem keep4 {w W w' : World} {v1 v2 v3 v4 : Value} (h : W.cell? ⟨w.heap.size, 0, none⟩ = some v1 ∧ W.cell? ⟨w.heap.size, 1, none⟩ = some v2 ∧ W.cell? ⟨w.heap.size + 1, 0, none⟩ = some v3 ∧ W.cell? ⟨w.heap.size + 1, 1, none⟩ = some v4 ∧ W.heap.size = w.heap.size + 3) (hb : Below W.heap.size W w') :
    w'.cell? ⟨w.heap.size, 0, none⟩ = some v1 ∧ w'.cell? ⟨w.heap.size, 1, none⟩ = some v2 ∧ w'.cell? ⟨w.heap.size + 1, 0, none⟩ = some v3 ∧ w'.cell? ⟨w.heap.size + 1, 1, none⟩ = some v4 := by
  obtain ⟨h1, h2, h3, h4, h5⟩ := h
  exact ⟨(hb.cell (by simp; omega)).trans h1, (hb.cell (by simp; omega)).trans h2, (hb.cell (by simp; omega)).trans h3, (hb.cell (by simp; omega)).trans h4⟩
theorem zero_at {w w' : World} (h : Below (w.alloc (.cells #[Value.slice none 0 0, .slice none 0 0] 43)).heap.size (w.alloc (.cells #[Value.slice none 0 0, .slice none 0 0] 43)) w') : w'.cell? ⟨w.heap.size, 0, none⟩ = some (.slice none 0 0) ∧ w'.cell? ⟨w.heap.size, 1, none⟩ = some (.slice none 0 0) ∧ w'.frozen? ⟨w.heap.size, 0, none⟩ = false ∧ w'.frozen? ⟨w.heap.size, 1, none⟩ = false := by
  have h0 : w'.heap[w.heap.size]? = some (.cells #[Value.slice none 0 0, .slice none 0 0] 43) := by rw [h.block _ (by simp)]; exact heap_alloc_new _ _
  exact ⟨by rw [cell_of_row _ _ _ _ _ _ h0]; rfl, by rw [cell_of_row _ _ _ _ _ _ h0]; rfl, by simp [World.frozen?, h0], by simp [World.frozen?, h0]⟩
theorem ge_of {n : Nat} {W w' : World} (h : n ≤ W.heap.size) (hb : Below W.heap.size W w') : n ≤ w'.heap.size := Nat.le_trans h hb.size
theorem set4 {w w' : World} {v1 v2 v3 v4 u v : Value} {g : Nat} (h : w'.cell? ⟨w.heap.size, 0, none⟩ = some v1 ∧ w'.cell? ⟨w.heap.size, 1, none⟩ = some v2 ∧ w'.cell? ⟨w.heap.size + 1, 0, none⟩ = some v3 ∧ w'.cell? ⟨w.heap.size + 1, 1, none⟩ = some v4) (hg : w.heap.size + 2 ≤ g) :
    ((w'.setCell ⟨g, 0, none⟩ u).setCell ⟨g, 1, none⟩ v).cell? ⟨w.heap.size, 0, none⟩ = some v1 ∧ ((w'.setCell ⟨g, 0, none⟩ u).setCell ⟨g, 1, none⟩ v).cell? ⟨w.heap.size, 1, none⟩ = some v2 ∧ ((w'.setCell ⟨g, 0, none⟩ u).setCell ⟨g, 1, none⟩ v).cell? ⟨w.heap.size + 1, 0, none⟩ = some v3 ∧ ((w'.setCell ⟨g, 0, none⟩ u).setCell ⟨g, 1, none⟩ v).cell? ⟨w.heap.size + 1, 1, none⟩ = some v4 := by
  have far : ∀ (b o : Nat), b < g → ((w'.setCell ⟨g, 0, none⟩ u).setCell ⟨g, 1, none⟩ v).cell? ⟨b, o, none⟩ = w'.cell? ⟨b, o, none⟩ := fun b o hb => by
    rw [World.cell?_setCell_other _ _ _ _ (fun e => by injection e; omega), World.cell?_setCell_other _ _ _ _ (fun e => by injection e; omega)]
  obtain ⟨h1, h2, h3, h4⟩ := h
  exact ⟨(far _ _ (by omega)).trans h1, (far _ _ (by omega)).trans h2, (far _ _ (by omega)).trans h3, (far _ _ (by omega)).trans h4⟩
theorem alloc4 {w w' : World} {v1 v2 v3 v4 : Value} (h : w'.cell? ⟨w.heap.size, 0, none⟩ = some v1 ∧ w'.cell? ⟨w.heap.size, 1, none⟩ = some v2 ∧ w'.cell? ⟨w.heap.size + 1, 0, none⟩ = some v3 ∧ w'.cell? ⟨w.heap.size + 1, 1, none⟩ = some v4) (hg : w.heap.size + 2 ≤ w'.heap.size) (o : Obj) :
    (w'.alloc o).cell? ⟨w.heap.size, 0, none⟩ = some v1 ∧ (w'.alloc o).cell? ⟨w.heap.size, 1, none⟩ = some v2 ∧ (w'.alloc o).cell? ⟨w.heap.size + 1, 0, none⟩ = some v3 ∧ (w'.alloc o).cell? ⟨w.heap.size + 1, 1, none⟩ = some v4 := by
  have far : ∀ (b o' : Nat), b < w'.heap.size → (w'.alloc o).cell? ⟨b, o', none⟩ = w'.cell? ⟨b, o', none⟩ := fun b o' hb => World.cell?_alloc_lt w' o ⟨b, o', none⟩ hb
  obtain ⟨h1, h2, h3, h4⟩ := h
  exact ⟨(far _ _ (by omega)).trans h1, (far _ _ (by omega)).trans h2, (far _ _ (by omega)).trans h3, (far _ _ (by omega)).trans h4⟩
theorem three_new (w : World) (a b c : Obj) : (((w.alloc a).alloc b).alloc c).heap[w.heap.size]? = some a ∧ (((w.alloc a).alloc b).alloc c).heap[w.heap.size + 1]? = some b ∧ (((w.alloc a).alloc b).alloc c).heap[w.heap.size + 2]? = some c ∧ (((w.alloc a).alloc b).alloc c).heap.size = w.heap.size + 3 := by
  have s1 : (w.alloc a).heap.size = w.heap.size + 1 := by simp
  have s2 : ((w.alloc a).alloc b).heap.size = w.heap.size + 2 := by simp
  refine ⟨?_, ?_, ?_, by simp⟩
  · rw [Below.heap_alloc _ _ _ (by omega), Below.heap_alloc _ _ _ (by omega), heap_alloc_new]
  · rw [Below.heap_alloc _ _ _ (by omega), ← s1, heap_alloc_new]
  · rw [← s2, heap_alloc_new]
theorem Pt.off {w : World} {A : Option Addr} {l : List Nat} (h : Pt w A l) {g : Nat} {x y : Value} {u : Value} {i : Nat} (hg : w.heap[g]? = some (.cells #[x, y] 43 (0, 0))) (hx : ∀ z, x ≠ .int .u32 z) (hy : ∀ z, y ≠ .int .u32 z) : Pt (w.setCell ⟨g, i, none⟩ u) A l := by
  refine ⟨fun j hj => ?_, h.fit⟩
  obtain ⟨b, off, e, hlt, hc⟩ := h.cells j hj
  have hne : b ≠ g := by
    rintro rfl
    rw [cell_of_row _ _ _ _ _ _ hg] at hc
    have hs := (Array.getElem?_eq_some_iff.1 hc).1
    have h01 : off + j = 0 ∨ off + j = 1 := by simp at hs; omega
    rcases h01 with e1 | e1
    · rw [e1] at hc; exact hx _ (by simpa using hc)
    · rw [e1] at hc; exact hy _ (by simpa using hc)
  refine ⟨b, off, e, by simpa using hlt, ?_⟩
  rw [World.cell?_setCell_other _ _ _ _ (fun e => by injection e with e1 _ _; exact hne e1.symm)]
  exact hc
/-- ahead of CheckBox: the two new points, the box of them at g, the result's variable still empty -/
structure Ready (w V : World) (g : Nat) (A : Option Addr) (c : Nat) (A' : Option Addr) (c' : Nat) (lo hi : List Nat) : Prop where
  below : Below w.heap.size w V
  low : Pt V A lo
  high : Pt V A' hi
  box : V.heap[g]? = some (.cells #[.slice A lo.length c, .slice A' hi.length c'] 43 (0, 0))
  out : V.heap[w.heap.size + 2]? = some (.cells #[Value.slice none 0 0, .slice none 0 0] 43)
  ne : g ≠ w.heap.size + 2
  ge : w.heap.size ≤ g
theorem lt_of {w : World} {g : Nat} {o : Obj} (h : w.heap[g]? = some o) : g < w.heap.size := (Array.getElem?_eq_some_iff.1 h).1
theorem ready_alloc {w W w5 : World} {A A' : Option Addr} {c c' : Nat} {lo hi : List Nat} (hw : Below w.heap.size w w5) (hW : Below W.heap.size W w5) (h1 : Pt w5 A lo) (h2 : Pt w5 A' hi) (hz : W.heap[w.heap.size + 2]? = some (.cells #[Value.slice none 0 0, .slice none 0 0] 43)) :
    Ready w (w5.alloc (.cells #[.slice A lo.length c, .slice A' hi.length c'] 43)) w5.heap.size A c A' c' lo hi := by
  have hz5 : w5.heap[w.heap.size + 2]? = some (.cells #[Value.slice none 0 0, .slice none 0 0] 43) := (hW.block _ (lt_of hz)).trans hz
  have hl := lt_of hz5
  exact ⟨hw.alloc hw.size _, h1.alloc _, h2.alloc _, heap_alloc_new _ _, (Below.heap_alloc _ _ _ hl).trans hz5, by omega, hw.size⟩
theorem ready_set {w W w5 : World} {A A' : Option Addr} {c c' : Nat} {lo hi : List Nat} {g : Nat} (hw : Below w.heap.size w w5) (hW : Below W.heap.size W w5) (h1 : Pt w5 A lo) (h2 : Pt w5 A' hi) (hz : W.heap[w.heap.size + 2]? = some (.cells #[Value.slice none 0 0, .slice none 0 0] 43))
    (hg : w5.heap[g]? = some (.cells #[Value.slice none 0 0, .slice none 0 0] 43)) (hgw : w.heap.size + 3 ≤ g) :
    Ready w ((w5.setCell ⟨g, 0, none⟩ (.slice A lo.length c)).setCell ⟨g, 1, none⟩ (.slice A' hi.length c')) g A c A' c' lo hi := by
  have hz5 : w5.heap[w.heap.size + 2]? = some (.cells #[Value.slice none 0 0, .slice none 0 0] 43) := (hW.block _ (lt_of hz)).trans hz
  have b1 : (w5.setCell ⟨g, 0, none⟩ (.slice A lo.length c)).heap[g]? = some (.cells #[.slice A lo.length c, .slice none 0 0] 43 (0, 0)) := by simp [World.setCell, Array.getElem?_modify, hg]
  have b2 : ((w5.setCell ⟨g, 0, none⟩ (.slice A lo.length c)).setCell ⟨g, 1, none⟩ (.slice A' hi.length c')).heap[g]? = some (.cells #[.slice A lo.length c, .slice A' hi.length c'] 43 (0, 0)) := by
    rw [World.setCell, Array.getElem?_modify, if_pos rfl, b1]; rfl
  refine ⟨(hw.setCell (by show w.heap.size ≤ g; omega) _).setCell (by show w.heap.size ≤ g; omega) _, ?_, ?_, b2, ?_, by omega, by omega⟩
  · exact (h1.off hg (by simp) (by simp)).off b1 (by simp) (by simp)
  · exact (h2.off hg (by simp) (by simp)).off b1 (by simp) (by simp)
  · rw [Below.heap_setCell _ ⟨g, 1, none⟩ _ _ (by show _ ≠ g; omega), Below.heap_setCell _ ⟨g, 0, none⟩ _ _ (by show _ ≠ g; omega)]; exact hz5
theorem zero_blk {w w' : World} (h : Below (w.alloc (.cells #[Value.slice none 0 0, .slice none 0 0] 43)).heap.size (w.alloc (.cells #[Value.slice none 0 0, .slice none 0 0] 43)) w') : w'.heap[w.heap.size]? = some (.cells #[Value.slice none 0 0, .slice none 0 0] 43) := by
  rw [h.block _ (by simp)]; exact heap_alloc_new _ _
theorem ready_check {w V : World} {g : Nat} {A A' : Option Addr} {c c' : Nat} {lo hi : List Nat} (h : Ready w V g A c A' c' lo hi) (hl : lo.length ≤ 9223372036854775807) (b : Bool) (hb : boxB lo hi lo.length = b) :
    Calls Try.prog 30 #[.agg #[.slice A lo.length c, .slice A' hi.length c'], .int .i64 (lo.length : Int)] V fun e w' => e = .returned (.int .i64 (err b)) ∧ Ready w w' g A c A' c' lo hi := by
  refine (checkBox_ok lo hi A A' c c' _ V h.low h.high hl).mono fun e w' hh => ⟨by rw [hh.1, hb], ?_⟩
  have hb2 := hh.2
  exact ⟨h.below.trans (hb2.mono h.below.size), h.low.below hb2, h.high.below hb2, (hb2.block _ (lt_of h.box)).trans h.box, (hb2.block _ (lt_of h.out)).trans h.out, h.ne, h.ge⟩
theorem ready_cells {w V : World} {g : Nat} {A A' : Option Addr} {c c' : Nat} {lo hi : List Nat} (h : Ready w V g A c A' c' lo hi) : V.cell? ⟨g, 0, none⟩ = some (.slice A lo.length c) ∧ V.cell? ⟨g, 1, none⟩ = some (.slice A' hi.length c') ∧ V.cell? ⟨w.heap.size + 2, 0, none⟩ = some (.slice none 0 0) ∧ V.cell? ⟨w.heap.size + 2, 1, none⟩ = some (.slice none 0 0) ∧ V.frozen? ⟨w.heap.size + 2, 0, none⟩ = false ∧ V.frozen? ⟨w.heap.size + 2, 1, none⟩ = false := by
  have h0 := h.out
  have hb := h.box
  exact ⟨by rw [cell_of_row _ _ _ _ _ _ hb]; rfl, by rw [cell_of_row _ _ _ _ _ _ hb]; rfl, by rw [cell_of_row _ _ _ _ _ _ h0]; rfl, by rw [cell_of_row _ _ _ _ _ _ h0]; rfl, by simp [World.frozen?, h0], by simp [World.frozen?, h0]⟩
theorem ready_end {w V : World} {g : Nat} {A A' : Option Addr} {c c' : Nat} {lo hi : List Nat} (h : Ready w V g A c A' c' lo hi) (u v : Value) (hu : ∀ z, u ≠ .int .u32 z) :
    Pt ((V.setCell ⟨w.heap.size + 2, 0, none⟩ u).setCell ⟨w.heap.size + 2, 1, none⟩ v) A lo ∧ Pt ((V.setCell ⟨w.heap.size + 2, 0, none⟩ u).setCell ⟨w.heap.size + 2, 1, none⟩ v) A' hi ∧ Below w.heap.size w ((V.setCell ⟨w.heap.size + 2, 0, none⟩ u).setCell ⟨w.heap.size + 2, 1, none⟩ v) := by
  have b1 : (V.setCell ⟨w.heap.size + 2, 0, none⟩ u).heap[w.heap.size + 2]? = some (.cells #[u, .slice none 0 0] 43 (0, 0)) := by simp [World.setCell, Array.getElem?_modify, h.out]
  exact ⟨(h.low.off h.out (by simp) (by simp)).off b1 hu (by simp), (h.high.off h.out (by simp) (by simp)).off b1 hu (by simp), (h.below.setCell (by show w.heap.size ≤ w.heap.size + 2; omega) _).setCell (by show w.heap.size ≤ w.heap.size + 2; omega) _⟩
theorem ready_out {w V : World} {g : Nat} {A A' : Option Addr} {c c' : Nat} {lo hi : List Nat} (h : Ready w V g A c A' c' lo hi) (u v : Value) :
    ((V.setCell ⟨w.heap.size + 1 + 1, 0, none⟩ u).setCell ⟨w.heap.size + 1 + 1, 1, none⟩ v).cell? ⟨w.heap.size + 1 + 1, 0, none⟩ = some u ∧ ((V.setCell ⟨w.heap.size + 1 + 1, 0, none⟩ u).setCell ⟨w.heap.size + 1 + 1, 1, none⟩ v).cell? ⟨w.heap.size + 1 + 1, 1, none⟩ = some v := by
  have b1 : (V.setCell ⟨w.heap.size + 1 + 1, 0, none⟩ u).heap[w.heap.size + 1 + 1]? = some (.cells #[u, .slice none 0 0] 43 (0, 0)) := by simp [World.setCell, Array.getElem?_modify, h.out]
  have b2 : ((V.setCell ⟨w.heap.size + 1 + 1, 0, none⟩ u).setCell ⟨w.heap.size + 1 + 1, 1, none⟩ v).heap[w.heap.size + 1 + 1]? = some (.cells #[u, v] 43 (0, 0)) := by
    rw [World.setCell, Array.getElem?_modify, if_pos rfl, b1]; rfl
  exact ⟨by rw [cell_of_row _ _ _ _ _ _ b2]; rfl, by rw [cell_of_row _ _ _ _ _ _ b2]; rfl⟩
theorem newBox_no {w w' : World} {al ah bl bh : List Nat} (h : meetB al ah bl bh = false) (hb : Below w.heap.size w w') :
    NewBox w (meetLo al ah bl bh) (meetHi al ah bl bh) (.bool (meetB al ah bl bh)) (.returned (.tuple #[.agg #[.slice none 0 0, .slice none 0 0], .bool false])) w' := by
  have e1 : meetLo al ah bl bh = [] := by simp [meetLo, h]
  have e2 : meetHi al ah bl bh = [] := by simp [meetHi, h]
  rw [h, e1, e2]
  exact ⟨none, 0, none, 0, rfl, Pt.nil _ _, Pt.nil _ _, hb⟩
theorem newBox_yes {w w' : World} {al ah bl bh : List Nat} {A A' : Option Addr} {c c' : Nat} (h : meetB al ah bl bh = true) (h1 : Pt w' A (zipL max al bl)) (h2 : Pt w' A' (zipL min ah bh)) (hb : Below w.heap.size w w') :
    NewBox w (meetLo al ah bl bh) (meetHi al ah bl bh) (.bool (meetB al ah bl bh)) (.returned (.tuple #[.agg #[.slice A (zipL max al bl).length c, .slice A' (zipL min ah bh).length c'], .bool true])) w' := by
  have hf : four al ah bl bh = true := by
    cases e : four al ah bl bh with
    | true => rfl
    | false => simp [meetB, e] at h
  simp only [four, Bool.and_eq_true, decide_eq_true_eq] at hf
  have e1 : meetLo al ah bl bh = zipL max al bl := by rw [zipL_yes hf.2.1]; simp [meetLo, h, hiOf]
  have e2 : meetHi al ah bl bh = zipL min ah bh := by rw [zipL_yes (by omega)]; simp [meetHi, h, loOf]
  rw [h, e1, e2]
  exact ⟨A, c, A', c', rfl, h1, h2, hb⟩
end Go.Proofs.Ytnmhdlincgefeaa.Ky
