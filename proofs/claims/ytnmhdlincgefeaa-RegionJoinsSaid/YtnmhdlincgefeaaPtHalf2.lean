/- Halves of a box: the refusals, of both sides. -/
import Derived.Test.YtnmhdlincgefeaaPtAny
namespace Go.Proofs.Ytnmhdlincgefeaa.Pt
open Go.RowKit
open Go.Lib (hid)
open Go.Proofs.Ytnmhdlincgefeaa.Ky
open Go.Proofs.Ytnmhdlincgefeaa.Bk

/-- may a box be halved at a coordinate? -/
def halfB (lo hi : List Nat) (a : Int) : Bool := boxB lo hi (lo.length : Int) && (decide (0 ≤ a ∧ a < (lo.length : Int)) && !decide (lo.getD a.toNat 0 = hi.getD a.toNat 0))
def midN (lo hi : List Nat) (i : Nat) : Nat := lo.getD i 0 + (hi.getD i 0 - lo.getD i 0) / 2
def xlo (lo hi : List Nat) (a : Int) : List Nat := if halfB lo hi a then lo else []
def xhi (lo hi : List Nat) (a : Int) : List Nat := if halfB lo hi a then hi.set a.toNat (midN lo hi a.toNat) else []
def ylo (lo hi : List Nat) (a : Int) : List Nat := if halfB lo hi a then lo.set a.toNat (midN lo hi a.toNat + 1) else []
def yhi (lo hi : List Nat) (a : Int) : List Nat := if halfB lo hi a then hi else []
/-- two boxes and a bool were returned -/
def HalfPost (w : World) (lo hi : List Nat) (a : Int) (e : Ending) (w' : World) : Prop :=
  ∃ p1 c1 p2 c2 p3 c3 p4 c4, e = .returned (.tuple #[.agg #[.slice p1 (xlo lo hi a).length c1, .slice p2 (xhi lo hi a).length c2], .agg #[.slice p3 (ylo lo hi a).length c3, .slice p4 (yhi lo hi a).length c4], .bool (halfB lo hi a)]) ∧
    Pt w' p1 (xlo lo hi a) ∧ Pt w' p2 (xhi lo hi a) ∧ Pt w' p3 (ylo lo hi a) ∧ Pt w' p4 (yhi lo hi a) ∧ Below w.heap.size w w'
theorem half_no {w w' : World} {lo hi : List Nat} {a : Int} (h : halfB lo hi a = false) (hb : Below w.heap.size w w') :
    HalfPost w lo hi a (.returned (.tuple #[.agg #[.slice none 0 0, .slice none 0 0], .agg #[.slice none 0 0, .slice none 0 0], .bool false])) w' := by
  unfold HalfPost
  have e1 : xlo lo hi a = [] := by unfold xlo; rw [h]; rfl
  have e2 : xhi lo hi a = [] := by unfold xhi; rw [h]; rfl
  have e3 : ylo lo hi a = [] := by unfold ylo; rw [h]; rfl
  have e4 : yhi lo hi a = [] := by unfold yhi; rw [h]; rfl
  rw [e1, e2, e3, e4, h]
  exact ⟨none, 0, none, 0, none, 0, none, 0, rfl, Pt.nil _ _, Pt.nil _ _, Pt.nil _ _, Pt.nil _ _, hb⟩
def zbox : Obj := .cells #[Value.slice none 0 0, .slice none 0 0] 43
theorem three_new (w : World) (a b c : Obj) : (((w.alloc a).alloc b).alloc c).heap[w.heap.size]? = some a ∧ (((w.alloc a).alloc b).alloc c).heap[w.heap.size + 1]? = some b ∧ (((w.alloc a).alloc b).alloc c).heap[w.heap.size + 2]? = some c ∧ (((w.alloc a).alloc b).alloc c).heap.size = w.heap.size + 3 := by
  have s1 : (w.alloc a).heap.size = w.heap.size + 1 := by simp
  have s2 : ((w.alloc a).alloc b).heap.size = w.heap.size + 2 := by simp
  refine ⟨?_, ?_, ?_, by simp⟩
  · rw [Below.heap_alloc _ _ _ (by omega), Below.heap_alloc _ _ _ (by omega), heap_alloc_new]
  · rw [Below.heap_alloc _ _ _ (by omega), ← s1, heap_alloc_new]
  · rw [← s2, heap_alloc_new]
/-- behind the entry: the box that came in, two boxes for what is returned -/
structure Ent (w W : World) (b c : Value) : Prop where
  below : Below w.heap.size w W
  arg : W.heap[w.heap.size]? = some (.cells #[b, c] 43)
  one : W.heap[w.heap.size + 1]? = some (.cells #[Value.slice none 0 0, .slice none 0 0] 43)
  two : W.heap[w.heap.size + 1 + 1]? = some (.cells #[Value.slice none 0 0, .slice none 0 0] 43)
  size : W.heap.size = w.heap.size + 3
theorem ent_new (w : World) (b c : Value) : Ent w (((w.alloc (.cells #[b, c] 43)).alloc (.cells #[Value.slice none 0 0, .slice none 0 0] 43)).alloc (.cells #[Value.slice none 0 0, .slice none 0 0] 43)) b c := by
  obtain ⟨h1, h2, h3, h4⟩ := three_new w (.cells #[b, c] 43) (.cells #[Value.slice none 0 0, .slice none 0 0] 43) (.cells #[Value.slice none 0 0, .slice none 0 0] 43)
  exact ⟨((below_alloc w _).alloc (below_alloc w _).size _).alloc ((below_alloc w _).alloc (below_alloc w _).size _).size _, h1, h2, h3, h4⟩
section
variable {w W V : World} {b c : Value}
theorem Ent.cells (h : Ent w W b c) (hb : Below W.heap.size W V) : V.cell? ⟨w.heap.size, 0, none⟩ = some b ∧ V.cell? ⟨w.heap.size, 1, none⟩ = some c := by
  have h1 := (hb.block w.heap.size (by have := h.size; omega)).trans h.arg
  exact ⟨(two_cells h1).1, (two_cells h1).2.1⟩
theorem Ent.outs (h : Ent w W b c) (hb : Below W.heap.size W V) : (V.cell? ⟨w.heap.size + 1, 0, none⟩ = some (.slice none 0 0) ∧ V.cell? ⟨w.heap.size + 1, 1, none⟩ = some (.slice none 0 0) ∧ V.frozen? ⟨w.heap.size + 1, 0, none⟩ = false ∧ V.frozen? ⟨w.heap.size + 1, 1, none⟩ = false) ∧
    (V.cell? ⟨w.heap.size + 1 + 1, 0, none⟩ = some (.slice none 0 0) ∧ V.cell? ⟨w.heap.size + 1 + 1, 1, none⟩ = some (.slice none 0 0) ∧ V.frozen? ⟨w.heap.size + 1 + 1, 0, none⟩ = false ∧ V.frozen? ⟨w.heap.size + 1 + 1, 1, none⟩ = false) :=
  ⟨two_cells ((hb.block _ (by have := h.size; omega)).trans h.one), two_cells ((hb.block _ (by have := h.size; omega)).trans h.two)⟩
/-- behind the four stores of what is returned -/
theorem Ent.stored (h : Ent w W b c) (hb : Below W.heap.size W V) (u v x y : Value) {V' : World} (hV : V' = (((V.setCell ⟨w.heap.size + 1, 0, none⟩ u).setCell ⟨w.heap.size + 1, 1, none⟩ v).setCell ⟨w.heap.size + 1 + 1, 0, none⟩ x).setCell ⟨w.heap.size + 1 + 1, 1, none⟩ y) :
    (V'.cell? ⟨w.heap.size + 1, 0, none⟩ = some u ∧ V'.cell? ⟨w.heap.size + 1, 1, none⟩ = some v ∧ V'.cell? ⟨w.heap.size + 1 + 1, 0, none⟩ = some x ∧ V'.cell? ⟨w.heap.size + 1 + 1, 1, none⟩ = some y) ∧ Below w.heap.size w V' ∧ Keep (fun k => k < w.heap.size + 3) V V' := by
  have h1 := (hb.block (w.heap.size + 1) (by have := h.size; omega)).trans h.one
  have h2 := (hb.block (w.heap.size + 1 + 1) (by have := h.size; omega)).trans h.two
  have g1 := two_set h1 u v
  have g2 : ((V.setCell ⟨w.heap.size + 1, 0, none⟩ u).setCell ⟨w.heap.size + 1, 1, none⟩ v).heap[w.heap.size + 1 + 1]? = some (.cells #[Value.slice none 0 0, .slice none 0 0] 43) := by
    rw [Below.heap_setCell _ ⟨_, 1, none⟩ _ _ (by simp), Below.heap_setCell _ ⟨_, 0, none⟩ _ _ (by simp)]; exact h2
  have g3 := two_set g2 x y
  have g4 : ((((V.setCell ⟨w.heap.size + 1, 0, none⟩ u).setCell ⟨w.heap.size + 1, 1, none⟩ v).setCell ⟨w.heap.size + 1 + 1, 0, none⟩ x).setCell ⟨w.heap.size + 1 + 1, 1, none⟩ y).heap[w.heap.size + 1]? = some (.cells #[u, v] 43) := by
    rw [Below.heap_setCell _ ⟨_, 1, none⟩ _ _ (by simp), Below.heap_setCell _ ⟨_, 0, none⟩ _ _ (by simp)]; exact g1
  subst hV
  have c1 := two_cells g4
  have c2 := two_cells g3
  have hw : Below w.heap.size w V := h.below.trans (hb.mono h.below.size)
  refine ⟨⟨c1.1, c1.2.1, c2.1, c2.2.1⟩, (((hw.setCell (p := ⟨_, 0, none⟩) (by show w.heap.size ≤ w.heap.size + 1; omega) _).setCell (p := ⟨_, 1, none⟩) (by show w.heap.size ≤ w.heap.size + 1; omega) _).setCell (p := ⟨_, 0, none⟩) (by show w.heap.size ≤ w.heap.size + 1 + 1; omega) _).setCell (p := ⟨_, 1, none⟩) (by show w.heap.size ≤ w.heap.size + 1 + 1; omega) _, ⟨by simp, fun k _ hD => ?_⟩⟩
  have hk : w.heap.size + 3 ≤ k := Nat.le_of_not_lt hD
  rw [Below.heap_setCell _ ⟨_, 1, none⟩ _ _ (by show k ≠ w.heap.size + 1 + 1; omega), Below.heap_setCell _ ⟨_, 0, none⟩ _ _ (by show k ≠ w.heap.size + 1 + 1; omega), Below.heap_setCell _ ⟨_, 1, none⟩ _ _ (by show k ≠ w.heap.size + 1; omega), Below.heap_setCell _ ⟨_, 0, none⟩ _ _ (by show k ≠ w.heap.size + 1; omega)]
end
set_option maxRecDepth 100000 in
set_option maxHeartbeats 4000000 in
theorem halves_no1 (lo hi : List Nat) (p q : Option Addr) (c c' : Nat) (a : Int) (w : World) (hp : Pt w p lo) (hq : Pt w q hi) (hl : lo.length ≤ 1000000) (h1 : boxB lo hi (lo.length : Int) = false) :
    Calls Try.prog 33 #[.agg #[.slice p lo.length c, .slice q hi.length c'], .int .i64 a] w (HalfPost w lo hi a) := by
  have HQ := hid (ent_new w (.slice p lo.length c) (.slice q hi.length c'))
  obtain ⟨W, hW⟩ : ∃ W, W = ((w.alloc (.cells #[Value.slice p lo.length c, .slice q hi.length c'] 43)).alloc (.cells #[Value.slice none 0 0, .slice none 0 0] 43)).alloc (.cells #[Value.slice none 0 0, .slice none 0 0] 43) := ⟨_, rfl⟩
  rw [← hW] at HQ
  have HC := hid fun (V : World) (hb : Below W.heap.size W V) => checkBox_ok lo hi _ _ c c' (lo.length : Int) V (hp.below (HQ.out.below.trans (hb.mono HQ.out.below.size))) (hq.below (HQ.out.below.trans (hb.mono HQ.out.below.size))) (by omega)
  have HN : Hid (halfB lo hi a = false) := hid (by unfold halfB; rw [h1, Bool.false_and])
  rw [h1] at HC
  clear hp hq h1
  go_enter Try.func33, Try.ntmps33
  go_wp2_with fail
  rw [← hW]
  clear hW
  have H0 := hid (Below.refl W.heap.size W).drew
  have x0 := HQ.out.cells H0.out
  refine wp_region_held_drew (S := fun w' => w'.cell? ⟨w.heap.size, 0, none⟩ = some (.slice p lo.length c) ∧ w'.cell? ⟨w.heap.size, 1, none⟩ = some (.slice q hi.length c')) (by kernel_rfl) (by exact x0) (fun hHeld => ?_)
  refine wpAnyH_take (i := 0) (oi := { dst := some 9, op := Go.Op.load 43 (Go.Operand.tmp 2), type := 43, pos := "part.go:14", after := #[], guard := none }) (v := ?va0) rfl (by kernel_rfl) (by kernel_rfl) (by kernel_rfl) (fun _ _ _ h => h) (Or.inl ⟨by rfl, ?hya0⟩) (by assumption) ?resta0
  case hya0 => (intro w hSw; (try dsimp only at hSw); go_simp; (try with_reducible rfl))
  simp only [Act.put, List.setIfInBounds_toArray, List.set_cons_zero, List.set_cons_succ]
  refine wpAnyH_take (i := 1) (oi := { dst := some 10, op := Go.Op.fieldAddr 43 (Go.Operand.tmp 2) 0, type := 0, pos := "part.go:14", after := #[], guard := none }) (v := ?va1) rfl (by kernel_rfl) (by kernel_rfl) (by kernel_rfl) (fun _ _ _ h => h) (Or.inl ⟨by rfl, ?hya1⟩) (by assumption) ?resta1
  case hya1 => (intro w hSw; (try dsimp only at hSw); go_simp; (try with_reducible rfl))
  simp only [Act.put, List.setIfInBounds_toArray, List.set_cons_zero, List.set_cons_succ]
  refine wpAnyH_take (i := 2) (oi := { dst := some 11, op := Go.Op.load 41 (Go.Operand.tmp 10), type := 41, pos := "part.go:14", after := #[{ on := 1, ground := Go.Ground.data }], guard := none }) (v := ?va2) rfl (by kernel_rfl) (by kernel_rfl) (by kernel_rfl) (fun _ _ _ h => h) (Or.inl ⟨by rfl, ?hya2⟩) (by assumption) ?resta2
  case hya2 => (intro w hSw; (try dsimp only at hSw); go_simp; (try with_reducible rfl))
  simp only [Act.put, List.setIfInBounds_toArray, List.set_cons_zero, List.set_cons_succ]
  refine wpAnyH_take (i := 3) (oi := { dst := some 12, op := Go.Op.call { callee := Go.Callee.builtin Go.Builtin.len, args := #[Go.Operand.tmp 11], argTypes := #[41] }, type := 3, pos := "part.go:14", after := #[{ on := 2, ground := Go.Ground.data }], guard := none }) (v := ?va3) rfl (by kernel_rfl) (by kernel_rfl) (by kernel_rfl) (fun _ _ _ h => h) (Or.inl ⟨by rfl, ?hya3⟩) (by assumption) ?resta3
  case hya3 => (intro w hSw; (try dsimp only at hSw); go_simp; (try with_reducible rfl))
  simp only [Act.put, List.setIfInBounds_toArray, List.set_cons_zero, List.set_cons_succ]
  refine wpAnyH_ready (rs := [4]) (by kernel_rfl) (by simp) (AllReadyH.cons (o := { dst := some 13, op := Go.Op.call { callee := Go.Callee.value (Go.Operand.func 30), args := #[Go.Operand.tmp 9, Go.Operand.tmp 12], argTypes := #[43, 3] }, type := 25, pos := "part.go:14", after := #[{ on := 0, ground := Go.Ground.data }, { on := 3, ground := Go.Ground.data }], guard := none }) rfl (fun K hK => ?_) AllReadyH.nil)
  try go_simp
  go_at_call 30
  refine (HC.out _ H0.out).mono ?_
  rintro e w9 ⟨rfl, hb⟩
  rw [err_false false rfl]
  have HB9 := hid (H0.out.trans (hb.mono H0.out.size))
  have z1 := HQ.out.cells HB9.out
  clear hb
  refine hK.out _ _ z1 (fun hHeld => ?_)
  clear hK K
  refine wpAnyH_take (i := 5) (oi := { dst := some 14, op := Go.Op.binOp Go.BinOp.neq 25 (Go.Operand.tmp 13) (Go.Operand.const (Go.Value.int Go.IntKind.i64 0)) 25, type := 4, pos := "part.go:14", after := #[{ on := 4, ground := Go.Ground.data }], guard := none }) (v := ?va5) rfl (by kernel_rfl) (by kernel_rfl) (by kernel_rfl) (fun _ _ _ h => h) (Or.inl ⟨by rfl, ?hya5⟩) (by assumption) ?resta5
  case hya5 => (intro w hSw; (try dsimp only at hSw); go_simp; (try with_reducible rfl))
  simp only [Act.put, List.setIfInBounds_toArray, List.set_cons_zero, List.set_cons_succ]
  refine wpAnyH_take (i := 6) (oi := { dst := some 15, op := Go.Op.move (Go.Operand.tmp 14), type := 4, pos := "part.go:14", after := #[{ on := 5, ground := Go.Ground.data }, { on := 4, ground := Go.Ground.chain }], guard := none }) (v := ?va6) rfl (by kernel_rfl) (by kernel_rfl) (by kernel_rfl) (fun _ _ _ h => h) (Or.inl ⟨by rfl, ?hya6⟩) (by assumption) ?resta6
  case hya6 => (intro w hSw; (try dsimp only at hSw); go_simp; (try with_reducible rfl))
  simp only [Act.put, List.setIfInBounds_toArray, List.set_cons_zero, List.set_cons_succ]
  refine wpAnyH_take (i := 7) (oi := { dst := some 16, op := Go.Op.fieldAddr 43 (Go.Operand.tmp 2) 0, type := 0, pos := "part.go:14", after := #[{ on := 6, ground := Go.Ground.guard }], guard := some (6, false) }) (v := _) rfl (by kernel_rfl) (by kernel_rfl) (by kernel_rfl) (fun _ _ _ h => h) (Or.inr ⟨by rfl, rfl⟩) (by assumption) ?_
  simp only [Act.put, List.setIfInBounds_toArray, List.set_cons_zero, List.set_cons_succ]
  refine wpAnyH_take (i := 8) (oi := { dst := some 17, op := Go.Op.load 41 (Go.Operand.tmp 16), type := 41, pos := "part.go:14", after := #[{ on := 7, ground := Go.Ground.data }, { on := 6, ground := Go.Ground.guard }], guard := some (6, false) }) (v := _) rfl (by kernel_rfl) (by kernel_rfl) (by kernel_rfl) (fun _ _ _ h => h) (Or.inr ⟨by rfl, rfl⟩) (by assumption) ?_
  simp only [Act.put, List.setIfInBounds_toArray, List.set_cons_zero, List.set_cons_succ]
  refine wpAnyH_take (i := 9) (oi := { dst := some 18, op := Go.Op.move (Go.Operand.tmp 1), type := 3, pos := "part.go:14", after := #[{ on := 6, ground := Go.Ground.guard }], guard := some (6, false) }) (v := _) rfl (by kernel_rfl) (by kernel_rfl) (by kernel_rfl) (fun _ _ _ h => h) (Or.inr ⟨by rfl, rfl⟩) (by assumption) ?_
  simp only [Act.put, List.setIfInBounds_toArray, List.set_cons_zero, List.set_cons_succ]
  refine wpAnyH_take (i := 10) (oi := { dst := some 19, op := Go.Op.call { callee := Go.Callee.value (Go.Operand.func 48), args := #[Go.Operand.tmp 17, Go.Operand.tmp 18], argTypes := #[41, 3] }, type := 4, pos := "part.go:14", after := #[{ on := 8, ground := Go.Ground.data }, { on := 9, ground := Go.Ground.data }, { on := 6, ground := Go.Ground.chain }, { on := 6, ground := Go.Ground.guard }], guard := some (6, false) }) (v := _) rfl (by kernel_rfl) (by kernel_rfl) (by kernel_rfl) (fun _ _ _ h => h) (Or.inr ⟨by rfl, rfl⟩) (by assumption) ?_
  simp only [Act.put, List.setIfInBounds_toArray, List.set_cons_zero, List.set_cons_succ]
  refine wpAnyH_take (i := 11) (oi := { dst := some 20, op := Go.Op.unOp Go.UnOp.not 4 (Go.Operand.tmp 19), type := 4, pos := "part.go:14", after := #[{ on := 10, ground := Go.Ground.data }, { on := 6, ground := Go.Ground.guard }], guard := some (6, false) }) (v := _) rfl (by kernel_rfl) (by kernel_rfl) (by kernel_rfl) (fun _ _ _ h => h) (Or.inr ⟨by rfl, rfl⟩) (by assumption) ?_
  simp only [Act.put, List.setIfInBounds_toArray, List.set_cons_zero, List.set_cons_succ]
  refine wpAnyH_take (i := 12) (oi := { dst := some 21, op := Go.Op.pick (Go.Operand.tmp 15) (Go.Operand.const (Go.Value.bool true)) (Go.Operand.tmp 20), type := 4, pos := "part.go:14", after := #[{ on := 6, ground := Go.Ground.data }, { on := 11, ground := Go.Ground.data }], guard := none }) (v := ?va12) rfl (by kernel_rfl) (by kernel_rfl) (by kernel_rfl) (fun _ _ _ h => h) (Or.inl ⟨by rfl, ?hya12⟩) (by assumption) ?resta12
  case hya12 => (intro w hSw; (try dsimp only at hSw); go_simp; (try with_reducible rfl))
  simp only [Act.put, List.setIfInBounds_toArray, List.set_cons_zero, List.set_cons_succ]
  refine wpAnyH_take (i := 13) (oi := { dst := some 22, op := Go.Op.move (Go.Operand.tmp 21), type := 4, pos := "part.go:14", after := #[{ on := 12, ground := Go.Ground.data }, { on := 10, ground := Go.Ground.chain }], guard := none }) (v := ?va13) rfl (by kernel_rfl) (by kernel_rfl) (by kernel_rfl) (fun _ _ _ h => h) (Or.inl ⟨by rfl, ?hya13⟩) (by assumption) ?resta13
  case hya13 => (intro w hSw; (try dsimp only at hSw); go_simp; (try with_reducible rfl))
  simp only [Act.put, List.setIfInBounds_toArray, List.set_cons_zero, List.set_cons_succ]
  refine wpAnyH_take (i := 14) (oi := { dst := some 23, op := Go.Op.fieldAddr 43 (Go.Operand.tmp 2) 0, type := 0, pos := "part.go:14", after := #[{ on := 13, ground := Go.Ground.guard }], guard := some (13, false) }) (v := _) rfl (by kernel_rfl) (by kernel_rfl) (by kernel_rfl) (fun _ _ _ h => h) (Or.inr ⟨by rfl, rfl⟩) (by assumption) ?_
  simp only [Act.put, List.setIfInBounds_toArray, List.set_cons_zero, List.set_cons_succ]
  refine wpAnyH_take (i := 15) (oi := { dst := some 24, op := Go.Op.load 41 (Go.Operand.tmp 23), type := 41, pos := "part.go:14", after := #[{ on := 14, ground := Go.Ground.data }, { on := 13, ground := Go.Ground.guard }], guard := some (13, false) }) (v := _) rfl (by kernel_rfl) (by kernel_rfl) (by kernel_rfl) (fun _ _ _ h => h) (Or.inr ⟨by rfl, rfl⟩) (by assumption) ?_
  simp only [Act.put, List.setIfInBounds_toArray, List.set_cons_zero, List.set_cons_succ]
  refine wpAnyH_take (i := 16) (oi := { dst := some 25, op := Go.Op.move (Go.Operand.tmp 1), type := 3, pos := "part.go:14", after := #[{ on := 13, ground := Go.Ground.guard }], guard := some (13, false) }) (v := _) rfl (by kernel_rfl) (by kernel_rfl) (by kernel_rfl) (fun _ _ _ h => h) (Or.inr ⟨by rfl, rfl⟩) (by assumption) ?_
  simp only [Act.put, List.setIfInBounds_toArray, List.set_cons_zero, List.set_cons_succ]
  refine wpAnyH_take (i := 17) (oi := { dst := some 26, op := Go.Op.indexAddr 41 (Go.Operand.tmp 24) (Go.Operand.tmp 25), type := 0, pos := "part.go:14", after := #[{ on := 15, ground := Go.Ground.data }, { on := 16, ground := Go.Ground.data }, { on := 13, ground := Go.Ground.guard }], guard := some (13, false) }) (v := _) rfl (by kernel_rfl) (by kernel_rfl) (by kernel_rfl) (fun _ _ _ h => h) (Or.inr ⟨by rfl, rfl⟩) (by assumption) ?_
  simp only [Act.put, List.setIfInBounds_toArray, List.set_cons_zero, List.set_cons_succ]
  refine wpAnyH_take (i := 18) (oi := { dst := some 27, op := Go.Op.load 55 (Go.Operand.tmp 26), type := 55, pos := "part.go:14", after := #[{ on := 17, ground := Go.Ground.data }, { on := 13, ground := Go.Ground.guard }], guard := some (13, false) }) (v := _) rfl (by kernel_rfl) (by kernel_rfl) (by kernel_rfl) (fun _ _ _ h => h) (Or.inr ⟨by rfl, rfl⟩) (by assumption) ?_
  simp only [Act.put, List.setIfInBounds_toArray, List.set_cons_zero, List.set_cons_succ]
  refine wpAnyH_take (i := 19) (oi := { dst := some 28, op := Go.Op.fieldAddr 43 (Go.Operand.tmp 2) 1, type := 0, pos := "part.go:14", after := #[{ on := 13, ground := Go.Ground.guard }], guard := some (13, false) }) (v := _) rfl (by kernel_rfl) (by kernel_rfl) (by kernel_rfl) (fun _ _ _ h => h) (Or.inr ⟨by rfl, rfl⟩) (by assumption) ?_
  simp only [Act.put, List.setIfInBounds_toArray, List.set_cons_zero, List.set_cons_succ]
  refine wpAnyH_take (i := 20) (oi := { dst := some 29, op := Go.Op.load 41 (Go.Operand.tmp 28), type := 41, pos := "part.go:14", after := #[{ on := 19, ground := Go.Ground.data }, { on := 13, ground := Go.Ground.guard }], guard := some (13, false) }) (v := _) rfl (by kernel_rfl) (by kernel_rfl) (by kernel_rfl) (fun _ _ _ h => h) (Or.inr ⟨by rfl, rfl⟩) (by assumption) ?_
  simp only [Act.put, List.setIfInBounds_toArray, List.set_cons_zero, List.set_cons_succ]
  refine wpAnyH_take (i := 21) (oi := { dst := some 30, op := Go.Op.move (Go.Operand.tmp 1), type := 3, pos := "part.go:14", after := #[{ on := 13, ground := Go.Ground.guard }], guard := some (13, false) }) (v := _) rfl (by kernel_rfl) (by kernel_rfl) (by kernel_rfl) (fun _ _ _ h => h) (Or.inr ⟨by rfl, rfl⟩) (by assumption) ?_
  simp only [Act.put, List.setIfInBounds_toArray, List.set_cons_zero, List.set_cons_succ]
  refine wpAnyH_take (i := 22) (oi := { dst := some 31, op := Go.Op.indexAddr 41 (Go.Operand.tmp 29) (Go.Operand.tmp 30), type := 0, pos := "part.go:14", after := #[{ on := 20, ground := Go.Ground.data }, { on := 21, ground := Go.Ground.data }, { on := 13, ground := Go.Ground.guard }], guard := some (13, false) }) (v := _) rfl (by kernel_rfl) (by kernel_rfl) (by kernel_rfl) (fun _ _ _ h => h) (Or.inr ⟨by rfl, rfl⟩) (by assumption) ?_
  simp only [Act.put, List.setIfInBounds_toArray, List.set_cons_zero, List.set_cons_succ]
  refine wpAnyH_take (i := 23) (oi := { dst := some 32, op := Go.Op.load 55 (Go.Operand.tmp 31), type := 55, pos := "part.go:14", after := #[{ on := 22, ground := Go.Ground.data }, { on := 13, ground := Go.Ground.guard }], guard := some (13, false) }) (v := _) rfl (by kernel_rfl) (by kernel_rfl) (by kernel_rfl) (fun _ _ _ h => h) (Or.inr ⟨by rfl, rfl⟩) (by assumption) ?_
  simp only [Act.put, List.setIfInBounds_toArray, List.set_cons_zero, List.set_cons_succ]
  refine wpAnyH_take (i := 24) (oi := { dst := some 33, op := Go.Op.binOp Go.BinOp.eql 55 (Go.Operand.tmp 27) (Go.Operand.tmp 32) 55, type := 4, pos := "part.go:14", after := #[{ on := 18, ground := Go.Ground.data }, { on := 23, ground := Go.Ground.data }, { on := 13, ground := Go.Ground.guard }], guard := some (13, false) }) (v := _) rfl (by kernel_rfl) (by kernel_rfl) (by kernel_rfl) (fun _ _ _ h => h) (Or.inr ⟨by rfl, rfl⟩) (by assumption) ?_
  simp only [Act.put, List.setIfInBounds_toArray, List.set_cons_zero, List.set_cons_succ]
  refine wpAnyH_take (i := 25) (oi := { dst := some 34, op := Go.Op.pick (Go.Operand.tmp 22) (Go.Operand.const (Go.Value.bool true)) (Go.Operand.tmp 33), type := 4, pos := "part.go:14", after := #[{ on := 13, ground := Go.Ground.data }, { on := 24, ground := Go.Ground.data }], guard := none }) (v := ?va25) rfl (by kernel_rfl) (by kernel_rfl) (by kernel_rfl) (fun _ _ _ h => h) (Or.inl ⟨by rfl, ?hya25⟩) (by assumption) ?resta25
  case hya25 => (intro w hSw; (try dsimp only at hSw); go_simp; (try with_reducible rfl))
  simp only [Act.put, List.setIfInBounds_toArray, List.set_cons_zero, List.set_cons_succ]
  refine wpAnyH_done (by kernel_rfl) ?_ _
  clear x0 z1
  have y1 := HQ.out.outs HB9.out
  go_wp2_with fail
  have y2 := HQ.out.stored HB9.out (.slice none 0 0) (.slice none 0 0) (.slice none 0 0) (.slice none 0 0) rfl
  refine bodyPost_ret (v := .tuple #[.agg #[.slice none 0 0, .slice none 0 0], .agg #[.slice none 0 0, .slice none 0 0], .bool false]) (by simp [results, Try.results33, go_sem, y2.1]) rfl ?_
  exact half_no HN.out y2.2.1
set_option maxRecDepth 100000 in
set_option maxHeartbeats 4000000 in
theorem halves_no2 (lo hi : List Nat) (p q : Option Addr) (c c' : Nat) (a : Int) (w : World) (hp : Pt w p lo) (hq : Pt w q hi) (hl : lo.length ≤ 1000000) (h1 : boxB lo hi (lo.length : Int) = true) (h2 : decide (0 ≤ a ∧ a < (lo.length : Int)) = false) :
    Calls Try.prog 33 #[.agg #[.slice p lo.length c, .slice q hi.length c'], .int .i64 a] w (HalfPost w lo hi a) := by
  have HQ := hid (ent_new w (.slice p lo.length c) (.slice q hi.length c'))
  obtain ⟨W, hW⟩ : ∃ W, W = ((w.alloc (.cells #[Value.slice p lo.length c, .slice q hi.length c'] 43)).alloc (.cells #[Value.slice none 0 0, .slice none 0 0] 43)).alloc (.cells #[Value.slice none 0 0, .slice none 0 0] 43) := ⟨_, rfl⟩
  rw [← hW] at HQ
  have HC := hid fun (V : World) (hb : Below W.heap.size W V) => checkBox_ok lo hi _ _ c c' (lo.length : Int) V (hp.below (HQ.out.below.trans (hb.mono HQ.out.below.size))) (hq.below (HQ.out.below.trans (hb.mono HQ.out.below.size))) (by omega)
  have HH := hid fun (V : World) => has_ok p lo.length c a V
  have HN : Hid (halfB lo hi a = false) := hid (by unfold halfB; rw [h2, Bool.false_and, Bool.and_false])
  rw [h1] at HC
  rw [h2] at HH
  clear hp hq h1 h2
  go_enter Try.func33, Try.ntmps33
  go_wp2_with fail
  rw [← hW]
  clear hW
  have H0 := hid (Below.refl W.heap.size W).drew
  have x0 := HQ.out.cells H0.out
  refine wp_region_held_drew (S := fun w' => w'.cell? ⟨w.heap.size, 0, none⟩ = some (.slice p lo.length c) ∧ w'.cell? ⟨w.heap.size, 1, none⟩ = some (.slice q hi.length c')) (by kernel_rfl) (by exact x0) (fun hHeld => ?_)
  refine wpAnyH_take (i := 0) (oi := { dst := some 9, op := Go.Op.load 43 (Go.Operand.tmp 2), type := 43, pos := "part.go:14", after := #[], guard := none }) (v := ?va0) rfl (by kernel_rfl) (by kernel_rfl) (by kernel_rfl) (fun _ _ _ h => h) (Or.inl ⟨by rfl, ?hya0⟩) (by assumption) ?resta0
  case hya0 => (intro w hSw; (try dsimp only at hSw); go_simp; (try with_reducible rfl))
  simp only [Act.put, List.setIfInBounds_toArray, List.set_cons_zero, List.set_cons_succ]
  refine wpAnyH_take (i := 1) (oi := { dst := some 10, op := Go.Op.fieldAddr 43 (Go.Operand.tmp 2) 0, type := 0, pos := "part.go:14", after := #[], guard := none }) (v := ?va1) rfl (by kernel_rfl) (by kernel_rfl) (by kernel_rfl) (fun _ _ _ h => h) (Or.inl ⟨by rfl, ?hya1⟩) (by assumption) ?resta1
  case hya1 => (intro w hSw; (try dsimp only at hSw); go_simp; (try with_reducible rfl))
  simp only [Act.put, List.setIfInBounds_toArray, List.set_cons_zero, List.set_cons_succ]
  refine wpAnyH_take (i := 2) (oi := { dst := some 11, op := Go.Op.load 41 (Go.Operand.tmp 10), type := 41, pos := "part.go:14", after := #[{ on := 1, ground := Go.Ground.data }], guard := none }) (v := ?va2) rfl (by kernel_rfl) (by kernel_rfl) (by kernel_rfl) (fun _ _ _ h => h) (Or.inl ⟨by rfl, ?hya2⟩) (by assumption) ?resta2
  case hya2 => (intro w hSw; (try dsimp only at hSw); go_simp; (try with_reducible rfl))
  simp only [Act.put, List.setIfInBounds_toArray, List.set_cons_zero, List.set_cons_succ]
  refine wpAnyH_take (i := 3) (oi := { dst := some 12, op := Go.Op.call { callee := Go.Callee.builtin Go.Builtin.len, args := #[Go.Operand.tmp 11], argTypes := #[41] }, type := 3, pos := "part.go:14", after := #[{ on := 2, ground := Go.Ground.data }], guard := none }) (v := ?va3) rfl (by kernel_rfl) (by kernel_rfl) (by kernel_rfl) (fun _ _ _ h => h) (Or.inl ⟨by rfl, ?hya3⟩) (by assumption) ?resta3
  case hya3 => (intro w hSw; (try dsimp only at hSw); go_simp; (try with_reducible rfl))
  simp only [Act.put, List.setIfInBounds_toArray, List.set_cons_zero, List.set_cons_succ]
  refine wpAnyH_ready (rs := [4]) (by kernel_rfl) (by simp) (AllReadyH.cons (o := { dst := some 13, op := Go.Op.call { callee := Go.Callee.value (Go.Operand.func 30), args := #[Go.Operand.tmp 9, Go.Operand.tmp 12], argTypes := #[43, 3] }, type := 25, pos := "part.go:14", after := #[{ on := 0, ground := Go.Ground.data }, { on := 3, ground := Go.Ground.data }], guard := none }) rfl (fun K hK => ?_) AllReadyH.nil)
  try go_simp
  go_at_call 30
  refine (HC.out _ H0.out).mono ?_
  rintro e w9 ⟨rfl, hb⟩
  rw [err_true true rfl]
  have HB9 := hid (H0.out.trans (hb.mono H0.out.size))
  have z1 := HQ.out.cells HB9.out
  clear hb
  refine hK.out _ _ z1 (fun hHeld => ?_)
  clear hK K
  refine wpAnyH_take (i := 5) (oi := { dst := some 14, op := Go.Op.binOp Go.BinOp.neq 25 (Go.Operand.tmp 13) (Go.Operand.const (Go.Value.int Go.IntKind.i64 0)) 25, type := 4, pos := "part.go:14", after := #[{ on := 4, ground := Go.Ground.data }], guard := none }) (v := ?va5) rfl (by kernel_rfl) (by kernel_rfl) (by kernel_rfl) (fun _ _ _ h => h) (Or.inl ⟨by rfl, ?hya5⟩) (by assumption) ?resta5
  case hya5 => (intro w hSw; (try dsimp only at hSw); go_simp; (try with_reducible rfl))
  simp only [Act.put, List.setIfInBounds_toArray, List.set_cons_zero, List.set_cons_succ]
  refine wpAnyH_take (i := 6) (oi := { dst := some 15, op := Go.Op.move (Go.Operand.tmp 14), type := 4, pos := "part.go:14", after := #[{ on := 5, ground := Go.Ground.data }, { on := 4, ground := Go.Ground.chain }], guard := none }) (v := ?va6) rfl (by kernel_rfl) (by kernel_rfl) (by kernel_rfl) (fun _ _ _ h => h) (Or.inl ⟨by rfl, ?hya6⟩) (by assumption) ?resta6
  case hya6 => (intro w hSw; (try dsimp only at hSw); go_simp; (try with_reducible rfl))
  simp only [Act.put, List.setIfInBounds_toArray, List.set_cons_zero, List.set_cons_succ]
  refine wpAnyH_take (i := 7) (oi := { dst := some 16, op := Go.Op.fieldAddr 43 (Go.Operand.tmp 2) 0, type := 0, pos := "part.go:14", after := #[{ on := 6, ground := Go.Ground.guard }], guard := some (6, false) }) (v := ?va7) rfl (by kernel_rfl) (by kernel_rfl) (by kernel_rfl) (fun _ _ _ h => h) (Or.inl ⟨by rfl, ?hya7⟩) (by assumption) ?resta7
  case hya7 => (intro w hSw; (try dsimp only at hSw); go_simp; (try with_reducible rfl))
  simp only [Act.put, List.setIfInBounds_toArray, List.set_cons_zero, List.set_cons_succ]
  refine wpAnyH_take (i := 8) (oi := { dst := some 17, op := Go.Op.load 41 (Go.Operand.tmp 16), type := 41, pos := "part.go:14", after := #[{ on := 7, ground := Go.Ground.data }, { on := 6, ground := Go.Ground.guard }], guard := some (6, false) }) (v := ?va8) rfl (by kernel_rfl) (by kernel_rfl) (by kernel_rfl) (fun _ _ _ h => h) (Or.inl ⟨by rfl, ?hya8⟩) (by assumption) ?resta8
  case hya8 => (intro w hSw; (try dsimp only at hSw); go_simp; (try with_reducible rfl))
  simp only [Act.put, List.setIfInBounds_toArray, List.set_cons_zero, List.set_cons_succ]
  refine wpAnyH_take (i := 9) (oi := { dst := some 18, op := Go.Op.move (Go.Operand.tmp 1), type := 3, pos := "part.go:14", after := #[{ on := 6, ground := Go.Ground.guard }], guard := some (6, false) }) (v := ?va9) rfl (by kernel_rfl) (by kernel_rfl) (by kernel_rfl) (fun _ _ _ h => h) (Or.inl ⟨by rfl, ?hya9⟩) (by assumption) ?resta9
  case hya9 => (intro w hSw; (try dsimp only at hSw); go_simp; (try with_reducible rfl))
  simp only [Act.put, List.setIfInBounds_toArray, List.set_cons_zero, List.set_cons_succ]
  refine wpAnyH_ready (rs := [10]) (by kernel_rfl) (by simp) (AllReadyH.cons (o := { dst := some 19, op := Go.Op.call { callee := Go.Callee.value (Go.Operand.func 48), args := #[Go.Operand.tmp 17, Go.Operand.tmp 18], argTypes := #[41, 3] }, type := 4, pos := "part.go:14", after := #[{ on := 8, ground := Go.Ground.data }, { on := 9, ground := Go.Ground.data }, { on := 6, ground := Go.Ground.chain }, { on := 6, ground := Go.Ground.guard }], guard := some (6, false) }) rfl (fun K hK => ?_) AllReadyH.nil)
  try go_simp
  go_at_call 48
  refine (HH.out _).mono ?_
  rintro e w8 ⟨rfl, rfl⟩
  refine hK.out _ _ z1 (fun hHeld => ?_)
  clear hK K
  refine wpAnyH_take (i := 11) (oi := { dst := some 20, op := Go.Op.unOp Go.UnOp.not 4 (Go.Operand.tmp 19), type := 4, pos := "part.go:14", after := #[{ on := 10, ground := Go.Ground.data }, { on := 6, ground := Go.Ground.guard }], guard := some (6, false) }) (v := ?va11) rfl (by kernel_rfl) (by kernel_rfl) (by kernel_rfl) (fun _ _ _ h => h) (Or.inl ⟨by rfl, ?hya11⟩) (by assumption) ?resta11
  case hya11 => (intro w hSw; (try dsimp only at hSw); go_simp; (try with_reducible rfl))
  simp only [Act.put, List.setIfInBounds_toArray, List.set_cons_zero, List.set_cons_succ]
  refine wpAnyH_take (i := 12) (oi := { dst := some 21, op := Go.Op.pick (Go.Operand.tmp 15) (Go.Operand.const (Go.Value.bool true)) (Go.Operand.tmp 20), type := 4, pos := "part.go:14", after := #[{ on := 6, ground := Go.Ground.data }, { on := 11, ground := Go.Ground.data }], guard := none }) (v := ?va12) rfl (by kernel_rfl) (by kernel_rfl) (by kernel_rfl) (fun _ _ _ h => h) (Or.inl ⟨by rfl, ?hya12⟩) (by assumption) ?resta12
  case hya12 => (intro w hSw; (try dsimp only at hSw); go_simp; (try with_reducible rfl))
  simp only [Act.put, List.setIfInBounds_toArray, List.set_cons_zero, List.set_cons_succ]
  refine wpAnyH_take (i := 13) (oi := { dst := some 22, op := Go.Op.move (Go.Operand.tmp 21), type := 4, pos := "part.go:14", after := #[{ on := 12, ground := Go.Ground.data }, { on := 10, ground := Go.Ground.chain }], guard := none }) (v := ?va13) rfl (by kernel_rfl) (by kernel_rfl) (by kernel_rfl) (fun _ _ _ h => h) (Or.inl ⟨by rfl, ?hya13⟩) (by assumption) ?resta13
  case hya13 => (intro w hSw; (try dsimp only at hSw); go_simp; (try with_reducible rfl))
  simp only [Act.put, List.setIfInBounds_toArray, List.set_cons_zero, List.set_cons_succ]
  refine wpAnyH_take (i := 14) (oi := { dst := some 23, op := Go.Op.fieldAddr 43 (Go.Operand.tmp 2) 0, type := 0, pos := "part.go:14", after := #[{ on := 13, ground := Go.Ground.guard }], guard := some (13, false) }) (v := _) rfl (by kernel_rfl) (by kernel_rfl) (by kernel_rfl) (fun _ _ _ h => h) (Or.inr ⟨by rfl, rfl⟩) (by assumption) ?_
  simp only [Act.put, List.setIfInBounds_toArray, List.set_cons_zero, List.set_cons_succ]
  refine wpAnyH_take (i := 15) (oi := { dst := some 24, op := Go.Op.load 41 (Go.Operand.tmp 23), type := 41, pos := "part.go:14", after := #[{ on := 14, ground := Go.Ground.data }, { on := 13, ground := Go.Ground.guard }], guard := some (13, false) }) (v := _) rfl (by kernel_rfl) (by kernel_rfl) (by kernel_rfl) (fun _ _ _ h => h) (Or.inr ⟨by rfl, rfl⟩) (by assumption) ?_
  simp only [Act.put, List.setIfInBounds_toArray, List.set_cons_zero, List.set_cons_succ]
  refine wpAnyH_take (i := 16) (oi := { dst := some 25, op := Go.Op.move (Go.Operand.tmp 1), type := 3, pos := "part.go:14", after := #[{ on := 13, ground := Go.Ground.guard }], guard := some (13, false) }) (v := _) rfl (by kernel_rfl) (by kernel_rfl) (by kernel_rfl) (fun _ _ _ h => h) (Or.inr ⟨by rfl, rfl⟩) (by assumption) ?_
  simp only [Act.put, List.setIfInBounds_toArray, List.set_cons_zero, List.set_cons_succ]
  refine wpAnyH_take (i := 17) (oi := { dst := some 26, op := Go.Op.indexAddr 41 (Go.Operand.tmp 24) (Go.Operand.tmp 25), type := 0, pos := "part.go:14", after := #[{ on := 15, ground := Go.Ground.data }, { on := 16, ground := Go.Ground.data }, { on := 13, ground := Go.Ground.guard }], guard := some (13, false) }) (v := _) rfl (by kernel_rfl) (by kernel_rfl) (by kernel_rfl) (fun _ _ _ h => h) (Or.inr ⟨by rfl, rfl⟩) (by assumption) ?_
  simp only [Act.put, List.setIfInBounds_toArray, List.set_cons_zero, List.set_cons_succ]
  refine wpAnyH_take (i := 18) (oi := { dst := some 27, op := Go.Op.load 55 (Go.Operand.tmp 26), type := 55, pos := "part.go:14", after := #[{ on := 17, ground := Go.Ground.data }, { on := 13, ground := Go.Ground.guard }], guard := some (13, false) }) (v := _) rfl (by kernel_rfl) (by kernel_rfl) (by kernel_rfl) (fun _ _ _ h => h) (Or.inr ⟨by rfl, rfl⟩) (by assumption) ?_
  simp only [Act.put, List.setIfInBounds_toArray, List.set_cons_zero, List.set_cons_succ]
  refine wpAnyH_take (i := 19) (oi := { dst := some 28, op := Go.Op.fieldAddr 43 (Go.Operand.tmp 2) 1, type := 0, pos := "part.go:14", after := #[{ on := 13, ground := Go.Ground.guard }], guard := some (13, false) }) (v := _) rfl (by kernel_rfl) (by kernel_rfl) (by kernel_rfl) (fun _ _ _ h => h) (Or.inr ⟨by rfl, rfl⟩) (by assumption) ?_
  simp only [Act.put, List.setIfInBounds_toArray, List.set_cons_zero, List.set_cons_succ]
  refine wpAnyH_take (i := 20) (oi := { dst := some 29, op := Go.Op.load 41 (Go.Operand.tmp 28), type := 41, pos := "part.go:14", after := #[{ on := 19, ground := Go.Ground.data }, { on := 13, ground := Go.Ground.guard }], guard := some (13, false) }) (v := _) rfl (by kernel_rfl) (by kernel_rfl) (by kernel_rfl) (fun _ _ _ h => h) (Or.inr ⟨by rfl, rfl⟩) (by assumption) ?_
  simp only [Act.put, List.setIfInBounds_toArray, List.set_cons_zero, List.set_cons_succ]
  refine wpAnyH_take (i := 21) (oi := { dst := some 30, op := Go.Op.move (Go.Operand.tmp 1), type := 3, pos := "part.go:14", after := #[{ on := 13, ground := Go.Ground.guard }], guard := some (13, false) }) (v := _) rfl (by kernel_rfl) (by kernel_rfl) (by kernel_rfl) (fun _ _ _ h => h) (Or.inr ⟨by rfl, rfl⟩) (by assumption) ?_
  simp only [Act.put, List.setIfInBounds_toArray, List.set_cons_zero, List.set_cons_succ]
  refine wpAnyH_take (i := 22) (oi := { dst := some 31, op := Go.Op.indexAddr 41 (Go.Operand.tmp 29) (Go.Operand.tmp 30), type := 0, pos := "part.go:14", after := #[{ on := 20, ground := Go.Ground.data }, { on := 21, ground := Go.Ground.data }, { on := 13, ground := Go.Ground.guard }], guard := some (13, false) }) (v := _) rfl (by kernel_rfl) (by kernel_rfl) (by kernel_rfl) (fun _ _ _ h => h) (Or.inr ⟨by rfl, rfl⟩) (by assumption) ?_
  simp only [Act.put, List.setIfInBounds_toArray, List.set_cons_zero, List.set_cons_succ]
  refine wpAnyH_take (i := 23) (oi := { dst := some 32, op := Go.Op.load 55 (Go.Operand.tmp 31), type := 55, pos := "part.go:14", after := #[{ on := 22, ground := Go.Ground.data }, { on := 13, ground := Go.Ground.guard }], guard := some (13, false) }) (v := _) rfl (by kernel_rfl) (by kernel_rfl) (by kernel_rfl) (fun _ _ _ h => h) (Or.inr ⟨by rfl, rfl⟩) (by assumption) ?_
  simp only [Act.put, List.setIfInBounds_toArray, List.set_cons_zero, List.set_cons_succ]
  refine wpAnyH_take (i := 24) (oi := { dst := some 33, op := Go.Op.binOp Go.BinOp.eql 55 (Go.Operand.tmp 27) (Go.Operand.tmp 32) 55, type := 4, pos := "part.go:14", after := #[{ on := 18, ground := Go.Ground.data }, { on := 23, ground := Go.Ground.data }, { on := 13, ground := Go.Ground.guard }], guard := some (13, false) }) (v := _) rfl (by kernel_rfl) (by kernel_rfl) (by kernel_rfl) (fun _ _ _ h => h) (Or.inr ⟨by rfl, rfl⟩) (by assumption) ?_
  simp only [Act.put, List.setIfInBounds_toArray, List.set_cons_zero, List.set_cons_succ]
  refine wpAnyH_take (i := 25) (oi := { dst := some 34, op := Go.Op.pick (Go.Operand.tmp 22) (Go.Operand.const (Go.Value.bool true)) (Go.Operand.tmp 33), type := 4, pos := "part.go:14", after := #[{ on := 13, ground := Go.Ground.data }, { on := 24, ground := Go.Ground.data }], guard := none }) (v := ?va25) rfl (by kernel_rfl) (by kernel_rfl) (by kernel_rfl) (fun _ _ _ h => h) (Or.inl ⟨by rfl, ?hya25⟩) (by assumption) ?resta25
  case hya25 => (intro w hSw; (try dsimp only at hSw); go_simp; (try with_reducible rfl))
  simp only [Act.put, List.setIfInBounds_toArray, List.set_cons_zero, List.set_cons_succ]
  refine wpAnyH_done (by kernel_rfl) ?_ _
  clear x0 z1
  have y1 := HQ.out.outs HB9.out
  go_wp2_with fail
  have y2 := HQ.out.stored HB9.out (.slice none 0 0) (.slice none 0 0) (.slice none 0 0) (.slice none 0 0) rfl
  refine bodyPost_ret (v := .tuple #[.agg #[.slice none 0 0, .slice none 0 0], .agg #[.slice none 0 0, .slice none 0 0], .bool false]) (by simp [results, Try.results33, go_sem, y2.1]) rfl ?_
  exact half_no HN.out y2.2.1
set_option maxRecDepth 100000 in
set_option maxHeartbeats 4000000 in
theorem halves_no3 (lo hi : List Nat) (p q : Option Addr) (c c' : Nat) (a : Int) (w : World) (hp : Pt w p lo) (hq : Pt w q hi) (hl : lo.length ≤ 1000000) (h1 : boxB lo hi (lo.length : Int) = true) (h2 : decide (0 ≤ a ∧ a < (lo.length : Int)) = true) (h4 : lo.getD a.toNat 0 = hi.getD a.toNat 0) :
    Calls Try.prog 33 #[.agg #[.slice p lo.length c, .slice q hi.length c'], .int .i64 a] w (HalfPost w lo hi a) := by
  have HQ := hid (ent_new w (.slice p lo.length c) (.slice q hi.length c'))
  obtain ⟨W, hW⟩ : ∃ W, W = ((w.alloc (.cells #[Value.slice p lo.length c, .slice q hi.length c'] 43)).alloc (.cells #[Value.slice none 0 0, .slice none 0 0] 43)).alloc (.cells #[Value.slice none 0 0, .slice none 0 0] 43) := ⟨_, rfl⟩
  rw [← hW] at HQ
  have h3 : 0 ≤ a ∧ a < (lo.length : Int) := by simpa using h2
  obtain ⟨i, rfl⟩ : ∃ i : Nat, a = (i : Int) := ⟨a.toNat, by omega⟩
  have hil : i < lo.length := by omega
  have hlen : lo.length = hi.length := by
    have h1' := h1
    unfold boxB at h1'
    simp only [Bool.and_eq_true] at h1'
    exact leAll_len h1'.2
  have hih : i < hi.length := by omega
  have hxy : lo[i] = hi[i] := by
    rw [Int.toNat_natCast, List.getD_eq_getElem?_getD, List.getD_eq_getElem?_getD, List.getElem?_eq_getElem hil, List.getElem?_eq_getElem hih] at h4
    exact h4
  have HN : Hid (halfB lo hi (i : Int) = false) := hid (by unfold halfB; rw [decide_eq_true h4]; simp)
  obtain ⟨b1, o1, rfl, hb1, d1⟩ := hp.cells i hil
  obtain ⟨b2, o2, rfl, hb2, d2⟩ := hq.cells i hih
  have HC := hid fun (V : World) (hb : Below W.heap.size W V) => checkBox_ok lo hi _ _ c c' (lo.length : Int) V (hp.below (HQ.out.below.trans (hb.mono HQ.out.below.size))) (hq.below (HQ.out.below.trans (hb.mono HQ.out.below.size))) (by omega)
  have HX := hid fun (V : World) (hb : Below W.heap.size W V) => (show (V.cell? ⟨w.heap.size, 0, none⟩ = some (.slice (some ⟨b1, o1, none⟩) lo.length c) ∧ V.cell? ⟨w.heap.size, 1, none⟩ = some (.slice (some ⟨b2, o2, none⟩) hi.length c')) ∧ (V.cell? ⟨b1, o1 + i, none⟩ = some (.int .u32 (lo[i] : Int)) ∧ V.cell? ⟨b2, o2 + i, none⟩ = some (.int .u32 (hi[i] : Int))) from
    ⟨HQ.out.cells hb, ((HQ.out.below.trans (hb.mono HQ.out.below.size)).cell (p := ⟨b1, _, none⟩) hb1).trans d1, ((HQ.out.below.trans (hb.mono HQ.out.below.size)).cell (p := ⟨b2, _, none⟩) hb2).trans d2⟩)
  rw [h1] at HC
  have HH := hid fun (V : World) => has_ok (some ⟨b1, o1, none⟩) lo.length c (i : Int) V
  rw [h2] at HH
  have q1 : (0 : Int) ≤ (i : Int) := by omega
  have q2 : (i : Int) < (lo.length : Int) := by omega
  have q3 : (i : Int) < (hi.length : Int) := by omega
  rw [hxy] at HX
  clear hp hq h1 h2 h3 h4 hxy hlen d1 d2 hb1 hb2
  generalize hi[i] = x at HX
  go_enter Try.func33, Try.ntmps33
  go_wp2_with fail
  rw [← hW]
  clear hW
  have H0 := hid (Below.refl W.heap.size W).drew
  have x0 := HX.out _ H0.out
  go_region_held3 (fun w' => (w'.cell? ⟨w.heap.size, 0, none⟩ = some (.slice (some ⟨b1, o1, none⟩) lo.length c) ∧ w'.cell? ⟨w.heap.size, 1, none⟩ = some (.slice (some ⟨b2, o2, none⟩) hi.length c')) ∧ (w'.cell? ⟨b1, o1 + i, none⟩ = some (.int .u32 (x : Int)) ∧ w'.cell? ⟨b2, o2 + i, none⟩ = some (.int .u32 (x : Int)))) (first | exact x0 | exact z1 | go_keep)
    (first
      | (go_at_call 30; refine (HC.out _ H0.out).mono ?_; rintro e w9 ⟨rfl, hb⟩; rw [err_true true rfl]; have HB9 := hid (H0.out.trans (hb.mono H0.out.size)); have z1 := HX.out _ HB9.out; clear hb)
      | (go_at_call 48; refine (HH.out _).mono ?_; rintro e w8 ⟨rfl, rfl⟩)
      | fail)
  clear x0 z1
  have y1 := HQ.out.outs HB9.out
  go_wp2_with fail
  have y2 := HQ.out.stored HB9.out (.slice none 0 0) (.slice none 0 0) (.slice none 0 0) (.slice none 0 0) rfl
  refine bodyPost_ret (v := .tuple #[.agg #[.slice none 0 0, .slice none 0 0], .agg #[.slice none 0 0, .slice none 0 0], .bool false]) (by simp [results, Try.results33, go_sem, y2.1]) rfl ?_
  exact half_no HN.out y2.2.1
set_option maxRecDepth 100000 in
set_option maxHeartbeats 4000000 in
theorem refHalves_no1 (lo hi : List Nat) (p q : Option Addr) (c c' : Nat) (a : Int) (w : World) (hp : Pt w p lo) (hq : Pt w q hi) (hl : lo.length ≤ 1000000) (h1 : boxB lo hi (lo.length : Int) = false) :
    Calls Try.prog 20 #[.agg #[.slice p lo.length c, .slice q hi.length c'], .int .i64 a] w (HalfPost w lo hi a) := by
  have HQ := hid (ent_new w (.slice p lo.length c) (.slice q hi.length c'))
  obtain ⟨W, hW⟩ : ∃ W, W = ((w.alloc (.cells #[Value.slice p lo.length c, .slice q hi.length c'] 43)).alloc (.cells #[Value.slice none 0 0, .slice none 0 0] 43)).alloc (.cells #[Value.slice none 0 0, .slice none 0 0] 43) := ⟨_, rfl⟩
  rw [← hW] at HQ
  have HC := hid fun (V : World) (hb : Below W.heap.size W V) => refCheckBox_ok lo hi _ _ c c' (lo.length : Int) V (hp.below (HQ.out.below.trans (hb.mono HQ.out.below.size))) (hq.below (HQ.out.below.trans (hb.mono HQ.out.below.size))) (by omega)
  have HN : Hid (halfB lo hi a = false) := hid (by unfold halfB; rw [h1, Bool.false_and])
  rw [h1] at HC
  clear hp hq h1
  go_enter Try.func20, Try.ntmps20
  go_wp2_with fail
  rw [← hW]
  clear hW
  have H0 := hid (Below.refl W.heap.size W).drew
  have x0 := HQ.out.cells H0.out
  refine wp_region_held_drew (S := fun w' => w'.cell? ⟨w.heap.size, 0, none⟩ = some (.slice p lo.length c) ∧ w'.cell? ⟨w.heap.size, 1, none⟩ = some (.slice q hi.length c')) (by kernel_rfl) (by exact x0) (fun hHeld => ?_)
  refine wpAnyH_take (i := 0) (oi := { dst := some 10, op := Go.Op.load 43 (Go.Operand.tmp 2), type := 43, pos := "ref.go:12", after := #[], guard := none }) (v := ?va0) rfl (by kernel_rfl) (by kernel_rfl) (by kernel_rfl) (fun _ _ _ h => h) (Or.inl ⟨by rfl, ?hya0⟩) (by assumption) ?resta0
  case hya0 => (intro w hSw; (try dsimp only at hSw); go_simp; (try with_reducible rfl))
  simp only [Act.put, List.setIfInBounds_toArray, List.set_cons_zero, List.set_cons_succ]
  refine wpAnyH_take (i := 1) (oi := { dst := some 11, op := Go.Op.fieldAddr 43 (Go.Operand.tmp 2) 0, type := 0, pos := "ref.go:12", after := #[], guard := none }) (v := ?va1) rfl (by kernel_rfl) (by kernel_rfl) (by kernel_rfl) (fun _ _ _ h => h) (Or.inl ⟨by rfl, ?hya1⟩) (by assumption) ?resta1
  case hya1 => (intro w hSw; (try dsimp only at hSw); go_simp; (try with_reducible rfl))
  simp only [Act.put, List.setIfInBounds_toArray, List.set_cons_zero, List.set_cons_succ]
  refine wpAnyH_take (i := 2) (oi := { dst := some 12, op := Go.Op.load 41 (Go.Operand.tmp 11), type := 41, pos := "ref.go:12", after := #[{ on := 1, ground := Go.Ground.data }], guard := none }) (v := ?va2) rfl (by kernel_rfl) (by kernel_rfl) (by kernel_rfl) (fun _ _ _ h => h) (Or.inl ⟨by rfl, ?hya2⟩) (by assumption) ?resta2
  case hya2 => (intro w hSw; (try dsimp only at hSw); go_simp; (try with_reducible rfl))
  simp only [Act.put, List.setIfInBounds_toArray, List.set_cons_zero, List.set_cons_succ]
  refine wpAnyH_take (i := 3) (oi := { dst := some 13, op := Go.Op.call { callee := Go.Callee.builtin Go.Builtin.len, args := #[Go.Operand.tmp 12], argTypes := #[41] }, type := 3, pos := "ref.go:12", after := #[{ on := 2, ground := Go.Ground.data }], guard := none }) (v := ?va3) rfl (by kernel_rfl) (by kernel_rfl) (by kernel_rfl) (fun _ _ _ h => h) (Or.inl ⟨by rfl, ?hya3⟩) (by assumption) ?resta3
  case hya3 => (intro w hSw; (try dsimp only at hSw); go_simp; (try with_reducible rfl))
  simp only [Act.put, List.setIfInBounds_toArray, List.set_cons_zero, List.set_cons_succ]
  refine wpAnyH_ready (rs := [4]) (by kernel_rfl) (by simp) (AllReadyH.cons (o := { dst := some 14, op := Go.Op.call { callee := Go.Callee.value (Go.Operand.func 37), args := #[Go.Operand.tmp 10, Go.Operand.tmp 13], argTypes := #[43, 3] }, type := 25, pos := "ref.go:12", after := #[{ on := 0, ground := Go.Ground.data }, { on := 3, ground := Go.Ground.data }], guard := none }) rfl (fun K hK => ?_) AllReadyH.nil)
  try go_simp
  go_at_call 37
  refine (HC.out _ H0.out).mono ?_
  rintro e w9 ⟨rfl, hb⟩
  rw [err_false false rfl]
  have HB9 := hid (H0.out.trans (hb.mono H0.out.size))
  have z1 := HQ.out.cells HB9.out
  clear hb
  refine hK.out _ _ z1 (fun hHeld => ?_)
  clear hK K
  refine wpAnyH_take (i := 5) (oi := { dst := some 15, op := Go.Op.binOp Go.BinOp.neq 25 (Go.Operand.tmp 14) (Go.Operand.const (Go.Value.int Go.IntKind.i64 0)) 25, type := 4, pos := "ref.go:12", after := #[{ on := 4, ground := Go.Ground.data }], guard := none }) (v := ?va5) rfl (by kernel_rfl) (by kernel_rfl) (by kernel_rfl) (fun _ _ _ h => h) (Or.inl ⟨by rfl, ?hya5⟩) (by assumption) ?resta5
  case hya5 => (intro w hSw; (try dsimp only at hSw); go_simp; (try with_reducible rfl))
  simp only [Act.put, List.setIfInBounds_toArray, List.set_cons_zero, List.set_cons_succ]
  refine wpAnyH_take (i := 6) (oi := { dst := some 16, op := Go.Op.move (Go.Operand.tmp 15), type := 4, pos := "ref.go:12", after := #[{ on := 5, ground := Go.Ground.data }, { on := 4, ground := Go.Ground.chain }], guard := none }) (v := ?va6) rfl (by kernel_rfl) (by kernel_rfl) (by kernel_rfl) (fun _ _ _ h => h) (Or.inl ⟨by rfl, ?hya6⟩) (by assumption) ?resta6
  case hya6 => (intro w hSw; (try dsimp only at hSw); go_simp; (try with_reducible rfl))
  simp only [Act.put, List.setIfInBounds_toArray, List.set_cons_zero, List.set_cons_succ]
  refine wpAnyH_take (i := 7) (oi := { dst := some 17, op := Go.Op.move (Go.Operand.tmp 1), type := 3, pos := "ref.go:12", after := #[{ on := 6, ground := Go.Ground.guard }], guard := some (6, false) }) (v := _) rfl (by kernel_rfl) (by kernel_rfl) (by kernel_rfl) (fun _ _ _ h => h) (Or.inr ⟨by rfl, rfl⟩) (by assumption) ?_
  simp only [Act.put, List.setIfInBounds_toArray, List.set_cons_zero, List.set_cons_succ]
  refine wpAnyH_take (i := 8) (oi := { dst := some 18, op := Go.Op.binOp Go.BinOp.lss 3 (Go.Operand.tmp 17) (Go.Operand.const (Go.Value.int Go.IntKind.i64 0)) 3, type := 4, pos := "ref.go:12", after := #[{ on := 7, ground := Go.Ground.data }, { on := 6, ground := Go.Ground.guard }], guard := some (6, false) }) (v := _) rfl (by kernel_rfl) (by kernel_rfl) (by kernel_rfl) (fun _ _ _ h => h) (Or.inr ⟨by rfl, rfl⟩) (by assumption) ?_
  simp only [Act.put, List.setIfInBounds_toArray, List.set_cons_zero, List.set_cons_succ]
  refine wpAnyH_take (i := 9) (oi := { dst := some 19, op := Go.Op.pick (Go.Operand.tmp 16) (Go.Operand.const (Go.Value.bool true)) (Go.Operand.tmp 18), type := 4, pos := "ref.go:12", after := #[{ on := 6, ground := Go.Ground.data }, { on := 8, ground := Go.Ground.data }], guard := none }) (v := ?va9) rfl (by kernel_rfl) (by kernel_rfl) (by kernel_rfl) (fun _ _ _ h => h) (Or.inl ⟨by rfl, ?hya9⟩) (by assumption) ?resta9
  case hya9 => (intro w hSw; (try dsimp only at hSw); go_simp; (try with_reducible rfl))
  simp only [Act.put, List.setIfInBounds_toArray, List.set_cons_zero, List.set_cons_succ]
  refine wpAnyH_take (i := 10) (oi := { dst := some 20, op := Go.Op.move (Go.Operand.tmp 19), type := 4, pos := "ref.go:12", after := #[{ on := 9, ground := Go.Ground.data }, { on := 6, ground := Go.Ground.chain }], guard := none }) (v := ?va10) rfl (by kernel_rfl) (by kernel_rfl) (by kernel_rfl) (fun _ _ _ h => h) (Or.inl ⟨by rfl, ?hya10⟩) (by assumption) ?resta10
  case hya10 => (intro w hSw; (try dsimp only at hSw); go_simp; (try with_reducible rfl))
  simp only [Act.put, List.setIfInBounds_toArray, List.set_cons_zero, List.set_cons_succ]
  refine wpAnyH_take (i := 11) (oi := { dst := some 21, op := Go.Op.move (Go.Operand.tmp 1), type := 3, pos := "ref.go:12", after := #[{ on := 10, ground := Go.Ground.guard }], guard := some (10, false) }) (v := _) rfl (by kernel_rfl) (by kernel_rfl) (by kernel_rfl) (fun _ _ _ h => h) (Or.inr ⟨by rfl, rfl⟩) (by assumption) ?_
  simp only [Act.put, List.setIfInBounds_toArray, List.set_cons_zero, List.set_cons_succ]
  refine wpAnyH_take (i := 12) (oi := { dst := some 22, op := Go.Op.fieldAddr 43 (Go.Operand.tmp 2) 0, type := 0, pos := "ref.go:12", after := #[{ on := 10, ground := Go.Ground.guard }], guard := some (10, false) }) (v := _) rfl (by kernel_rfl) (by kernel_rfl) (by kernel_rfl) (fun _ _ _ h => h) (Or.inr ⟨by rfl, rfl⟩) (by assumption) ?_
  simp only [Act.put, List.setIfInBounds_toArray, List.set_cons_zero, List.set_cons_succ]
  refine wpAnyH_take (i := 13) (oi := { dst := some 23, op := Go.Op.load 41 (Go.Operand.tmp 22), type := 41, pos := "ref.go:12", after := #[{ on := 12, ground := Go.Ground.data }, { on := 10, ground := Go.Ground.guard }], guard := some (10, false) }) (v := _) rfl (by kernel_rfl) (by kernel_rfl) (by kernel_rfl) (fun _ _ _ h => h) (Or.inr ⟨by rfl, rfl⟩) (by assumption) ?_
  simp only [Act.put, List.setIfInBounds_toArray, List.set_cons_zero, List.set_cons_succ]
  refine wpAnyH_take (i := 14) (oi := { dst := some 24, op := Go.Op.call { callee := Go.Callee.builtin Go.Builtin.len, args := #[Go.Operand.tmp 23], argTypes := #[41] }, type := 3, pos := "ref.go:12", after := #[{ on := 13, ground := Go.Ground.data }, { on := 10, ground := Go.Ground.guard }], guard := some (10, false) }) (v := _) rfl (by kernel_rfl) (by kernel_rfl) (by kernel_rfl) (fun _ _ _ h => h) (Or.inr ⟨by rfl, rfl⟩) (by assumption) ?_
  simp only [Act.put, List.setIfInBounds_toArray, List.set_cons_zero, List.set_cons_succ]
  refine wpAnyH_take (i := 15) (oi := { dst := some 25, op := Go.Op.binOp Go.BinOp.geq 3 (Go.Operand.tmp 21) (Go.Operand.tmp 24) 3, type := 4, pos := "ref.go:12", after := #[{ on := 11, ground := Go.Ground.data }, { on := 14, ground := Go.Ground.data }, { on := 10, ground := Go.Ground.guard }], guard := some (10, false) }) (v := _) rfl (by kernel_rfl) (by kernel_rfl) (by kernel_rfl) (fun _ _ _ h => h) (Or.inr ⟨by rfl, rfl⟩) (by assumption) ?_
  simp only [Act.put, List.setIfInBounds_toArray, List.set_cons_zero, List.set_cons_succ]
  refine wpAnyH_take (i := 16) (oi := { dst := some 26, op := Go.Op.pick (Go.Operand.tmp 20) (Go.Operand.const (Go.Value.bool true)) (Go.Operand.tmp 25), type := 4, pos := "ref.go:12", after := #[{ on := 10, ground := Go.Ground.data }, { on := 15, ground := Go.Ground.data }], guard := none }) (v := ?va16) rfl (by kernel_rfl) (by kernel_rfl) (by kernel_rfl) (fun _ _ _ h => h) (Or.inl ⟨by rfl, ?hya16⟩) (by assumption) ?resta16
  case hya16 => (intro w hSw; (try dsimp only at hSw); go_simp; (try with_reducible rfl))
  simp only [Act.put, List.setIfInBounds_toArray, List.set_cons_zero, List.set_cons_succ]
  refine wpAnyH_take (i := 17) (oi := { dst := some 27, op := Go.Op.move (Go.Operand.tmp 26), type := 4, pos := "ref.go:12", after := #[{ on := 16, ground := Go.Ground.data }, { on := 10, ground := Go.Ground.chain }], guard := none }) (v := ?va17) rfl (by kernel_rfl) (by kernel_rfl) (by kernel_rfl) (fun _ _ _ h => h) (Or.inl ⟨by rfl, ?hya17⟩) (by assumption) ?resta17
  case hya17 => (intro w hSw; (try dsimp only at hSw); go_simp; (try with_reducible rfl))
  simp only [Act.put, List.setIfInBounds_toArray, List.set_cons_zero, List.set_cons_succ]
  refine wpAnyH_take (i := 18) (oi := { dst := some 28, op := Go.Op.fieldAddr 43 (Go.Operand.tmp 2) 0, type := 0, pos := "ref.go:12", after := #[{ on := 17, ground := Go.Ground.guard }], guard := some (17, false) }) (v := _) rfl (by kernel_rfl) (by kernel_rfl) (by kernel_rfl) (fun _ _ _ h => h) (Or.inr ⟨by rfl, rfl⟩) (by assumption) ?_
  simp only [Act.put, List.setIfInBounds_toArray, List.set_cons_zero, List.set_cons_succ]
  refine wpAnyH_take (i := 19) (oi := { dst := some 29, op := Go.Op.load 41 (Go.Operand.tmp 28), type := 41, pos := "ref.go:12", after := #[{ on := 18, ground := Go.Ground.data }, { on := 17, ground := Go.Ground.guard }], guard := some (17, false) }) (v := _) rfl (by kernel_rfl) (by kernel_rfl) (by kernel_rfl) (fun _ _ _ h => h) (Or.inr ⟨by rfl, rfl⟩) (by assumption) ?_
  simp only [Act.put, List.setIfInBounds_toArray, List.set_cons_zero, List.set_cons_succ]
  refine wpAnyH_take (i := 20) (oi := { dst := some 30, op := Go.Op.move (Go.Operand.tmp 1), type := 3, pos := "ref.go:12", after := #[{ on := 17, ground := Go.Ground.guard }], guard := some (17, false) }) (v := _) rfl (by kernel_rfl) (by kernel_rfl) (by kernel_rfl) (fun _ _ _ h => h) (Or.inr ⟨by rfl, rfl⟩) (by assumption) ?_
  simp only [Act.put, List.setIfInBounds_toArray, List.set_cons_zero, List.set_cons_succ]
  refine wpAnyH_take (i := 21) (oi := { dst := some 31, op := Go.Op.indexAddr 41 (Go.Operand.tmp 29) (Go.Operand.tmp 30), type := 0, pos := "ref.go:12", after := #[{ on := 19, ground := Go.Ground.data }, { on := 20, ground := Go.Ground.data }, { on := 17, ground := Go.Ground.guard }], guard := some (17, false) }) (v := _) rfl (by kernel_rfl) (by kernel_rfl) (by kernel_rfl) (fun _ _ _ h => h) (Or.inr ⟨by rfl, rfl⟩) (by assumption) ?_
  simp only [Act.put, List.setIfInBounds_toArray, List.set_cons_zero, List.set_cons_succ]
  refine wpAnyH_take (i := 22) (oi := { dst := some 32, op := Go.Op.load 55 (Go.Operand.tmp 31), type := 55, pos := "ref.go:12", after := #[{ on := 21, ground := Go.Ground.data }, { on := 17, ground := Go.Ground.guard }], guard := some (17, false) }) (v := _) rfl (by kernel_rfl) (by kernel_rfl) (by kernel_rfl) (fun _ _ _ h => h) (Or.inr ⟨by rfl, rfl⟩) (by assumption) ?_
  simp only [Act.put, List.setIfInBounds_toArray, List.set_cons_zero, List.set_cons_succ]
  refine wpAnyH_take (i := 23) (oi := { dst := some 33, op := Go.Op.fieldAddr 43 (Go.Operand.tmp 2) 1, type := 0, pos := "ref.go:12", after := #[{ on := 17, ground := Go.Ground.guard }], guard := some (17, false) }) (v := _) rfl (by kernel_rfl) (by kernel_rfl) (by kernel_rfl) (fun _ _ _ h => h) (Or.inr ⟨by rfl, rfl⟩) (by assumption) ?_
  simp only [Act.put, List.setIfInBounds_toArray, List.set_cons_zero, List.set_cons_succ]
  refine wpAnyH_take (i := 24) (oi := { dst := some 34, op := Go.Op.load 41 (Go.Operand.tmp 33), type := 41, pos := "ref.go:12", after := #[{ on := 23, ground := Go.Ground.data }, { on := 17, ground := Go.Ground.guard }], guard := some (17, false) }) (v := _) rfl (by kernel_rfl) (by kernel_rfl) (by kernel_rfl) (fun _ _ _ h => h) (Or.inr ⟨by rfl, rfl⟩) (by assumption) ?_
  simp only [Act.put, List.setIfInBounds_toArray, List.set_cons_zero, List.set_cons_succ]
  refine wpAnyH_take (i := 25) (oi := { dst := some 35, op := Go.Op.move (Go.Operand.tmp 1), type := 3, pos := "ref.go:12", after := #[{ on := 17, ground := Go.Ground.guard }], guard := some (17, false) }) (v := _) rfl (by kernel_rfl) (by kernel_rfl) (by kernel_rfl) (fun _ _ _ h => h) (Or.inr ⟨by rfl, rfl⟩) (by assumption) ?_
  simp only [Act.put, List.setIfInBounds_toArray, List.set_cons_zero, List.set_cons_succ]
  refine wpAnyH_take (i := 26) (oi := { dst := some 36, op := Go.Op.indexAddr 41 (Go.Operand.tmp 34) (Go.Operand.tmp 35), type := 0, pos := "ref.go:12", after := #[{ on := 24, ground := Go.Ground.data }, { on := 25, ground := Go.Ground.data }, { on := 17, ground := Go.Ground.guard }], guard := some (17, false) }) (v := _) rfl (by kernel_rfl) (by kernel_rfl) (by kernel_rfl) (fun _ _ _ h => h) (Or.inr ⟨by rfl, rfl⟩) (by assumption) ?_
  simp only [Act.put, List.setIfInBounds_toArray, List.set_cons_zero, List.set_cons_succ]
  refine wpAnyH_take (i := 27) (oi := { dst := some 37, op := Go.Op.load 55 (Go.Operand.tmp 36), type := 55, pos := "ref.go:12", after := #[{ on := 26, ground := Go.Ground.data }, { on := 17, ground := Go.Ground.guard }], guard := some (17, false) }) (v := _) rfl (by kernel_rfl) (by kernel_rfl) (by kernel_rfl) (fun _ _ _ h => h) (Or.inr ⟨by rfl, rfl⟩) (by assumption) ?_
  simp only [Act.put, List.setIfInBounds_toArray, List.set_cons_zero, List.set_cons_succ]
  refine wpAnyH_take (i := 28) (oi := { dst := some 38, op := Go.Op.binOp Go.BinOp.eql 55 (Go.Operand.tmp 32) (Go.Operand.tmp 37) 55, type := 4, pos := "ref.go:12", after := #[{ on := 22, ground := Go.Ground.data }, { on := 27, ground := Go.Ground.data }, { on := 17, ground := Go.Ground.guard }], guard := some (17, false) }) (v := _) rfl (by kernel_rfl) (by kernel_rfl) (by kernel_rfl) (fun _ _ _ h => h) (Or.inr ⟨by rfl, rfl⟩) (by assumption) ?_
  simp only [Act.put, List.setIfInBounds_toArray, List.set_cons_zero, List.set_cons_succ]
  refine wpAnyH_take (i := 29) (oi := { dst := some 39, op := Go.Op.pick (Go.Operand.tmp 27) (Go.Operand.const (Go.Value.bool true)) (Go.Operand.tmp 38), type := 4, pos := "ref.go:12", after := #[{ on := 17, ground := Go.Ground.data }, { on := 28, ground := Go.Ground.data }], guard := none }) (v := ?va29) rfl (by kernel_rfl) (by kernel_rfl) (by kernel_rfl) (fun _ _ _ h => h) (Or.inl ⟨by rfl, ?hya29⟩) (by assumption) ?resta29
  case hya29 => (intro w hSw; (try dsimp only at hSw); go_simp; (try with_reducible rfl))
  simp only [Act.put, List.setIfInBounds_toArray, List.set_cons_zero, List.set_cons_succ]
  refine wpAnyH_done (by kernel_rfl) ?_ _
  clear x0 z1
  have y1 := HQ.out.outs HB9.out
  go_wp2_with fail
  have y2 := HQ.out.stored HB9.out (.slice none 0 0) (.slice none 0 0) (.slice none 0 0) (.slice none 0 0) rfl
  refine bodyPost_ret (v := .tuple #[.agg #[.slice none 0 0, .slice none 0 0], .agg #[.slice none 0 0, .slice none 0 0], .bool false]) (by simp [results, Try.results20, go_sem, y2.1]) rfl ?_
  exact half_no HN.out y2.2.1
set_option maxRecDepth 100000 in
set_option maxHeartbeats 4000000 in
theorem refHalves_no2 (lo hi : List Nat) (p q : Option Addr) (c c' : Nat) (a : Int) (w : World) (hp : Pt w p lo) (hq : Pt w q hi) (hl : lo.length ≤ 1000000) (h1 : boxB lo hi (lo.length : Int) = true) (h2 : a < 0) :
    Calls Try.prog 20 #[.agg #[.slice p lo.length c, .slice q hi.length c'], .int .i64 a] w (HalfPost w lo hi a) := by
  have HQ := hid (ent_new w (.slice p lo.length c) (.slice q hi.length c'))
  obtain ⟨W, hW⟩ : ∃ W, W = ((w.alloc (.cells #[Value.slice p lo.length c, .slice q hi.length c'] 43)).alloc (.cells #[Value.slice none 0 0, .slice none 0 0] 43)).alloc (.cells #[Value.slice none 0 0, .slice none 0 0] 43) := ⟨_, rfl⟩
  rw [← hW] at HQ
  have HC := hid fun (V : World) (hb : Below W.heap.size W V) => refCheckBox_ok lo hi _ _ c c' (lo.length : Int) V (hp.below (HQ.out.below.trans (hb.mono HQ.out.below.size))) (hq.below (HQ.out.below.trans (hb.mono HQ.out.below.size))) (by omega)
  have HN : Hid (halfB lo hi a = false) := hid (by unfold halfB; rw [show decide (0 ≤ a ∧ a < (lo.length : Int)) = false by simp; omega]; simp)
  have e1 : decide (a < 0) = true := by simpa using h2
  rw [h1] at HC
  clear hp hq h1 h2
  go_enter Try.func20, Try.ntmps20
  go_wp2_with fail
  rw [← hW]
  clear hW
  have H0 := hid (Below.refl W.heap.size W).drew
  have x0 := HQ.out.cells H0.out
  refine wp_region_held_drew (S := fun w' => w'.cell? ⟨w.heap.size, 0, none⟩ = some (.slice p lo.length c) ∧ w'.cell? ⟨w.heap.size, 1, none⟩ = some (.slice q hi.length c')) (by kernel_rfl) (by exact x0) (fun hHeld => ?_)
  refine wpAnyH_take (i := 0) (oi := { dst := some 10, op := Go.Op.load 43 (Go.Operand.tmp 2), type := 43, pos := "ref.go:12", after := #[], guard := none }) (v := ?va0) rfl (by kernel_rfl) (by kernel_rfl) (by kernel_rfl) (fun _ _ _ h => h) (Or.inl ⟨by rfl, ?hya0⟩) (by assumption) ?resta0
  case hya0 => (intro w hSw; (try dsimp only at hSw); go_simp; (try with_reducible rfl))
  simp only [Act.put, List.setIfInBounds_toArray, List.set_cons_zero, List.set_cons_succ]
  refine wpAnyH_take (i := 1) (oi := { dst := some 11, op := Go.Op.fieldAddr 43 (Go.Operand.tmp 2) 0, type := 0, pos := "ref.go:12", after := #[], guard := none }) (v := ?va1) rfl (by kernel_rfl) (by kernel_rfl) (by kernel_rfl) (fun _ _ _ h => h) (Or.inl ⟨by rfl, ?hya1⟩) (by assumption) ?resta1
  case hya1 => (intro w hSw; (try dsimp only at hSw); go_simp; (try with_reducible rfl))
  simp only [Act.put, List.setIfInBounds_toArray, List.set_cons_zero, List.set_cons_succ]
  refine wpAnyH_take (i := 2) (oi := { dst := some 12, op := Go.Op.load 41 (Go.Operand.tmp 11), type := 41, pos := "ref.go:12", after := #[{ on := 1, ground := Go.Ground.data }], guard := none }) (v := ?va2) rfl (by kernel_rfl) (by kernel_rfl) (by kernel_rfl) (fun _ _ _ h => h) (Or.inl ⟨by rfl, ?hya2⟩) (by assumption) ?resta2
  case hya2 => (intro w hSw; (try dsimp only at hSw); go_simp; (try with_reducible rfl))
  simp only [Act.put, List.setIfInBounds_toArray, List.set_cons_zero, List.set_cons_succ]
  refine wpAnyH_take (i := 3) (oi := { dst := some 13, op := Go.Op.call { callee := Go.Callee.builtin Go.Builtin.len, args := #[Go.Operand.tmp 12], argTypes := #[41] }, type := 3, pos := "ref.go:12", after := #[{ on := 2, ground := Go.Ground.data }], guard := none }) (v := ?va3) rfl (by kernel_rfl) (by kernel_rfl) (by kernel_rfl) (fun _ _ _ h => h) (Or.inl ⟨by rfl, ?hya3⟩) (by assumption) ?resta3
  case hya3 => (intro w hSw; (try dsimp only at hSw); go_simp; (try with_reducible rfl))
  simp only [Act.put, List.setIfInBounds_toArray, List.set_cons_zero, List.set_cons_succ]
  refine wpAnyH_ready (rs := [4]) (by kernel_rfl) (by simp) (AllReadyH.cons (o := { dst := some 14, op := Go.Op.call { callee := Go.Callee.value (Go.Operand.func 37), args := #[Go.Operand.tmp 10, Go.Operand.tmp 13], argTypes := #[43, 3] }, type := 25, pos := "ref.go:12", after := #[{ on := 0, ground := Go.Ground.data }, { on := 3, ground := Go.Ground.data }], guard := none }) rfl (fun K hK => ?_) AllReadyH.nil)
  try go_simp
  go_at_call 37
  refine (HC.out _ H0.out).mono ?_
  rintro e w9 ⟨rfl, hb⟩
  rw [err_true true rfl]
  have HB9 := hid (H0.out.trans (hb.mono H0.out.size))
  have z1 := HQ.out.cells HB9.out
  clear hb
  refine hK.out _ _ z1 (fun hHeld => ?_)
  clear hK K
  refine wpAnyH_take (i := 5) (oi := { dst := some 15, op := Go.Op.binOp Go.BinOp.neq 25 (Go.Operand.tmp 14) (Go.Operand.const (Go.Value.int Go.IntKind.i64 0)) 25, type := 4, pos := "ref.go:12", after := #[{ on := 4, ground := Go.Ground.data }], guard := none }) (v := ?va5) rfl (by kernel_rfl) (by kernel_rfl) (by kernel_rfl) (fun _ _ _ h => h) (Or.inl ⟨by rfl, ?hya5⟩) (by assumption) ?resta5
  case hya5 => (intro w hSw; (try dsimp only at hSw); go_simp; (try with_reducible rfl))
  simp only [Act.put, List.setIfInBounds_toArray, List.set_cons_zero, List.set_cons_succ]
  refine wpAnyH_take (i := 6) (oi := { dst := some 16, op := Go.Op.move (Go.Operand.tmp 15), type := 4, pos := "ref.go:12", after := #[{ on := 5, ground := Go.Ground.data }, { on := 4, ground := Go.Ground.chain }], guard := none }) (v := ?va6) rfl (by kernel_rfl) (by kernel_rfl) (by kernel_rfl) (fun _ _ _ h => h) (Or.inl ⟨by rfl, ?hya6⟩) (by assumption) ?resta6
  case hya6 => (intro w hSw; (try dsimp only at hSw); go_simp; (try with_reducible rfl))
  simp only [Act.put, List.setIfInBounds_toArray, List.set_cons_zero, List.set_cons_succ]
  refine wpAnyH_take (i := 7) (oi := { dst := some 17, op := Go.Op.move (Go.Operand.tmp 1), type := 3, pos := "ref.go:12", after := #[{ on := 6, ground := Go.Ground.guard }], guard := some (6, false) }) (v := ?va7) rfl (by kernel_rfl) (by kernel_rfl) (by kernel_rfl) (fun _ _ _ h => h) (Or.inl ⟨by rfl, ?hya7⟩) (by assumption) ?resta7
  case hya7 => (intro w hSw; (try dsimp only at hSw); go_simp; (try with_reducible rfl))
  simp only [Act.put, List.setIfInBounds_toArray, List.set_cons_zero, List.set_cons_succ]
  refine wpAnyH_take (i := 8) (oi := { dst := some 18, op := Go.Op.binOp Go.BinOp.lss 3 (Go.Operand.tmp 17) (Go.Operand.const (Go.Value.int Go.IntKind.i64 0)) 3, type := 4, pos := "ref.go:12", after := #[{ on := 7, ground := Go.Ground.data }, { on := 6, ground := Go.Ground.guard }], guard := some (6, false) }) (v := ?va8) rfl (by kernel_rfl) (by kernel_rfl) (by kernel_rfl) (fun _ _ _ h => h) (Or.inl ⟨by rfl, ?hya8⟩) (by assumption) ?resta8
  case hya8 => (intro w hSw; (try dsimp only at hSw); go_simp; (try with_reducible rfl))
  simp only [Act.put, List.setIfInBounds_toArray, List.set_cons_zero, List.set_cons_succ]
  refine wpAnyH_take (i := 9) (oi := { dst := some 19, op := Go.Op.pick (Go.Operand.tmp 16) (Go.Operand.const (Go.Value.bool true)) (Go.Operand.tmp 18), type := 4, pos := "ref.go:12", after := #[{ on := 6, ground := Go.Ground.data }, { on := 8, ground := Go.Ground.data }], guard := none }) (v := ?va9) rfl (by kernel_rfl) (by kernel_rfl) (by kernel_rfl) (fun _ _ _ h => h) (Or.inl ⟨by rfl, ?hya9⟩) (by assumption) ?resta9
  case hya9 => (intro w hSw; (try dsimp only at hSw); go_simp; (try with_reducible rfl))
  simp only [Act.put, List.setIfInBounds_toArray, List.set_cons_zero, List.set_cons_succ]
  refine wpAnyH_take (i := 10) (oi := { dst := some 20, op := Go.Op.move (Go.Operand.tmp 19), type := 4, pos := "ref.go:12", after := #[{ on := 9, ground := Go.Ground.data }, { on := 6, ground := Go.Ground.chain }], guard := none }) (v := ?va10) rfl (by kernel_rfl) (by kernel_rfl) (by kernel_rfl) (fun _ _ _ h => h) (Or.inl ⟨by rfl, ?hya10⟩) (by assumption) ?resta10
  case hya10 => (intro w hSw; (try dsimp only at hSw); go_simp; (try with_reducible rfl))
  simp only [Act.put, List.setIfInBounds_toArray, List.set_cons_zero, List.set_cons_succ]
  refine wpAnyH_take (i := 11) (oi := { dst := some 21, op := Go.Op.move (Go.Operand.tmp 1), type := 3, pos := "ref.go:12", after := #[{ on := 10, ground := Go.Ground.guard }], guard := some (10, false) }) (v := _) rfl (by kernel_rfl) (by kernel_rfl) (by kernel_rfl) (fun _ _ _ h => h) (Or.inr ⟨by rfl, rfl⟩) (by assumption) ?_
  simp only [Act.put, List.setIfInBounds_toArray, List.set_cons_zero, List.set_cons_succ]
  refine wpAnyH_take (i := 12) (oi := { dst := some 22, op := Go.Op.fieldAddr 43 (Go.Operand.tmp 2) 0, type := 0, pos := "ref.go:12", after := #[{ on := 10, ground := Go.Ground.guard }], guard := some (10, false) }) (v := _) rfl (by kernel_rfl) (by kernel_rfl) (by kernel_rfl) (fun _ _ _ h => h) (Or.inr ⟨by rfl, rfl⟩) (by assumption) ?_
  simp only [Act.put, List.setIfInBounds_toArray, List.set_cons_zero, List.set_cons_succ]
  refine wpAnyH_take (i := 13) (oi := { dst := some 23, op := Go.Op.load 41 (Go.Operand.tmp 22), type := 41, pos := "ref.go:12", after := #[{ on := 12, ground := Go.Ground.data }, { on := 10, ground := Go.Ground.guard }], guard := some (10, false) }) (v := _) rfl (by kernel_rfl) (by kernel_rfl) (by kernel_rfl) (fun _ _ _ h => h) (Or.inr ⟨by rfl, rfl⟩) (by assumption) ?_
  simp only [Act.put, List.setIfInBounds_toArray, List.set_cons_zero, List.set_cons_succ]
  refine wpAnyH_take (i := 14) (oi := { dst := some 24, op := Go.Op.call { callee := Go.Callee.builtin Go.Builtin.len, args := #[Go.Operand.tmp 23], argTypes := #[41] }, type := 3, pos := "ref.go:12", after := #[{ on := 13, ground := Go.Ground.data }, { on := 10, ground := Go.Ground.guard }], guard := some (10, false) }) (v := _) rfl (by kernel_rfl) (by kernel_rfl) (by kernel_rfl) (fun _ _ _ h => h) (Or.inr ⟨by rfl, rfl⟩) (by assumption) ?_
  simp only [Act.put, List.setIfInBounds_toArray, List.set_cons_zero, List.set_cons_succ]
  refine wpAnyH_take (i := 15) (oi := { dst := some 25, op := Go.Op.binOp Go.BinOp.geq 3 (Go.Operand.tmp 21) (Go.Operand.tmp 24) 3, type := 4, pos := "ref.go:12", after := #[{ on := 11, ground := Go.Ground.data }, { on := 14, ground := Go.Ground.data }, { on := 10, ground := Go.Ground.guard }], guard := some (10, false) }) (v := _) rfl (by kernel_rfl) (by kernel_rfl) (by kernel_rfl) (fun _ _ _ h => h) (Or.inr ⟨by rfl, rfl⟩) (by assumption) ?_
  simp only [Act.put, List.setIfInBounds_toArray, List.set_cons_zero, List.set_cons_succ]
  refine wpAnyH_take (i := 16) (oi := { dst := some 26, op := Go.Op.pick (Go.Operand.tmp 20) (Go.Operand.const (Go.Value.bool true)) (Go.Operand.tmp 25), type := 4, pos := "ref.go:12", after := #[{ on := 10, ground := Go.Ground.data }, { on := 15, ground := Go.Ground.data }], guard := none }) (v := ?va16) rfl (by kernel_rfl) (by kernel_rfl) (by kernel_rfl) (fun _ _ _ h => h) (Or.inl ⟨by rfl, ?hya16⟩) (by assumption) ?resta16
  case hya16 => (intro w hSw; (try dsimp only at hSw); go_simp; (try with_reducible rfl))
  simp only [Act.put, List.setIfInBounds_toArray, List.set_cons_zero, List.set_cons_succ]
  refine wpAnyH_take (i := 17) (oi := { dst := some 27, op := Go.Op.move (Go.Operand.tmp 26), type := 4, pos := "ref.go:12", after := #[{ on := 16, ground := Go.Ground.data }, { on := 10, ground := Go.Ground.chain }], guard := none }) (v := ?va17) rfl (by kernel_rfl) (by kernel_rfl) (by kernel_rfl) (fun _ _ _ h => h) (Or.inl ⟨by rfl, ?hya17⟩) (by assumption) ?resta17
  case hya17 => (intro w hSw; (try dsimp only at hSw); go_simp; (try with_reducible rfl))
  simp only [Act.put, List.setIfInBounds_toArray, List.set_cons_zero, List.set_cons_succ]
  refine wpAnyH_take (i := 18) (oi := { dst := some 28, op := Go.Op.fieldAddr 43 (Go.Operand.tmp 2) 0, type := 0, pos := "ref.go:12", after := #[{ on := 17, ground := Go.Ground.guard }], guard := some (17, false) }) (v := _) rfl (by kernel_rfl) (by kernel_rfl) (by kernel_rfl) (fun _ _ _ h => h) (Or.inr ⟨by rfl, rfl⟩) (by assumption) ?_
  simp only [Act.put, List.setIfInBounds_toArray, List.set_cons_zero, List.set_cons_succ]
  refine wpAnyH_take (i := 19) (oi := { dst := some 29, op := Go.Op.load 41 (Go.Operand.tmp 28), type := 41, pos := "ref.go:12", after := #[{ on := 18, ground := Go.Ground.data }, { on := 17, ground := Go.Ground.guard }], guard := some (17, false) }) (v := _) rfl (by kernel_rfl) (by kernel_rfl) (by kernel_rfl) (fun _ _ _ h => h) (Or.inr ⟨by rfl, rfl⟩) (by assumption) ?_
  simp only [Act.put, List.setIfInBounds_toArray, List.set_cons_zero, List.set_cons_succ]
  refine wpAnyH_take (i := 20) (oi := { dst := some 30, op := Go.Op.move (Go.Operand.tmp 1), type := 3, pos := "ref.go:12", after := #[{ on := 17, ground := Go.Ground.guard }], guard := some (17, false) }) (v := _) rfl (by kernel_rfl) (by kernel_rfl) (by kernel_rfl) (fun _ _ _ h => h) (Or.inr ⟨by rfl, rfl⟩) (by assumption) ?_
  simp only [Act.put, List.setIfInBounds_toArray, List.set_cons_zero, List.set_cons_succ]
  refine wpAnyH_take (i := 21) (oi := { dst := some 31, op := Go.Op.indexAddr 41 (Go.Operand.tmp 29) (Go.Operand.tmp 30), type := 0, pos := "ref.go:12", after := #[{ on := 19, ground := Go.Ground.data }, { on := 20, ground := Go.Ground.data }, { on := 17, ground := Go.Ground.guard }], guard := some (17, false) }) (v := _) rfl (by kernel_rfl) (by kernel_rfl) (by kernel_rfl) (fun _ _ _ h => h) (Or.inr ⟨by rfl, rfl⟩) (by assumption) ?_
  simp only [Act.put, List.setIfInBounds_toArray, List.set_cons_zero, List.set_cons_succ]
  refine wpAnyH_take (i := 22) (oi := { dst := some 32, op := Go.Op.load 55 (Go.Operand.tmp 31), type := 55, pos := "ref.go:12", after := #[{ on := 21, ground := Go.Ground.data }, { on := 17, ground := Go.Ground.guard }], guard := some (17, false) }) (v := _) rfl (by kernel_rfl) (by kernel_rfl) (by kernel_rfl) (fun _ _ _ h => h) (Or.inr ⟨by rfl, rfl⟩) (by assumption) ?_
  simp only [Act.put, List.setIfInBounds_toArray, List.set_cons_zero, List.set_cons_succ]
  refine wpAnyH_take (i := 23) (oi := { dst := some 33, op := Go.Op.fieldAddr 43 (Go.Operand.tmp 2) 1, type := 0, pos := "ref.go:12", after := #[{ on := 17, ground := Go.Ground.guard }], guard := some (17, false) }) (v := _) rfl (by kernel_rfl) (by kernel_rfl) (by kernel_rfl) (fun _ _ _ h => h) (Or.inr ⟨by rfl, rfl⟩) (by assumption) ?_
  simp only [Act.put, List.setIfInBounds_toArray, List.set_cons_zero, List.set_cons_succ]
  refine wpAnyH_take (i := 24) (oi := { dst := some 34, op := Go.Op.load 41 (Go.Operand.tmp 33), type := 41, pos := "ref.go:12", after := #[{ on := 23, ground := Go.Ground.data }, { on := 17, ground := Go.Ground.guard }], guard := some (17, false) }) (v := _) rfl (by kernel_rfl) (by kernel_rfl) (by kernel_rfl) (fun _ _ _ h => h) (Or.inr ⟨by rfl, rfl⟩) (by assumption) ?_
  simp only [Act.put, List.setIfInBounds_toArray, List.set_cons_zero, List.set_cons_succ]
  refine wpAnyH_take (i := 25) (oi := { dst := some 35, op := Go.Op.move (Go.Operand.tmp 1), type := 3, pos := "ref.go:12", after := #[{ on := 17, ground := Go.Ground.guard }], guard := some (17, false) }) (v := _) rfl (by kernel_rfl) (by kernel_rfl) (by kernel_rfl) (fun _ _ _ h => h) (Or.inr ⟨by rfl, rfl⟩) (by assumption) ?_
  simp only [Act.put, List.setIfInBounds_toArray, List.set_cons_zero, List.set_cons_succ]
  refine wpAnyH_take (i := 26) (oi := { dst := some 36, op := Go.Op.indexAddr 41 (Go.Operand.tmp 34) (Go.Operand.tmp 35), type := 0, pos := "ref.go:12", after := #[{ on := 24, ground := Go.Ground.data }, { on := 25, ground := Go.Ground.data }, { on := 17, ground := Go.Ground.guard }], guard := some (17, false) }) (v := _) rfl (by kernel_rfl) (by kernel_rfl) (by kernel_rfl) (fun _ _ _ h => h) (Or.inr ⟨by rfl, rfl⟩) (by assumption) ?_
  simp only [Act.put, List.setIfInBounds_toArray, List.set_cons_zero, List.set_cons_succ]
  refine wpAnyH_take (i := 27) (oi := { dst := some 37, op := Go.Op.load 55 (Go.Operand.tmp 36), type := 55, pos := "ref.go:12", after := #[{ on := 26, ground := Go.Ground.data }, { on := 17, ground := Go.Ground.guard }], guard := some (17, false) }) (v := _) rfl (by kernel_rfl) (by kernel_rfl) (by kernel_rfl) (fun _ _ _ h => h) (Or.inr ⟨by rfl, rfl⟩) (by assumption) ?_
  simp only [Act.put, List.setIfInBounds_toArray, List.set_cons_zero, List.set_cons_succ]
  refine wpAnyH_take (i := 28) (oi := { dst := some 38, op := Go.Op.binOp Go.BinOp.eql 55 (Go.Operand.tmp 32) (Go.Operand.tmp 37) 55, type := 4, pos := "ref.go:12", after := #[{ on := 22, ground := Go.Ground.data }, { on := 27, ground := Go.Ground.data }, { on := 17, ground := Go.Ground.guard }], guard := some (17, false) }) (v := _) rfl (by kernel_rfl) (by kernel_rfl) (by kernel_rfl) (fun _ _ _ h => h) (Or.inr ⟨by rfl, rfl⟩) (by assumption) ?_
  simp only [Act.put, List.setIfInBounds_toArray, List.set_cons_zero, List.set_cons_succ]
  refine wpAnyH_take (i := 29) (oi := { dst := some 39, op := Go.Op.pick (Go.Operand.tmp 27) (Go.Operand.const (Go.Value.bool true)) (Go.Operand.tmp 38), type := 4, pos := "ref.go:12", after := #[{ on := 17, ground := Go.Ground.data }, { on := 28, ground := Go.Ground.data }], guard := none }) (v := ?va29) rfl (by kernel_rfl) (by kernel_rfl) (by kernel_rfl) (fun _ _ _ h => h) (Or.inl ⟨by rfl, ?hya29⟩) (by assumption) ?resta29
  case hya29 => (intro w hSw; (try dsimp only at hSw); go_simp; (try with_reducible rfl))
  simp only [Act.put, List.setIfInBounds_toArray, List.set_cons_zero, List.set_cons_succ]
  refine wpAnyH_done (by kernel_rfl) ?_ _
  clear x0 z1
  have y1 := HQ.out.outs HB9.out
  go_wp2_with fail
  have y2 := HQ.out.stored HB9.out (.slice none 0 0) (.slice none 0 0) (.slice none 0 0) (.slice none 0 0) rfl
  refine bodyPost_ret (v := .tuple #[.agg #[.slice none 0 0, .slice none 0 0], .agg #[.slice none 0 0, .slice none 0 0], .bool false]) (by simp [results, Try.results20, go_sem, y2.1]) rfl ?_
  exact half_no HN.out y2.2.1
set_option maxRecDepth 100000 in
set_option maxHeartbeats 4000000 in
theorem refHalves_no3 (lo hi : List Nat) (p q : Option Addr) (c c' : Nat) (a : Int) (w : World) (hp : Pt w p lo) (hq : Pt w q hi) (hl : lo.length ≤ 1000000) (h1 : boxB lo hi (lo.length : Int) = true) (h2 : ¬ a < 0) (h3 : (lo.length : Int) ≤ a) :
    Calls Try.prog 20 #[.agg #[.slice p lo.length c, .slice q hi.length c'], .int .i64 a] w (HalfPost w lo hi a) := by
  have HQ := hid (ent_new w (.slice p lo.length c) (.slice q hi.length c'))
  obtain ⟨W, hW⟩ : ∃ W, W = ((w.alloc (.cells #[Value.slice p lo.length c, .slice q hi.length c'] 43)).alloc (.cells #[Value.slice none 0 0, .slice none 0 0] 43)).alloc (.cells #[Value.slice none 0 0, .slice none 0 0] 43) := ⟨_, rfl⟩
  rw [← hW] at HQ
  have HC := hid fun (V : World) (hb : Below W.heap.size W V) => refCheckBox_ok lo hi _ _ c c' (lo.length : Int) V (hp.below (HQ.out.below.trans (hb.mono HQ.out.below.size))) (hq.below (HQ.out.below.trans (hb.mono HQ.out.below.size))) (by omega)
  have HN : Hid (halfB lo hi a = false) := hid (by unfold halfB; rw [show decide (0 ≤ a ∧ a < (lo.length : Int)) = false by simp; omega]; simp)
  have e1 : decide (a < 0) = false := by simpa using h2
  have e2 : decide ((lo.length : Int) ≤ a) = true := by simpa using h3
  rw [h1] at HC
  clear hp hq h1 h2 h3
  go_enter Try.func20, Try.ntmps20
  go_wp2_with fail
  rw [← hW]
  clear hW
  have H0 := hid (Below.refl W.heap.size W).drew
  have x0 := HQ.out.cells H0.out
  refine wp_region_held_drew (S := fun w' => w'.cell? ⟨w.heap.size, 0, none⟩ = some (.slice p lo.length c) ∧ w'.cell? ⟨w.heap.size, 1, none⟩ = some (.slice q hi.length c')) (by kernel_rfl) (by exact x0) (fun hHeld => ?_)
  refine wpAnyH_take (i := 0) (oi := { dst := some 10, op := Go.Op.load 43 (Go.Operand.tmp 2), type := 43, pos := "ref.go:12", after := #[], guard := none }) (v := ?va0) rfl (by kernel_rfl) (by kernel_rfl) (by kernel_rfl) (fun _ _ _ h => h) (Or.inl ⟨by rfl, ?hya0⟩) (by assumption) ?resta0
  case hya0 => (intro w hSw; (try dsimp only at hSw); go_simp; (try with_reducible rfl))
  simp only [Act.put, List.setIfInBounds_toArray, List.set_cons_zero, List.set_cons_succ]
  refine wpAnyH_take (i := 1) (oi := { dst := some 11, op := Go.Op.fieldAddr 43 (Go.Operand.tmp 2) 0, type := 0, pos := "ref.go:12", after := #[], guard := none }) (v := ?va1) rfl (by kernel_rfl) (by kernel_rfl) (by kernel_rfl) (fun _ _ _ h => h) (Or.inl ⟨by rfl, ?hya1⟩) (by assumption) ?resta1
  case hya1 => (intro w hSw; (try dsimp only at hSw); go_simp; (try with_reducible rfl))
  simp only [Act.put, List.setIfInBounds_toArray, List.set_cons_zero, List.set_cons_succ]
  refine wpAnyH_take (i := 2) (oi := { dst := some 12, op := Go.Op.load 41 (Go.Operand.tmp 11), type := 41, pos := "ref.go:12", after := #[{ on := 1, ground := Go.Ground.data }], guard := none }) (v := ?va2) rfl (by kernel_rfl) (by kernel_rfl) (by kernel_rfl) (fun _ _ _ h => h) (Or.inl ⟨by rfl, ?hya2⟩) (by assumption) ?resta2
  case hya2 => (intro w hSw; (try dsimp only at hSw); go_simp; (try with_reducible rfl))
  simp only [Act.put, List.setIfInBounds_toArray, List.set_cons_zero, List.set_cons_succ]
  refine wpAnyH_take (i := 3) (oi := { dst := some 13, op := Go.Op.call { callee := Go.Callee.builtin Go.Builtin.len, args := #[Go.Operand.tmp 12], argTypes := #[41] }, type := 3, pos := "ref.go:12", after := #[{ on := 2, ground := Go.Ground.data }], guard := none }) (v := ?va3) rfl (by kernel_rfl) (by kernel_rfl) (by kernel_rfl) (fun _ _ _ h => h) (Or.inl ⟨by rfl, ?hya3⟩) (by assumption) ?resta3
  case hya3 => (intro w hSw; (try dsimp only at hSw); go_simp; (try with_reducible rfl))
  simp only [Act.put, List.setIfInBounds_toArray, List.set_cons_zero, List.set_cons_succ]
  refine wpAnyH_ready (rs := [4]) (by kernel_rfl) (by simp) (AllReadyH.cons (o := { dst := some 14, op := Go.Op.call { callee := Go.Callee.value (Go.Operand.func 37), args := #[Go.Operand.tmp 10, Go.Operand.tmp 13], argTypes := #[43, 3] }, type := 25, pos := "ref.go:12", after := #[{ on := 0, ground := Go.Ground.data }, { on := 3, ground := Go.Ground.data }], guard := none }) rfl (fun K hK => ?_) AllReadyH.nil)
  try go_simp
  go_at_call 37
  refine (HC.out _ H0.out).mono ?_
  rintro e w9 ⟨rfl, hb⟩
  rw [err_true true rfl]
  have HB9 := hid (H0.out.trans (hb.mono H0.out.size))
  have z1 := HQ.out.cells HB9.out
  clear hb
  refine hK.out _ _ z1 (fun hHeld => ?_)
  clear hK K
  refine wpAnyH_take (i := 5) (oi := { dst := some 15, op := Go.Op.binOp Go.BinOp.neq 25 (Go.Operand.tmp 14) (Go.Operand.const (Go.Value.int Go.IntKind.i64 0)) 25, type := 4, pos := "ref.go:12", after := #[{ on := 4, ground := Go.Ground.data }], guard := none }) (v := ?va5) rfl (by kernel_rfl) (by kernel_rfl) (by kernel_rfl) (fun _ _ _ h => h) (Or.inl ⟨by rfl, ?hya5⟩) (by assumption) ?resta5
  case hya5 => (intro w hSw; (try dsimp only at hSw); go_simp; (try with_reducible rfl))
  simp only [Act.put, List.setIfInBounds_toArray, List.set_cons_zero, List.set_cons_succ]
  refine wpAnyH_take (i := 6) (oi := { dst := some 16, op := Go.Op.move (Go.Operand.tmp 15), type := 4, pos := "ref.go:12", after := #[{ on := 5, ground := Go.Ground.data }, { on := 4, ground := Go.Ground.chain }], guard := none }) (v := ?va6) rfl (by kernel_rfl) (by kernel_rfl) (by kernel_rfl) (fun _ _ _ h => h) (Or.inl ⟨by rfl, ?hya6⟩) (by assumption) ?resta6
  case hya6 => (intro w hSw; (try dsimp only at hSw); go_simp; (try with_reducible rfl))
  simp only [Act.put, List.setIfInBounds_toArray, List.set_cons_zero, List.set_cons_succ]
  refine wpAnyH_take (i := 7) (oi := { dst := some 17, op := Go.Op.move (Go.Operand.tmp 1), type := 3, pos := "ref.go:12", after := #[{ on := 6, ground := Go.Ground.guard }], guard := some (6, false) }) (v := ?va7) rfl (by kernel_rfl) (by kernel_rfl) (by kernel_rfl) (fun _ _ _ h => h) (Or.inl ⟨by rfl, ?hya7⟩) (by assumption) ?resta7
  case hya7 => (intro w hSw; (try dsimp only at hSw); go_simp; (try with_reducible rfl))
  simp only [Act.put, List.setIfInBounds_toArray, List.set_cons_zero, List.set_cons_succ]
  refine wpAnyH_take (i := 8) (oi := { dst := some 18, op := Go.Op.binOp Go.BinOp.lss 3 (Go.Operand.tmp 17) (Go.Operand.const (Go.Value.int Go.IntKind.i64 0)) 3, type := 4, pos := "ref.go:12", after := #[{ on := 7, ground := Go.Ground.data }, { on := 6, ground := Go.Ground.guard }], guard := some (6, false) }) (v := ?va8) rfl (by kernel_rfl) (by kernel_rfl) (by kernel_rfl) (fun _ _ _ h => h) (Or.inl ⟨by rfl, ?hya8⟩) (by assumption) ?resta8
  case hya8 => (intro w hSw; (try dsimp only at hSw); go_simp; (try with_reducible rfl))
  simp only [Act.put, List.setIfInBounds_toArray, List.set_cons_zero, List.set_cons_succ]
  refine wpAnyH_take (i := 9) (oi := { dst := some 19, op := Go.Op.pick (Go.Operand.tmp 16) (Go.Operand.const (Go.Value.bool true)) (Go.Operand.tmp 18), type := 4, pos := "ref.go:12", after := #[{ on := 6, ground := Go.Ground.data }, { on := 8, ground := Go.Ground.data }], guard := none }) (v := ?va9) rfl (by kernel_rfl) (by kernel_rfl) (by kernel_rfl) (fun _ _ _ h => h) (Or.inl ⟨by rfl, ?hya9⟩) (by assumption) ?resta9
  case hya9 => (intro w hSw; (try dsimp only at hSw); go_simp; (try with_reducible rfl))
  simp only [Act.put, List.setIfInBounds_toArray, List.set_cons_zero, List.set_cons_succ]
  refine wpAnyH_take (i := 10) (oi := { dst := some 20, op := Go.Op.move (Go.Operand.tmp 19), type := 4, pos := "ref.go:12", after := #[{ on := 9, ground := Go.Ground.data }, { on := 6, ground := Go.Ground.chain }], guard := none }) (v := ?va10) rfl (by kernel_rfl) (by kernel_rfl) (by kernel_rfl) (fun _ _ _ h => h) (Or.inl ⟨by rfl, ?hya10⟩) (by assumption) ?resta10
  case hya10 => (intro w hSw; (try dsimp only at hSw); go_simp; (try with_reducible rfl))
  simp only [Act.put, List.setIfInBounds_toArray, List.set_cons_zero, List.set_cons_succ]
  refine wpAnyH_take (i := 11) (oi := { dst := some 21, op := Go.Op.move (Go.Operand.tmp 1), type := 3, pos := "ref.go:12", after := #[{ on := 10, ground := Go.Ground.guard }], guard := some (10, false) }) (v := ?va11) rfl (by kernel_rfl) (by kernel_rfl) (by kernel_rfl) (fun _ _ _ h => h) (Or.inl ⟨by rfl, ?hya11⟩) (by assumption) ?resta11
  case hya11 => (intro w hSw; (try dsimp only at hSw); go_simp; (try with_reducible rfl))
  simp only [Act.put, List.setIfInBounds_toArray, List.set_cons_zero, List.set_cons_succ]
  refine wpAnyH_take (i := 12) (oi := { dst := some 22, op := Go.Op.fieldAddr 43 (Go.Operand.tmp 2) 0, type := 0, pos := "ref.go:12", after := #[{ on := 10, ground := Go.Ground.guard }], guard := some (10, false) }) (v := ?va12) rfl (by kernel_rfl) (by kernel_rfl) (by kernel_rfl) (fun _ _ _ h => h) (Or.inl ⟨by rfl, ?hya12⟩) (by assumption) ?resta12
  case hya12 => (intro w hSw; (try dsimp only at hSw); go_simp; (try with_reducible rfl))
  simp only [Act.put, List.setIfInBounds_toArray, List.set_cons_zero, List.set_cons_succ]
  refine wpAnyH_take (i := 13) (oi := { dst := some 23, op := Go.Op.load 41 (Go.Operand.tmp 22), type := 41, pos := "ref.go:12", after := #[{ on := 12, ground := Go.Ground.data }, { on := 10, ground := Go.Ground.guard }], guard := some (10, false) }) (v := ?va13) rfl (by kernel_rfl) (by kernel_rfl) (by kernel_rfl) (fun _ _ _ h => h) (Or.inl ⟨by rfl, ?hya13⟩) (by assumption) ?resta13
  case hya13 => (intro w hSw; (try dsimp only at hSw); go_simp; (try with_reducible rfl))
  simp only [Act.put, List.setIfInBounds_toArray, List.set_cons_zero, List.set_cons_succ]
  refine wpAnyH_take (i := 14) (oi := { dst := some 24, op := Go.Op.call { callee := Go.Callee.builtin Go.Builtin.len, args := #[Go.Operand.tmp 23], argTypes := #[41] }, type := 3, pos := "ref.go:12", after := #[{ on := 13, ground := Go.Ground.data }, { on := 10, ground := Go.Ground.guard }], guard := some (10, false) }) (v := ?va14) rfl (by kernel_rfl) (by kernel_rfl) (by kernel_rfl) (fun _ _ _ h => h) (Or.inl ⟨by rfl, ?hya14⟩) (by assumption) ?resta14
  case hya14 => (intro w hSw; (try dsimp only at hSw); go_simp; (try with_reducible rfl))
  simp only [Act.put, List.setIfInBounds_toArray, List.set_cons_zero, List.set_cons_succ]
  refine wpAnyH_take (i := 15) (oi := { dst := some 25, op := Go.Op.binOp Go.BinOp.geq 3 (Go.Operand.tmp 21) (Go.Operand.tmp 24) 3, type := 4, pos := "ref.go:12", after := #[{ on := 11, ground := Go.Ground.data }, { on := 14, ground := Go.Ground.data }, { on := 10, ground := Go.Ground.guard }], guard := some (10, false) }) (v := ?va15) rfl (by kernel_rfl) (by kernel_rfl) (by kernel_rfl) (fun _ _ _ h => h) (Or.inl ⟨by rfl, ?hya15⟩) (by assumption) ?resta15
  case hya15 => (intro w hSw; (try dsimp only at hSw); go_simp; (try with_reducible rfl))
  simp only [Act.put, List.setIfInBounds_toArray, List.set_cons_zero, List.set_cons_succ]
  refine wpAnyH_take (i := 16) (oi := { dst := some 26, op := Go.Op.pick (Go.Operand.tmp 20) (Go.Operand.const (Go.Value.bool true)) (Go.Operand.tmp 25), type := 4, pos := "ref.go:12", after := #[{ on := 10, ground := Go.Ground.data }, { on := 15, ground := Go.Ground.data }], guard := none }) (v := ?va16) rfl (by kernel_rfl) (by kernel_rfl) (by kernel_rfl) (fun _ _ _ h => h) (Or.inl ⟨by rfl, ?hya16⟩) (by assumption) ?resta16
  case hya16 => (intro w hSw; (try dsimp only at hSw); go_simp; (try with_reducible rfl))
  simp only [Act.put, List.setIfInBounds_toArray, List.set_cons_zero, List.set_cons_succ]
  refine wpAnyH_take (i := 17) (oi := { dst := some 27, op := Go.Op.move (Go.Operand.tmp 26), type := 4, pos := "ref.go:12", after := #[{ on := 16, ground := Go.Ground.data }, { on := 10, ground := Go.Ground.chain }], guard := none }) (v := ?va17) rfl (by kernel_rfl) (by kernel_rfl) (by kernel_rfl) (fun _ _ _ h => h) (Or.inl ⟨by rfl, ?hya17⟩) (by assumption) ?resta17
  case hya17 => (intro w hSw; (try dsimp only at hSw); go_simp; (try with_reducible rfl))
  simp only [Act.put, List.setIfInBounds_toArray, List.set_cons_zero, List.set_cons_succ]
  refine wpAnyH_take (i := 18) (oi := { dst := some 28, op := Go.Op.fieldAddr 43 (Go.Operand.tmp 2) 0, type := 0, pos := "ref.go:12", after := #[{ on := 17, ground := Go.Ground.guard }], guard := some (17, false) }) (v := _) rfl (by kernel_rfl) (by kernel_rfl) (by kernel_rfl) (fun _ _ _ h => h) (Or.inr ⟨by rfl, rfl⟩) (by assumption) ?_
  simp only [Act.put, List.setIfInBounds_toArray, List.set_cons_zero, List.set_cons_succ]
  refine wpAnyH_take (i := 19) (oi := { dst := some 29, op := Go.Op.load 41 (Go.Operand.tmp 28), type := 41, pos := "ref.go:12", after := #[{ on := 18, ground := Go.Ground.data }, { on := 17, ground := Go.Ground.guard }], guard := some (17, false) }) (v := _) rfl (by kernel_rfl) (by kernel_rfl) (by kernel_rfl) (fun _ _ _ h => h) (Or.inr ⟨by rfl, rfl⟩) (by assumption) ?_
  simp only [Act.put, List.setIfInBounds_toArray, List.set_cons_zero, List.set_cons_succ]
  refine wpAnyH_take (i := 20) (oi := { dst := some 30, op := Go.Op.move (Go.Operand.tmp 1), type := 3, pos := "ref.go:12", after := #[{ on := 17, ground := Go.Ground.guard }], guard := some (17, false) }) (v := _) rfl (by kernel_rfl) (by kernel_rfl) (by kernel_rfl) (fun _ _ _ h => h) (Or.inr ⟨by rfl, rfl⟩) (by assumption) ?_
  simp only [Act.put, List.setIfInBounds_toArray, List.set_cons_zero, List.set_cons_succ]
  refine wpAnyH_take (i := 21) (oi := { dst := some 31, op := Go.Op.indexAddr 41 (Go.Operand.tmp 29) (Go.Operand.tmp 30), type := 0, pos := "ref.go:12", after := #[{ on := 19, ground := Go.Ground.data }, { on := 20, ground := Go.Ground.data }, { on := 17, ground := Go.Ground.guard }], guard := some (17, false) }) (v := _) rfl (by kernel_rfl) (by kernel_rfl) (by kernel_rfl) (fun _ _ _ h => h) (Or.inr ⟨by rfl, rfl⟩) (by assumption) ?_
  simp only [Act.put, List.setIfInBounds_toArray, List.set_cons_zero, List.set_cons_succ]
  refine wpAnyH_take (i := 22) (oi := { dst := some 32, op := Go.Op.load 55 (Go.Operand.tmp 31), type := 55, pos := "ref.go:12", after := #[{ on := 21, ground := Go.Ground.data }, { on := 17, ground := Go.Ground.guard }], guard := some (17, false) }) (v := _) rfl (by kernel_rfl) (by kernel_rfl) (by kernel_rfl) (fun _ _ _ h => h) (Or.inr ⟨by rfl, rfl⟩) (by assumption) ?_
  simp only [Act.put, List.setIfInBounds_toArray, List.set_cons_zero, List.set_cons_succ]
  refine wpAnyH_take (i := 23) (oi := { dst := some 33, op := Go.Op.fieldAddr 43 (Go.Operand.tmp 2) 1, type := 0, pos := "ref.go:12", after := #[{ on := 17, ground := Go.Ground.guard }], guard := some (17, false) }) (v := _) rfl (by kernel_rfl) (by kernel_rfl) (by kernel_rfl) (fun _ _ _ h => h) (Or.inr ⟨by rfl, rfl⟩) (by assumption) ?_
  simp only [Act.put, List.setIfInBounds_toArray, List.set_cons_zero, List.set_cons_succ]
  refine wpAnyH_take (i := 24) (oi := { dst := some 34, op := Go.Op.load 41 (Go.Operand.tmp 33), type := 41, pos := "ref.go:12", after := #[{ on := 23, ground := Go.Ground.data }, { on := 17, ground := Go.Ground.guard }], guard := some (17, false) }) (v := _) rfl (by kernel_rfl) (by kernel_rfl) (by kernel_rfl) (fun _ _ _ h => h) (Or.inr ⟨by rfl, rfl⟩) (by assumption) ?_
  simp only [Act.put, List.setIfInBounds_toArray, List.set_cons_zero, List.set_cons_succ]
  refine wpAnyH_take (i := 25) (oi := { dst := some 35, op := Go.Op.move (Go.Operand.tmp 1), type := 3, pos := "ref.go:12", after := #[{ on := 17, ground := Go.Ground.guard }], guard := some (17, false) }) (v := _) rfl (by kernel_rfl) (by kernel_rfl) (by kernel_rfl) (fun _ _ _ h => h) (Or.inr ⟨by rfl, rfl⟩) (by assumption) ?_
  simp only [Act.put, List.setIfInBounds_toArray, List.set_cons_zero, List.set_cons_succ]
  refine wpAnyH_take (i := 26) (oi := { dst := some 36, op := Go.Op.indexAddr 41 (Go.Operand.tmp 34) (Go.Operand.tmp 35), type := 0, pos := "ref.go:12", after := #[{ on := 24, ground := Go.Ground.data }, { on := 25, ground := Go.Ground.data }, { on := 17, ground := Go.Ground.guard }], guard := some (17, false) }) (v := _) rfl (by kernel_rfl) (by kernel_rfl) (by kernel_rfl) (fun _ _ _ h => h) (Or.inr ⟨by rfl, rfl⟩) (by assumption) ?_
  simp only [Act.put, List.setIfInBounds_toArray, List.set_cons_zero, List.set_cons_succ]
  refine wpAnyH_take (i := 27) (oi := { dst := some 37, op := Go.Op.load 55 (Go.Operand.tmp 36), type := 55, pos := "ref.go:12", after := #[{ on := 26, ground := Go.Ground.data }, { on := 17, ground := Go.Ground.guard }], guard := some (17, false) }) (v := _) rfl (by kernel_rfl) (by kernel_rfl) (by kernel_rfl) (fun _ _ _ h => h) (Or.inr ⟨by rfl, rfl⟩) (by assumption) ?_
  simp only [Act.put, List.setIfInBounds_toArray, List.set_cons_zero, List.set_cons_succ]
  refine wpAnyH_take (i := 28) (oi := { dst := some 38, op := Go.Op.binOp Go.BinOp.eql 55 (Go.Operand.tmp 32) (Go.Operand.tmp 37) 55, type := 4, pos := "ref.go:12", after := #[{ on := 22, ground := Go.Ground.data }, { on := 27, ground := Go.Ground.data }, { on := 17, ground := Go.Ground.guard }], guard := some (17, false) }) (v := _) rfl (by kernel_rfl) (by kernel_rfl) (by kernel_rfl) (fun _ _ _ h => h) (Or.inr ⟨by rfl, rfl⟩) (by assumption) ?_
  simp only [Act.put, List.setIfInBounds_toArray, List.set_cons_zero, List.set_cons_succ]
  refine wpAnyH_take (i := 29) (oi := { dst := some 39, op := Go.Op.pick (Go.Operand.tmp 27) (Go.Operand.const (Go.Value.bool true)) (Go.Operand.tmp 38), type := 4, pos := "ref.go:12", after := #[{ on := 17, ground := Go.Ground.data }, { on := 28, ground := Go.Ground.data }], guard := none }) (v := ?va29) rfl (by kernel_rfl) (by kernel_rfl) (by kernel_rfl) (fun _ _ _ h => h) (Or.inl ⟨by rfl, ?hya29⟩) (by assumption) ?resta29
  case hya29 => (intro w hSw; (try dsimp only at hSw); go_simp; (try with_reducible rfl))
  simp only [Act.put, List.setIfInBounds_toArray, List.set_cons_zero, List.set_cons_succ]
  refine wpAnyH_done (by kernel_rfl) ?_ _
  clear x0 z1
  have y1 := HQ.out.outs HB9.out
  go_wp2_with fail
  have y2 := HQ.out.stored HB9.out (.slice none 0 0) (.slice none 0 0) (.slice none 0 0) (.slice none 0 0) rfl
  refine bodyPost_ret (v := .tuple #[.agg #[.slice none 0 0, .slice none 0 0], .agg #[.slice none 0 0, .slice none 0 0], .bool false]) (by simp [results, Try.results20, go_sem, y2.1]) rfl ?_
  exact half_no HN.out y2.2.1
set_option maxRecDepth 100000 in
set_option maxHeartbeats 4000000 in
theorem refHalves_no4 (lo hi : List Nat) (p q : Option Addr) (c c' : Nat) (a : Int) (w : World) (hp : Pt w p lo) (hq : Pt w q hi) (hl : lo.length ≤ 1000000) (h1 : boxB lo hi (lo.length : Int) = true) (h2 : decide (0 ≤ a ∧ a < (lo.length : Int)) = true) (h4 : lo.getD a.toNat 0 = hi.getD a.toNat 0) :
    Calls Try.prog 20 #[.agg #[.slice p lo.length c, .slice q hi.length c'], .int .i64 a] w (HalfPost w lo hi a) := by
  have HQ := hid (ent_new w (.slice p lo.length c) (.slice q hi.length c'))
  obtain ⟨W, hW⟩ : ∃ W, W = ((w.alloc (.cells #[Value.slice p lo.length c, .slice q hi.length c'] 43)).alloc (.cells #[Value.slice none 0 0, .slice none 0 0] 43)).alloc (.cells #[Value.slice none 0 0, .slice none 0 0] 43) := ⟨_, rfl⟩
  rw [← hW] at HQ
  have h3 : 0 ≤ a ∧ a < (lo.length : Int) := by simpa using h2
  obtain ⟨i, rfl⟩ : ∃ i : Nat, a = (i : Int) := ⟨a.toNat, by omega⟩
  have hil : i < lo.length := by omega
  have hlen : lo.length = hi.length := by
    have h1' := h1
    unfold boxB at h1'
    simp only [Bool.and_eq_true] at h1'
    exact leAll_len h1'.2
  have hih : i < hi.length := by omega
  have hxy : lo[i] = hi[i] := by
    rw [Int.toNat_natCast, List.getD_eq_getElem?_getD, List.getD_eq_getElem?_getD, List.getElem?_eq_getElem hil, List.getElem?_eq_getElem hih] at h4
    exact h4
  have HN : Hid (halfB lo hi (i : Int) = false) := hid (by unfold halfB; rw [decide_eq_true h4]; simp)
  obtain ⟨b1, o1, rfl, hb1, d1⟩ := hp.cells i hil
  obtain ⟨b2, o2, rfl, hb2, d2⟩ := hq.cells i hih
  have HC := hid fun (V : World) (hb : Below W.heap.size W V) => refCheckBox_ok lo hi _ _ c c' (lo.length : Int) V (hp.below (HQ.out.below.trans (hb.mono HQ.out.below.size))) (hq.below (HQ.out.below.trans (hb.mono HQ.out.below.size))) (by omega)
  have HX := hid fun (V : World) (hb : Below W.heap.size W V) => (show (V.cell? ⟨w.heap.size, 0, none⟩ = some (.slice (some ⟨b1, o1, none⟩) lo.length c) ∧ V.cell? ⟨w.heap.size, 1, none⟩ = some (.slice (some ⟨b2, o2, none⟩) hi.length c')) ∧ (V.cell? ⟨b1, o1 + i, none⟩ = some (.int .u32 (lo[i] : Int)) ∧ V.cell? ⟨b2, o2 + i, none⟩ = some (.int .u32 (hi[i] : Int))) from
    ⟨HQ.out.cells hb, ((HQ.out.below.trans (hb.mono HQ.out.below.size)).cell (p := ⟨b1, _, none⟩) hb1).trans d1, ((HQ.out.below.trans (hb.mono HQ.out.below.size)).cell (p := ⟨b2, _, none⟩) hb2).trans d2⟩)
  rw [h1] at HC
  have q1 : (0 : Int) ≤ (i : Int) := by omega
  have q2 : (i : Int) < (lo.length : Int) := by omega
  have q3 : (i : Int) < (hi.length : Int) := by omega
  have e1 : decide ((i : Int) < 0) = false := by simp
  have e2 : decide ((lo.length : Int) ≤ (i : Int)) = false := by simp; omega
  have e3 : decide (lo.length ≤ i) = false := by simp; omega
  rw [hxy] at HX
  clear hp hq h1 h2 h3 h4 hxy hlen d1 d2 hb1 hb2
  generalize hi[i] = x at HX
  go_enter Try.func20, Try.ntmps20
  go_wp2_with fail
  rw [← hW]
  clear hW
  have H0 := hid (Below.refl W.heap.size W).drew
  have x0 := HX.out _ H0.out
  go_region_held3 (fun w' => (w'.cell? ⟨w.heap.size, 0, none⟩ = some (.slice (some ⟨b1, o1, none⟩) lo.length c) ∧ w'.cell? ⟨w.heap.size, 1, none⟩ = some (.slice (some ⟨b2, o2, none⟩) hi.length c')) ∧ (w'.cell? ⟨b1, o1 + i, none⟩ = some (.int .u32 (x : Int)) ∧ w'.cell? ⟨b2, o2 + i, none⟩ = some (.int .u32 (x : Int)))) (first | exact x0 | exact z1 | go_keep)
    (first
      | (go_at_call 37; refine (HC.out _ H0.out).mono ?_; rintro e w9 ⟨rfl, hb⟩; rw [err_true true rfl]; have HB9 := hid (H0.out.trans (hb.mono H0.out.size)); have z1 := HX.out _ HB9.out; clear hb)
      | fail)
  clear x0 z1
  have y1 := HQ.out.outs HB9.out
  go_wp2_with fail
  have y2 := HQ.out.stored HB9.out (.slice none 0 0) (.slice none 0 0) (.slice none 0 0) (.slice none 0 0) rfl
  refine bodyPost_ret (v := .tuple #[.agg #[.slice none 0 0, .slice none 0 0], .agg #[.slice none 0 0, .slice none 0 0], .bool false]) (by simp [results, Try.results20, go_sem, y2.1]) rfl ?_
  exact half_no HN.out y2.2.1
end Go.Proofs.Ytnmhdlincgefeaa.Pt
