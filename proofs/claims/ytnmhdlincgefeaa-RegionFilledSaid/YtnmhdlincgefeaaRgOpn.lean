/- Structs that come in, opened (written by a program of mine). -/
import Derived.Test.YtnmhdlincgefeaaSlOp0R
import Derived.Deep.Slices
import Derived.ProofKit
namespace Go.Proofs.Ytnmhdlincgefeaa.Sl
open Go.RowKit
open Go.Lib (hid)
open Go.ChangeShapes Go.WideShapes Go.Joins Go.Deep
section
variable {H : Type} {enc : TypeId × Value → H} {W : World} {base : Nat} {sp : Nat → Bool} {hd : Bool}
theorem cz_ints : Try.prog.cellsOf 22 = 1 := by kernel_rfl
theorem cz_one {l : List Value} {j c : Nat} {x : Value} (hx : l[j]? = some x) (hc : c = 1) : (l.drop j).take c = [x] := by
  subst hc
  obtain ⟨h, e⟩ := List.getElem?_eq_some_iff.1 hx
  rw [List.drop_eq_getElem_cons h, e]; rfl
theorem cz_two {l : List Value} {j c : Nat} {x y : Value} (hx : l[j]? = some x) (hy : l[j + 1]? = some y) (hc : c = 2) : (l.drop j).take c = [x, y] := by
  subst hc
  obtain ⟨h, e⟩ := List.getElem?_eq_some_iff.1 hx
  obtain ⟨h', e'⟩ := List.getElem?_eq_some_iff.1 hy
  rw [List.drop_eq_getElem_cons h, List.drop_eq_getElem_cons h', e, e']; rfl
/-- what such a struct holds -/
structure FlD where
  p0 : Option Addr
  l0 : List Int
  c0 : Nat
  p1 : Option Addr
  l1 : List Int
  c1 : Nat
  p2 : Option Addr
  l2 : List Int
  c2 : Nat
  p3 : Option Addr
  l3 : List Int
  c3 : Nat
def FlD.cells (d : FlD) : List Value := [.slice d.p0 d.l0.length d.c0, .slice d.p1 d.l1.length d.c1, .slice d.p2 d.l2.length d.c2, .slice d.p3 d.l3.length d.c3]
structure FlD.Ok (w : World) (d : FlD) : Prop where
  f0 : (Is w d.p0 d.l0 ∧ d.l0.length ≤ 9223372036854775807)
  f1 : (Is w d.p1 d.l1 ∧ d.l1.length ≤ 9223372036854775807)
  f2 : (Is w d.p2 d.l2 ∧ d.l2.length ≤ 9223372036854775807)
  f3 : (Is w d.p3 d.l3 ∧ d.l3.length ≤ 9223372036854775807)
theorem FlD.Ok.below {w w' : World} {d : FlD} (h : d.Ok w) (hb : Below w.heap.size w w') : d.Ok w' := ⟨⟨h.f0.1.below hb, h.f0.2⟩, ⟨h.f1.1.below hb, h.f1.2⟩, ⟨h.f2.1.below hb, h.f2.2⟩, ⟨h.f3.1.below hb, h.f3.2⟩⟩
theorem cz_Fl : Try.prog.cellsOf 51 = 4 := by kernel_rfl
set_option maxRecDepth 100000 in
set_option maxHeartbeats 1000000 in
theorem fl_cells {n : Nat} {l : List Value} {x : DataW H × List MemPlace} (hl : l.length = 4) (hf : DataW.trod enc Try.prog W base sp hd n 51 l = some x) : ∃ d : FlD, l = d.cells ∧ d.Ok W := by
  obtain ⟨x0, x1, x2, x3, rfl⟩ : ∃ x0 x1 x2 x3, l = [x0, x1, x2, x3] := by
    match l, hl with
    | [x0, x1, x2, x3], _ => exact ⟨x0, x1, x2, x3, rfl⟩
  obtain ⟨xs, m, _, _, _, hlen, hff⟩ := DataW.trod_struct Try.underlying51 hf
  have hlen2 : xs.length = 4 := hlen
  have some_at : ∀ j, j < 4 → (xs[j]?).isSome = true := fun j hj => by rw [List.getElem?_eq_getElem (by omega)]; rfl
  obtain ⟨y0, hy0⟩ := Option.isSome_iff_exists.1 (some_at 0 (by omega))
  have h0 := hff 0 _ rfl
  rw [hy0] at h0
  have g0 : DataW.trod enc Try.prog W base sp hd m 22 [x0] = some y0 := by rw [← show (([x0, x1, x2, x3] : List Value).drop 0).take (Try.prog.cellsOf 22) = [x0] from cz_one rfl cz_ints]; exact h0
  obtain ⟨y1, hy1⟩ := Option.isSome_iff_exists.1 (some_at 1 (by omega))
  have h1 := hff 1 _ rfl
  rw [hy1] at h1
  have g1 : DataW.trod enc Try.prog W base sp hd m 22 [x1] = some y1 := by rw [← show (([x0, x1, x2, x3] : List Value).drop 1).take (Try.prog.cellsOf 22) = [x1] from cz_one rfl cz_ints]; exact h1
  obtain ⟨y2, hy2⟩ := Option.isSome_iff_exists.1 (some_at 2 (by omega))
  have h2 := hff 2 _ rfl
  rw [hy2] at h2
  have g2 : DataW.trod enc Try.prog W base sp hd m 22 [x2] = some y2 := by rw [← show (([x0, x1, x2, x3] : List Value).drop 2).take (Try.prog.cellsOf 22) = [x2] from cz_one rfl cz_ints]; exact h2
  obtain ⟨y3, hy3⟩ := Option.isSome_iff_exists.1 (some_at 3 (by omega))
  have h3 := hff 3 _ rfl
  rw [hy3] at h3
  have g3 : DataW.trod enc Try.prog W base sp hd m 22 [x3] = some y3 := by rw [← show (([x0, x1, x2, x3] : List Value).drop 3).take (Try.prog.cellsOf 22) = [x3] from cz_one rfl cz_ints]; exact h3
  obtain ⟨p0, l0, c0, rfl, hp0, hk0⟩ := ints_trod rfl g0
  obtain ⟨p1, l1, c1, rfl, hp1, hk1⟩ := ints_trod rfl g1
  obtain ⟨p2, l2, c2, rfl, hp2, hk2⟩ := ints_trod rfl g2
  obtain ⟨p3, l3, c3, rfl, hp3, hk3⟩ := ints_trod rfl g3
  exact ⟨⟨p0, l0, c0, p1, l1, c1, p2, l2, c2, p3, l3, c3⟩, rfl, ⟨⟨hp0, hk0⟩, ⟨hp1, hk1⟩, ⟨hp2, hk2⟩, ⟨hp3, hk3⟩⟩⟩
/-- a value that is such a struct -/
def FlV (w : World) (v : Value) : Prop := ∃ d : FlD, v = .agg d.cells.toArray ∧ d.Ok w
set_option maxRecDepth 100000 in
theorem open_Fl {v : Value} {d : DataW H} {p : List MemPlace} (hv : Value.okWide Try.prog W .any base 51 v) (h : DataW.Trod enc Try.prog W 0 (fun _ => true) true 51 v d p) : FlV W v := by
  obtain ⟨cs, rfl, hsz⟩ := okWide_struct Try.underlying51 hv
  obtain ⟨fuel, hf⟩ := h
  rw [cz_Fl] at hsz
  obtain ⟨l⟩ := cs
  obtain ⟨d, rfl, hd⟩ := fl_cells (l := l) hsz hf
  exact ⟨d, rfl, hd⟩
end
end Go.Proofs.Ytnmhdlincgefeaa.Sl
