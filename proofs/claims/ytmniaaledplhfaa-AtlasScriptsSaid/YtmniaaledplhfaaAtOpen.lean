/- An Op, a Case, a Cut that came in, opened. -/
import Derived.Test.YtmniaaledplhfaaBkOpen
import Derived.Test.YtmniaaledplhfaaAtLv
namespace Go.Proofs.Ytmniaaledplhfaa.At
open Go.RowKit
open Go.Lib (hid)
open Go.ChangeShapes Go.WideShapes Go.Joins Go.Deep
open Go.Proofs.Ytmniaaledplhfaa.Ky Go.Proofs.Ytmniaaledplhfaa.Bk

section
variable {H : Type} {enc : TypeId × Value → H} {W : World} {base : Nat} {sp : Nat → Bool} {hd : Bool}
theorem cOp : Try.prog.cellsOf 37 = 5 := by kernel_rfl
theorem cBox : Try.prog.cellsOf 35 = 2 := by kernel_rfl
theorem cRec : Try.prog.cellsOf 33 = 2 := by kernel_rfl
theorem cell_two {l : List Value} {j c : Nat} {x y : Value} (hx : l[j]? = some x) (hy : l[j + 1]? = some y) (hc : c = 2) : (l.drop j).take c = [x, y] := by
  subst hc
  obtain ⟨h, e⟩ := List.getElem?_eq_some_iff.1 hx
  obtain ⟨h', e'⟩ := List.getElem?_eq_some_iff.1 hy
  rw [List.drop_eq_getElem_cons h, List.drop_eq_getElem_cons h', e, e']; rfl
set_option maxRecDepth 100000 in
/-- the cells of a box -/
theorem box_cells {n : Nat} {l : List Value} {x : DataW H × List MemPlace} (hl : l.length = 2) (h : DataW.trod enc Try.prog W base sp hd n 35 l = some x) :
    ∃ p k c p' k' c', l = [.slice p (k : List Nat).length c, .slice p' (k' : List Nat).length c'] ∧ Pt W p k ∧ Pt W p' k' ∧ k.length ≤ 9223372036854775807 ∧ k'.length ≤ 9223372036854775807 := by
  obtain ⟨x0, x1, rfl⟩ : ∃ x0 x1, l = [x0, x1] := by
    match l, hl with
    | [x0, x1], _ => exact ⟨x0, x1, rfl⟩
  obtain ⟨xs, m, _, _, _, hlen, hff⟩ := DataW.trod_struct Try.underlying35 h
  have hlen2 : xs.length = 2 := hlen
  have some_at : ∀ j, j < 2 → (xs[j]?).isSome = true := fun j hj => by rw [List.getElem?_eq_getElem (by omega)]; rfl
  obtain ⟨y0, hy0⟩ := Option.isSome_iff_exists.1 (some_at 0 (by omega))
  obtain ⟨y1, hy1⟩ := Option.isSome_iff_exists.1 (some_at 1 (by omega))
  have h0 := hff 0 _ rfl
  have h1 := hff 1 _ rfl
  rw [hy0] at h0
  rw [hy1] at h1
  obtain ⟨p, k, c, rfl, hp, hk⟩ := key_trod (cell_one rfl c36) h0
  obtain ⟨p', k', c', rfl, hp', hk'⟩ := key_trod (cell_one rfl c36) h1
  exact ⟨p, k, c, p', k', c', rfl, hp, hp', hk, hk'⟩
/-- a value that is an Op -/
def OpV (w : World) (v : Value) : Prop := ∃ (a : Int) (p : Option Addr) (k : List Nat) (c : Nat) (t : ByteArray) (q : Option Addr) (lo : List Nat) (c2 : Nat) (r : Option Addr) (hi : List Nat) (c3 : Nat), v = .agg #[.int .i64 a, .slice p k.length c, .string t, .slice q lo.length c2, .slice r hi.length c3] ∧ Pt w p k ∧ Pt w q lo ∧ Pt w r hi ∧ k.length ≤ 9223372036854775807 ∧ t.size ≤ 9223372036854775807 ∧ lo.length ≤ 9223372036854775807 ∧ hi.length ≤ 9223372036854775807
set_option maxRecDepth 100000 in
theorem open_opA {v : Value} {d : DataW H} {p : List MemPlace} (hv : Value.okWide Try.prog W .any base 37 v) (h : DataW.Trod enc Try.prog W 0 (fun _ => true) true 37 v d p) : OpV W v := by
  obtain ⟨cs, rfl, hsz⟩ := okWide_struct Try.underlying37 hv
  obtain ⟨fuel, hf⟩ := h
  rw [cOp] at hsz
  obtain ⟨l⟩ := cs
  have hl : l.length = 5 := hsz
  obtain ⟨x0, x1, x2, x3, x4, rfl⟩ : ∃ x0 x1 x2 x3 x4, l = [x0, x1, x2, x3, x4] := by
    match l, hl with
    | [x0, x1, x2, x3, x4], _ => exact ⟨x0, x1, x2, x3, x4, rfl⟩
  obtain ⟨xs, m, _, _, _, hlen, hff⟩ := DataW.trod_struct Try.underlying37 hf
  have hlen3 : xs.length = 3 := hlen
  have some_at : ∀ j, j < 3 → (xs[j]?).isSome = true := fun j hj => by rw [List.getElem?_eq_getElem (by omega)]; rfl
  obtain ⟨y0, hy0⟩ := Option.isSome_iff_exists.1 (some_at 0 (by omega))
  obtain ⟨y1, hy1⟩ := Option.isSome_iff_exists.1 (some_at 1 (by omega))
  obtain ⟨y2, hy2⟩ := Option.isSome_iff_exists.1 (some_at 2 (by omega))
  have h0 := hff 0 _ rfl
  have h1 := hff 1 _ rfl
  have h2 := hff 2 _ rfl
  rw [hy0] at h0
  rw [hy1] at h1
  rw [hy2] at h2
  have h0' : DataW.trod enc Try.prog W 0 (fun _ => true) true m 3 [x0] = some y0 := by rw [← show (([x0, x1, x2, x3, x4] : List Value).drop 0).take (Try.prog.cellsOf 3) = [x0] from cell_one rfl c3]; exact h0
  have h1' : DataW.trod enc Try.prog W 0 (fun _ => true) true m 33 [x1, x2] = some y1 := by rw [← show (([x0, x1, x2, x3, x4] : List Value).drop 1).take (Try.prog.cellsOf 33) = [x1, x2] from cell_two rfl rfl cRec]; exact h1
  have h2' : DataW.trod enc Try.prog W 0 (fun _ => true) true m 35 [x3, x4] = some y2 := by rw [← show (([x0, x1, x2, x3, x4] : List Value).drop 3).take (Try.prog.cellsOf 35) = [x3, x4] from cell_two rfl rfl cBox]; exact h2
  obtain ⟨a, e, _, _⟩ := DataW.trod_int Try.underlying3 h0'
  simp at e
  subst e
  obtain ⟨p, k, c, t, e, hp, hk, ht⟩ := rec_cells rfl h1'
  cases e
  obtain ⟨q, lo, c2, r, hi, c3, e, hq, hr, hlo, hhi⟩ := box_cells rfl h2'
  cases e
  exact ⟨a, p, k, c, t, q, lo, c2, r, hi, c3, rfl, hp, hq, hr, hk, ht, hlo, hhi⟩
/-- a value that is a Case -/
def CaseV (w : World) (v : Value) : Prop := ∃ (d : Int) (P : Option Addr) (L : List Rec) (C : Nat) (p : Option Addr) (k : List Nat) (c : Nat) (t u : ByteArray), v = .agg #[.int .i64 d, .slice P L.length C, .slice p k.length c, .string t, .string u] ∧ Rs (fun _ => False) w P L ∧ L.length ≤ 9223372036854775807 ∧ Pt w p k ∧ k.length ≤ 9223372036854775807 ∧ t.size ≤ 9223372036854775807 ∧ u.size ≤ 9223372036854775807
/-- a value that is a Cut -/
def CutV (w : World) (v : Value) : Prop := ∃ (d : Int) (P : Option Addr) (L : List Rec) (C : Nat) (q : Option Addr) (lo : List Nat) (c2 : Nat) (r : Option Addr) (hi : List Nat) (c3 : Nat) (at' : Int), v = .agg #[.int .i64 d, .slice P L.length C, .slice q lo.length c2, .slice r hi.length c3, .int .i64 at'] ∧ Rs (fun _ => False) w P L ∧ L.length ≤ 9223372036854775807 ∧ Pt w q lo ∧ Pt w r hi ∧ lo.length ≤ 9223372036854775807 ∧ hi.length ≤ 9223372036854775807
end
end Go.Proofs.Ytmniaaledplhfaa.At
