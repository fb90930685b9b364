/- Structs that come in, opened (written by a program of mine). -/
import Derived.Test.YtolnbamdddiifaaRqLive
import Derived.Test.YtolnbamdddiifaaKyOpen
import Derived.Test.YtolnbamdddiifaaBkOpen
import Derived.Deep.Slices
import Derived.ProofKit
namespace Go.Proofs.Ytolnbamdddiifaa.Rq
open Go.RowKit
open Go.Lib (hid)
open Go.ChangeShapes Go.WideShapes Go.Joins Go.Deep
open Go.Proofs.Ytolnbamdddiifaa.Ky Go.Proofs.Ytolnbamdddiifaa.Bk
section
variable {H : Type} {enc : TypeId × Value → H} {W : World} {base : Nat} {sp : Nat → Bool} {hd : Bool}
theorem cz_box : Try.prog.cellsOf 25 = 2 := by kernel_rfl
theorem cz_int : Try.prog.cellsOf 3 = 1 := by kernel_rfl
theorem cz_ints : Try.prog.cellsOf 26 = 1 := by kernel_rfl
theorem cz_key : Try.prog.cellsOf 23 = 1 := by kernel_rfl
theorem cz_recs : Try.prog.cellsOf 27 = 1 := by kernel_rfl
theorem cz_string : Try.prog.cellsOf 9 = 1 := by kernel_rfl
theorem cz_one {l : List Value} {j c : Nat} {x : Value} (hx : l[j]? = some x) (hc : c = 1) : (l.drop j).take c = [x] := by
  subst hc
  obtain ⟨h, e⟩ := List.getElem?_eq_some_iff.1 hx
  rw [List.drop_eq_getElem_cons h, e]; rfl
theorem cz_two {l : List Value} {j c : Nat} {x y : Value} (hx : l[j]? = some x) (hy : l[j + 1]? = some y) (hc : c = 2) : (l.drop j).take c = [x, y] := by
  subst hc
  obtain ⟨h, e⟩ := List.getElem?_eq_some_iff.1 hx
  obtain ⟨h', e'⟩ := List.getElem?_eq_some_iff.1 hy
  rw [List.drop_eq_getElem_cons h, List.drop_eq_getElem_cons h', e, e']; rfl
set_option maxRecDepth 100000 in
theorem bz_cells {n : Nat} {l : List Value} {x : DataW H × List MemPlace} (hl : l.length = 2) (h : DataW.trod enc Try.prog W base sp hd n 25 l = some x) :
    ∃ p k c p' k' c', l = [.slice p (k : List Nat).length c, .slice p' (k' : List Nat).length c'] ∧ Pt W p k ∧ Pt W p' k' ∧ k.length ≤ 9223372036854775807 ∧ k'.length ≤ 9223372036854775807 := by
  obtain ⟨x0, x1, rfl⟩ : ∃ x0 x1, l = [x0, x1] := by
    match l, hl with
    | [x0, x1], _ => exact ⟨x0, x1, rfl⟩
  obtain ⟨xs, m, _, _, _, hlen, hff⟩ := DataW.trod_struct Try.underlying25 h
  have hlen2 : xs.length = 2 := hlen
  have some_at : ∀ j, j < 2 → (xs[j]?).isSome = true := fun j hj => by rw [List.getElem?_eq_getElem (by omega)]; rfl
  obtain ⟨y0, hy0⟩ := Option.isSome_iff_exists.1 (some_at 0 (by omega))
  obtain ⟨y1, hy1⟩ := Option.isSome_iff_exists.1 (some_at 1 (by omega))
  have h0 := hff 0 _ rfl
  have h1 := hff 1 _ rfl
  rw [hy0] at h0
  rw [hy1] at h1
  obtain ⟨p, k, c, rfl, hp, hk⟩ := Bk.key_trod (cz_one rfl cz_key) h0
  obtain ⟨p', k', c', rfl, hp', hk'⟩ := Bk.key_trod (cz_one rfl cz_key) h1
  exact ⟨p, k, c, p', k', c', rfl, hp, hp', hk, hk'⟩
/-- what such a struct holds -/
structure QD where
  a0 : Int
  p1 : Option Addr
  l1 : List Nat
  c1 : Nat
  t2 : ByteArray
  p3 : Option Addr
  l3 : List Nat
  c3 : Nat
  q3 : Option Addr
  h3 : List Nat
  e3 : Nat
  p4 : Option Addr
  l4 : List Int
  c4 : Nat
  a5 : Int
  p6 : Option Addr
  l6 : List Rec
  c6 : Nat
def QD.cells (d : QD) : List Value := [.int .i64 d.a0, .slice d.p1 d.l1.length d.c1, .string d.t2, .slice d.p3 d.l3.length d.c3, .slice d.q3 d.h3.length d.e3, .slice d.p4 d.l4.length d.c4, .int .i64 d.a5, .slice d.p6 d.l6.length d.c6]
structure QD.Ok (w : World) (d : QD) : Prop where
  f0 : (-9223372036854775808 ≤ d.a0 ∧ d.a0 ≤ 9223372036854775807)
  f1 : (Pt w d.p1 d.l1 ∧ d.l1.length ≤ 9223372036854775807)
  f2 : d.t2.size ≤ 9223372036854775807
  f3 : (Pt w d.p3 d.l3 ∧ Pt w d.q3 d.h3 ∧ d.l3.length ≤ 9223372036854775807 ∧ d.h3.length ≤ 9223372036854775807)
  f4 : (Is w d.p4 d.l4 ∧ d.l4.length ≤ 9223372036854775807)
  f5 : (-9223372036854775808 ≤ d.a5 ∧ d.a5 ≤ 9223372036854775807)
  f6 : (Rs (fun _ => False) w d.p6 d.l6 ∧ d.l6.length ≤ 9223372036854775807)
theorem QD.Ok.below {w w' : World} {d : QD} (h : d.Ok w) (hb : Below w.heap.size w w') : d.Ok w' := ⟨h.f0, ⟨h.f1.1.below hb, h.f1.2⟩, h.f2, ⟨h.f3.1.below hb, h.f3.2.1.below hb, h.f3.2.2⟩, ⟨h.f4.1.below hb, h.f4.2⟩, h.f5, ⟨h.f6.1.below hb, h.f6.2⟩⟩
theorem cz_Q : Try.prog.cellsOf 29 = 8 := by kernel_rfl
set_option maxRecDepth 100000 in
set_option maxHeartbeats 1000000 in
theorem q_cells {n : Nat} {l : List Value} {x : DataW H × List MemPlace} (hl : l.length = 8) (hf : DataW.trod enc Try.prog W base sp hd n 29 l = some x) : ∃ d : QD, l = d.cells ∧ d.Ok W := by
  obtain ⟨x0, x1, x2, x3, x4, x5, x6, x7, rfl⟩ : ∃ x0 x1 x2 x3 x4 x5 x6 x7, l = [x0, x1, x2, x3, x4, x5, x6, x7] := by
    match l, hl with
    | [x0, x1, x2, x3, x4, x5, x6, x7], _ => exact ⟨x0, x1, x2, x3, x4, x5, x6, x7, rfl⟩
  obtain ⟨xs, m, _, _, _, hlen, hff⟩ := DataW.trod_struct Try.underlying29 hf
  have hlen2 : xs.length = 7 := hlen
  have some_at : ∀ j, j < 7 → (xs[j]?).isSome = true := fun j hj => by rw [List.getElem?_eq_getElem (by omega)]; rfl
  obtain ⟨y0, hy0⟩ := Option.isSome_iff_exists.1 (some_at 0 (by omega))
  have h0 := hff 0 _ rfl
  rw [hy0] at h0
  have g0 : DataW.trod enc Try.prog W base sp hd m 3 [x0] = some y0 := by rw [← show (([x0, x1, x2, x3, x4, x5, x6, x7] : List Value).drop 0).take (Try.prog.cellsOf 3) = [x0] from cz_one rfl cz_int]; exact h0
  obtain ⟨y1, hy1⟩ := Option.isSome_iff_exists.1 (some_at 1 (by omega))
  have h1 := hff 1 _ rfl
  rw [hy1] at h1
  have g1 : DataW.trod enc Try.prog W base sp hd m 23 [x1] = some y1 := by rw [← show (([x0, x1, x2, x3, x4, x5, x6, x7] : List Value).drop 1).take (Try.prog.cellsOf 23) = [x1] from cz_one rfl cz_key]; exact h1
  obtain ⟨y2, hy2⟩ := Option.isSome_iff_exists.1 (some_at 2 (by omega))
  have h2 := hff 2 _ rfl
  rw [hy2] at h2
  have g2 : DataW.trod enc Try.prog W base sp hd m 9 [x2] = some y2 := by rw [← show (([x0, x1, x2, x3, x4, x5, x6, x7] : List Value).drop 2).take (Try.prog.cellsOf 9) = [x2] from cz_one rfl cz_string]; exact h2
  obtain ⟨y3, hy3⟩ := Option.isSome_iff_exists.1 (some_at 3 (by omega))
  have h3 := hff 3 _ rfl
  rw [hy3] at h3
  have g3 : DataW.trod enc Try.prog W base sp hd m 25 [x3, x4] = some y3 := by rw [← show (([x0, x1, x2, x3, x4, x5, x6, x7] : List Value).drop 3).take (Try.prog.cellsOf 25) = [x3, x4] from cz_two rfl rfl cz_box]; exact h3
  obtain ⟨y4, hy4⟩ := Option.isSome_iff_exists.1 (some_at 4 (by omega))
  have h4 := hff 4 _ rfl
  rw [hy4] at h4
  have g4 : DataW.trod enc Try.prog W base sp hd m 26 [x5] = some y4 := by rw [← show (([x0, x1, x2, x3, x4, x5, x6, x7] : List Value).drop 5).take (Try.prog.cellsOf 26) = [x5] from cz_one rfl cz_ints]; exact h4
  obtain ⟨y5, hy5⟩ := Option.isSome_iff_exists.1 (some_at 5 (by omega))
  have h5 := hff 5 _ rfl
  rw [hy5] at h5
  have g5 : DataW.trod enc Try.prog W base sp hd m 3 [x6] = some y5 := by rw [← show (([x0, x1, x2, x3, x4, x5, x6, x7] : List Value).drop 6).take (Try.prog.cellsOf 3) = [x6] from cz_one rfl cz_int]; exact h5
  obtain ⟨y6, hy6⟩ := Option.isSome_iff_exists.1 (some_at 6 (by omega))
  have h6 := hff 6 _ rfl
  rw [hy6] at h6
  have g6 : DataW.trod enc Try.prog W base sp hd m 27 [x7] = some y6 := by rw [← show (([x0, x1, x2, x3, x4, x5, x6, x7] : List Value).drop 7).take (Try.prog.cellsOf 27) = [x7] from cz_one rfl cz_recs]; exact h6
  obtain ⟨a0, e0, _, wf0⟩ := DataW.trod_int Try.underlying3 g0
  simp only [List.cons.injEq, and_true] at e0
  subst e0
  obtain ⟨p1, l1, c1, rfl, hp1, hk1⟩ := Bk.key_trod rfl g1
  obtain ⟨t2, e2, _, wt2⟩ := DataW.trod_string Try.underlying9 g2
  simp only [List.cons.injEq, and_true] at e2
  subst e2
  obtain ⟨p3, l3, c3, q3, h3', e3, e, hp3, hq3, hk3, hl3⟩ := bz_cells rfl g3
  cases e
  obtain ⟨p4, l4, c4, rfl, hp4, hk4⟩ := ints_trod rfl g4
  obtain ⟨a5, e5, _, wf5⟩ := DataW.trod_int Try.underlying3 g5
  simp only [List.cons.injEq, and_true] at e5
  subst e5
  obtain ⟨p6, l6, c6, rfl, hp6, _, hk6⟩ := recs_trod rfl g6
  exact ⟨⟨a0, p1, l1, c1, t2, p3, l3, c3, q3, h3', e3, p4, l4, c4, a5, p6, l6, c6⟩, rfl, ⟨Bk.wf_i64 wf0, ⟨hp1, hk1⟩, (by unfold maxLen at wt2; show t2.size ≤ 9223372036854775807; omega), ⟨hp3, hq3, hk3, hl3⟩, ⟨hp4, hk4⟩, Bk.wf_i64 wf5, ⟨hp6, (by show l6.length ≤ 9223372036854775807; omega)⟩⟩⟩
/-- a value that is such a struct -/
def QV (w : World) (v : Value) : Prop := ∃ d : QD, v = .agg d.cells.toArray ∧ d.Ok w
set_option maxRecDepth 100000 in
theorem open_Q {v : Value} {d : DataW H} {p : List MemPlace} (hv : Value.okWide Try.prog W .any base 29 v) (h : DataW.Trod enc Try.prog W 0 (fun _ => true) true 29 v d p) : QV W v := by
  obtain ⟨cs, rfl, hsz⟩ := okWide_struct Try.underlying29 hv
  obtain ⟨fuel, hf⟩ := h
  rw [cz_Q] at hsz
  obtain ⟨l⟩ := cs
  obtain ⟨d, rfl, hd⟩ := q_cells (l := l) hsz hf
  exact ⟨d, rfl, hd⟩
end
end Go.Proofs.Ytolnbamdddiifaa.Rq
