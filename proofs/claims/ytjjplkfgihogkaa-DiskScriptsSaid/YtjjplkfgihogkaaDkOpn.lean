/- Structs that come in, opened (written by a program of mine). -/
import Derived.Test.YtjjplkfgihogkaaDkOp0
import Derived.Deep.Slices
import Derived.ProofKit
namespace Go.Proofs.Ytjjplkfgihogkaa.Dk
open Go.RowKit
open Go.Lib (hid)
open Go.ChangeShapes Go.WideShapes Go.Joins Go.Deep
section
variable {H : Type} {enc : TypeId × Value → H} {W : World} {base : Nat} {sp : Nat → Bool} {hd : Bool}
theorem cz_int : Try.prog.cellsOf 3 = 1 := by kernel_rfl
theorem cz_intc : Try.prog.cellsOf 31 = 1 := by kernel_rfl
theorem cz_u8 : Try.prog.cellsOf 5 = 1 := by kernel_rfl
theorem cz_one {l : List Value} {j c : Nat} {x : Value} (hx : l[j]? = some x) (hc : c = 1) : (l.drop j).take c = [x] := by
  subst hc
  obtain ⟨h, e⟩ := List.getElem?_eq_some_iff.1 hx
  rw [List.drop_eq_getElem_cons h, e]; rfl
theorem cz_two {l : List Value} {j c : Nat} {x y : Value} (hx : l[j]? = some x) (hy : l[j + 1]? = some y) (hc : c = 2) : (l.drop j).take c = [x, y] := by
  subst hc
  obtain ⟨h, e⟩ := List.getElem?_eq_some_iff.1 hx
  obtain ⟨h', e'⟩ := List.getElem?_eq_some_iff.1 hy
  rw [List.drop_eq_getElem_cons h, List.drop_eq_getElem_cons h', e, e']; rfl
/-- what such a struct holds -/
structure OpD where
  a0 : Int
  a1 : Int
  a2 : Nat
  p3 : Option Addr
  l3 : List Int
  c3 : Nat
  a4 : Int
  a5 : Int
def OpD.cells (d : OpD) : List Value := [.int .i64 d.a0, .int .i64 d.a1, .int .u8 (d.a2 : Int), .slice d.p3 d.l3.length d.c3, .int .i64 d.a4, .int .i64 d.a5]
structure OpD.Ok (w : World) (d : OpD) : Prop where
  f0 : (-9223372036854775808 ≤ d.a0 ∧ d.a0 ≤ 9223372036854775807)
  f1 : (-9223372036854775808 ≤ d.a1 ∧ d.a1 ≤ 9223372036854775807)
  f2 : d.a2 < 256
  f3 : (Is w d.p3 d.l3 ∧ d.l3.length ≤ 9223372036854775807 ∧ d.l3.length ≤ d.c3)
  f4 : (-9223372036854775808 ≤ d.a4 ∧ d.a4 ≤ 9223372036854775807)
  f5 : (-9223372036854775808 ≤ d.a5 ∧ d.a5 ≤ 9223372036854775807)
theorem OpD.Ok.below {w w' : World} {d : OpD} (h : d.Ok w) (hb : Below w.heap.size w w') : d.Ok w' := ⟨h.f0, h.f1, h.f2, ⟨h.f3.1.below hb, h.f3.2⟩, h.f4, h.f5⟩
theorem cz_Op : Try.prog.cellsOf 33 = 6 := by kernel_rfl
set_option maxRecDepth 100000 in
set_option maxHeartbeats 1000000 in
theorem op_cells {n : Nat} {l : List Value} {x : DataW H × List MemPlace} (hl : l.length = 6) (hf : DataW.trod enc Try.prog W base sp hd n 33 l = some x) : ∃ d : OpD, l = d.cells ∧ d.Ok W := by
  obtain ⟨x0, x1, x2, x3, x4, x5, rfl⟩ : ∃ x0 x1 x2 x3 x4 x5, l = [x0, x1, x2, x3, x4, x5] := by
    match l, hl with
    | [x0, x1, x2, x3, x4, x5], _ => exact ⟨x0, x1, x2, x3, x4, x5, rfl⟩
  obtain ⟨xs, m, _, _, _, hlen, hff⟩ := DataW.trod_struct Try.underlying33 hf
  have hlen2 : xs.length = 6 := hlen
  have some_at : ∀ j, j < 6 → (xs[j]?).isSome = true := fun j hj => by rw [List.getElem?_eq_getElem (by omega)]; rfl
  obtain ⟨y0, hy0⟩ := Option.isSome_iff_exists.1 (some_at 0 (by omega))
  have h0 := hff 0 _ rfl
  rw [hy0] at h0
  have g0 : DataW.trod enc Try.prog W base sp hd m 3 [x0] = some y0 := by rw [← show (([x0, x1, x2, x3, x4, x5] : List Value).drop 0).take (Try.prog.cellsOf 3) = [x0] from cz_one rfl cz_int]; exact h0
  obtain ⟨y1, hy1⟩ := Option.isSome_iff_exists.1 (some_at 1 (by omega))
  have h1 := hff 1 _ rfl
  rw [hy1] at h1
  have g1 : DataW.trod enc Try.prog W base sp hd m 3 [x1] = some y1 := by rw [← show (([x0, x1, x2, x3, x4, x5] : List Value).drop 1).take (Try.prog.cellsOf 3) = [x1] from cz_one rfl cz_int]; exact h1
  obtain ⟨y2, hy2⟩ := Option.isSome_iff_exists.1 (some_at 2 (by omega))
  have h2 := hff 2 _ rfl
  rw [hy2] at h2
  have g2 : DataW.trod enc Try.prog W base sp hd m 5 [x2] = some y2 := by rw [← show (([x0, x1, x2, x3, x4, x5] : List Value).drop 2).take (Try.prog.cellsOf 5) = [x2] from cz_one rfl cz_u8]; exact h2
  obtain ⟨y3, hy3⟩ := Option.isSome_iff_exists.1 (some_at 3 (by omega))
  have h3 := hff 3 _ rfl
  rw [hy3] at h3
  have g3 : DataW.trod enc Try.prog W base sp hd m 31 [x3] = some y3 := by rw [← show (([x0, x1, x2, x3, x4, x5] : List Value).drop 3).take (Try.prog.cellsOf 31) = [x3] from cz_one rfl cz_intc]; exact h3
  obtain ⟨y4, hy4⟩ := Option.isSome_iff_exists.1 (some_at 4 (by omega))
  have h4 := hff 4 _ rfl
  rw [hy4] at h4
  have g4 : DataW.trod enc Try.prog W base sp hd m 3 [x4] = some y4 := by rw [← show (([x0, x1, x2, x3, x4, x5] : List Value).drop 4).take (Try.prog.cellsOf 3) = [x4] from cz_one rfl cz_int]; exact h4
  obtain ⟨y5, hy5⟩ := Option.isSome_iff_exists.1 (some_at 5 (by omega))
  have h5 := hff 5 _ rfl
  rw [hy5] at h5
  have g5 : DataW.trod enc Try.prog W base sp hd m 3 [x5] = some y5 := by rw [← show (([x0, x1, x2, x3, x4, x5] : List Value).drop 5).take (Try.prog.cellsOf 3) = [x5] from cz_one rfl cz_int]; exact h5
  obtain ⟨a0, e0, _, wf0⟩ := DataW.trod_int Try.underlying3 g0
  simp only [List.cons.injEq, and_true] at e0
  subst e0
  obtain ⟨a1, e1, _, wf1⟩ := DataW.trod_int Try.underlying3 g1
  simp only [List.cons.injEq, and_true] at e1
  subst e1
  obtain ⟨a2, e2, _, wf2⟩ := DataW.trod_int Try.underlying5 g2
  simp only [List.cons.injEq, and_true] at e2
  subst e2
  obtain ⟨a2, rfl⟩ : ∃ n : Nat, a2 = (n : Int) := ⟨a2.toNat, by have := wf_u8 wf2; omega⟩
  obtain ⟨p3, l3, c3, rfl, hp3, hk3, hc3⟩ := ints_trod rfl g3
  obtain ⟨a4, e4, _, wf4⟩ := DataW.trod_int Try.underlying3 g4
  simp only [List.cons.injEq, and_true] at e4
  subst e4
  obtain ⟨a5, e5, _, wf5⟩ := DataW.trod_int Try.underlying3 g5
  simp only [List.cons.injEq, and_true] at e5
  subst e5
  exact ⟨⟨a0, a1, a2, p3, l3, c3, a4, a5⟩, rfl, ⟨wf_i64 wf0, wf_i64 wf1, (by have := wf_u8 wf2; show a2 < 256; omega), ⟨hp3, hk3, hc3⟩, wf_i64 wf4, wf_i64 wf5⟩⟩
/-- a value that is such a struct -/
def OpV (w : World) (v : Value) : Prop := ∃ d : OpD, v = .agg d.cells.toArray ∧ d.Ok w
set_option maxRecDepth 100000 in
theorem open_Op {v : Value} {d : DataW H} {p : List MemPlace} (hv : Value.okWide Try.prog W .any base 33 v) (h : DataW.Trod enc Try.prog W 0 (fun _ => true) true 33 v d p) : OpV W v := by
  obtain ⟨cs, rfl, hsz⟩ := okWide_struct Try.underlying33 hv
  obtain ⟨fuel, hf⟩ := h
  rw [cz_Op] at hsz
  obtain ⟨l⟩ := cs
  obtain ⟨d, rfl, hd⟩ := op_cells (l := l) hsz hf
  exact ⟨d, rfl, hd⟩
/-- an element of a slice of such structs, from a cell on -/
structure OpAt (w : World) (b o : Nat) (d : OpD) : Prop where
  d0 : w.cell? ⟨b, o, none⟩ = some (.int .i64 d.a0)
  d1 : w.cell? ⟨b, o + 1, none⟩ = some (.int .i64 d.a1)
  d2 : w.cell? ⟨b, o + 2, none⟩ = some (.int .u8 (d.a2 : Int))
  d3 : w.cell? ⟨b, o + 3, none⟩ = some (.slice d.p3 d.l3.length d.c3)
  d4 : w.cell? ⟨b, o + 4, none⟩ = some (.int .i64 d.a4)
  d5 : w.cell? ⟨b, o + 5, none⟩ = some (.int .i64 d.a5)
  ok : d.Ok w
theorem OpAt.below {w w' : World} {b o : Nat} {d : OpD} (h : OpAt w b o d) (hlt : b < w.heap.size) (hb : Below w.heap.size w w') : OpAt w' b o d := ⟨(hb.cell (p := ⟨b, o, none⟩) hlt).trans h.d0, (hb.cell (p := ⟨b, o + 1, none⟩) hlt).trans h.d1, (hb.cell (p := ⟨b, o + 2, none⟩) hlt).trans h.d2, (hb.cell (p := ⟨b, o + 3, none⟩) hlt).trans h.d3, (hb.cell (p := ⟨b, o + 4, none⟩) hlt).trans h.d4, (hb.cell (p := ⟨b, o + 5, none⟩) hlt).trans h.d5, h.ok.below hb⟩
def IsOps (w : World) (a : Option Addr) (len : Nat) : Prop :=
  len ≤ maxLen ∧ (len = 0 ∨ ∃ b off, a = some ⟨b, off, none⟩ ∧ b < w.heap.size ∧ ∀ i, i < len → ∃ d, OpAt w b (off + i * 6) d)
theorem IsOps.below {w w' : World} {a : Option Addr} {len : Nat} (h : IsOps w a len) (hb : Below w.heap.size w w') : IsOps w' a len := by
  refine ⟨h.1, ?_⟩
  rcases h.2 with h0 | ⟨b, off, e, hlt, hd⟩
  · exact .inl h0
  · exact .inr ⟨b, off, e, Nat.lt_of_lt_of_le hlt hb.size, fun i hi => by obtain ⟨d, h2⟩ := hd i hi; exact ⟨d, h2.below hlt hb⟩⟩
set_option maxRecDepth 100000 in
set_option maxHeartbeats 1000000 in
theorem ops_trod {n : Nat} {cs : List Value} {x : DataW H × List MemPlace} {v : Value} (hcs0 : cs = [v]) (hf : DataW.trod enc Try.prog W base sp hd n 22 cs = some x) : ∃ a len cap, v = .slice a len cap ∧ IsOps W a len := by
  rcases open_slice Try.underlying22 hf with ⟨hcs, _⟩ | ⟨x, l, c, m, n, D, Pl, hcs, _, hlc, hcm, hm, _, hi⟩
  · rw [hcs] at hcs0
    simp at hcs0
    subst hcs0
    exact ⟨none, 0, 0, rfl, Nat.zero_le _, .inl rfl⟩
  · rw [hcs] at hcs0
    simp at hcs0
    subst hcs0
    refine ⟨_, _, _, rfl, ?_⟩
    by_cases h0 : l = 0
    · exact ⟨by rw [h0]; exact Nat.zero_le _, .inl h0⟩
    · have hml : l ≤ m := by rw [hm]; split <;> omega
      have cell : ∀ i, i < l → ∃ d : OpD, (∀ j y, d.cells[j]? = some y → W.cell? ((x.add (i * 6)).add j) = some y) ∧ d.Ok W := by
        intro i hil
        obtain ⟨cs', hc, ht'⟩ := hi i (by omega)
        rw [cz_Op] at hc
        obtain ⟨_, hl6, hat⟩ := World.cells?_some hc
        obtain ⟨d, rfl, rest⟩ := op_cells hl6 ht'
        refine ⟨d, fun j y hy => ?_, rest⟩
        rw [hat j (by have := (List.getElem?_eq_some_iff.1 hy).1; simpa [OpD.cells] using this), hy]
      obtain ⟨blk, off, spot⟩ := x
      obtain ⟨d0, hc0, _⟩ := cell 0 (by omega)
      have hfirst := hc0 0 _ rfl
      have hspot : spot = none := by simpa [Addr.add] using World.cell?_spot hfirst
      subst hspot
      have hadd : ∀ o i, (⟨blk, o, none⟩ : Addr).add i = ⟨blk, o + i, none⟩ := fun o i => by unfold Addr.add; split <;> simp_all
      refine ⟨by unfold maxLen at hcm ⊢; omega, .inr ⟨blk, off, rfl, ?_, fun i hil => ?_⟩⟩
      · rw [hadd, hadd] at hfirst; exact block_lt_of_cell hfirst
      · obtain ⟨d, hc, g⟩ := cell i hil
        have e0 := hc 0 _ rfl
        have e1 := hc 1 _ rfl
        have e2 := hc 2 _ rfl
        have e3 := hc 3 _ rfl
        have e4 := hc 4 _ rfl
        have e5 := hc 5 _ rfl
        rw [hadd, hadd] at e0 e1 e2 e3 e4 e5
        exact ⟨d, e0, e1, e2, e3, e4, e5, g⟩
set_option maxRecDepth 100000 in
theorem open_Ops {v : Value} {d : DataW H} {p : List MemPlace} (hv : Value.okWide Try.prog W .any base 22 v) (h : DataW.Trod enc Try.prog W 0 (fun _ => true) true 22 v d p) : ∃ a len cap, v = .slice a len cap ∧ IsOps W a len := by
  obtain ⟨a, len, cap, rfl⟩ := okWide_slice Try.underlying22 hv
  obtain ⟨fuel, hf⟩ := h
  exact ops_trod (cs := (Value.slice a len cap).cells.toList) (by simp [Value.cells]) hf
end
end Go.Proofs.Ytjjplkfgihogkaa.Dk
