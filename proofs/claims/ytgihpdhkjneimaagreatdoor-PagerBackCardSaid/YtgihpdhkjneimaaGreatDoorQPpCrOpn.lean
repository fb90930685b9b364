/- Structs that come in, opened (written by a program of mine). -/
import Derived.Test.YtgihpdhkjneimaaGreatDoorQDkOp0
import Derived.Deep.Slices
import Derived.ProofKit
namespace Go.Proofs.YtgihpdhkjneimaaGreatDoor.Dk
open Go.RowKit
open Go.Lib (hid)
open Go.ChangeShapes Go.WideShapes Go.Joins Go.Deep
section
variable {H : Type} {enc : TypeId × Value → H} {W : World} {base : Nat} {sp : Nat → Bool} {hd : Bool}
theorem cz_Pg_s : Tryz.prog.cellsOf 37 = 1 := by kernel_rfl
theorem cz_int : Tryz.prog.cellsOf 3 = 1 := by kernel_rfl
theorem cz_intc : Tryz.prog.cellsOf 38 = 1 := by kernel_rfl
theorem cz_string : Tryz.prog.cellsOf 9 = 1 := by kernel_rfl
theorem cz_one {l : List Value} {j c : Nat} {x : Value} (hx : l[j]? = some x) (hc : c = 1) : (l.drop j).take c = [x] := by
  subst hc
  obtain ⟨h, e⟩ := List.getElem?_eq_some_iff.1 hx
  rw [List.drop_eq_getElem_cons h, e]; rfl
theorem cz_two {l : List Value} {j c : Nat} {x y : Value} (hx : l[j]? = some x) (hy : l[j + 1]? = some y) (hc : c = 2) : (l.drop j).take c = [x, y] := by
  subst hc
  obtain ⟨h, e⟩ := List.getElem?_eq_some_iff.1 hx
  obtain ⟨h', e'⟩ := List.getElem?_eq_some_iff.1 hy
  rw [List.drop_eq_getElem_cons h, List.drop_eq_getElem_cons h', e, e']; rfl
/-- what such a struct holds -/
structure PgD where
  a0 : Int
  a1 : Int
  t2 : ByteArray
def PgD.cells (d : PgD) : List Value := [.int .i64 d.a0, .int .i64 d.a1, .string d.t2]
structure PgD.Ok (w : World) (d : PgD) : Prop where
  f0 : (-9223372036854775808 ≤ d.a0 ∧ d.a0 ≤ 9223372036854775807)
  f1 : (-9223372036854775808 ≤ d.a1 ∧ d.a1 ≤ 9223372036854775807)
  f2 : d.t2.size ≤ 9223372036854775807
theorem PgD.Ok.below {w w' : World} {d : PgD} (h : d.Ok w) (_ : Below w.heap.size w w') : d.Ok w' := ⟨h.f0, h.f1, h.f2⟩
theorem cz_Pg : Tryz.prog.cellsOf 69 = 3 := by kernel_rfl
set_option maxRecDepth 100000 in
set_option maxHeartbeats 1000000 in
theorem pg_cells {n : Nat} {l : List Value} {x : DataW H × List MemPlace} (hl : l.length = 3) (hf : DataW.trod enc Tryz.prog W base sp hd n 69 l = some x) : ∃ d : PgD, l = d.cells ∧ d.Ok W := by
  obtain ⟨x0, x1, x2, rfl⟩ : ∃ x0 x1 x2, l = [x0, x1, x2] := by
    match l, hl with
    | [x0, x1, x2], _ => exact ⟨x0, x1, x2, rfl⟩
  obtain ⟨xs, m, _, _, _, hlen, hff⟩ := DataW.trod_struct Tryz.underlying69 hf
  have hlen2 : xs.length = 3 := hlen
  have some_at : ∀ j, j < 3 → (xs[j]?).isSome = true := fun j hj => by rw [List.getElem?_eq_getElem (by omega)]; rfl
  obtain ⟨y0, hy0⟩ := Option.isSome_iff_exists.1 (some_at 0 (by omega))
  have h0 := hff 0 _ rfl
  rw [hy0] at h0
  have g0 : DataW.trod enc Tryz.prog W base sp hd m 3 [x0] = some y0 := by rw [← show (([x0, x1, x2] : List Value).drop 0).take (Tryz.prog.cellsOf 3) = [x0] from cz_one rfl cz_int]; exact h0
  obtain ⟨y1, hy1⟩ := Option.isSome_iff_exists.1 (some_at 1 (by omega))
  have h1 := hff 1 _ rfl
  rw [hy1] at h1
  have g1 : DataW.trod enc Tryz.prog W base sp hd m 3 [x1] = some y1 := by rw [← show (([x0, x1, x2] : List Value).drop 1).take (Tryz.prog.cellsOf 3) = [x1] from cz_one rfl cz_int]; exact h1
  obtain ⟨y2, hy2⟩ := Option.isSome_iff_exists.1 (some_at 2 (by omega))
  have h2 := hff 2 _ rfl
  rw [hy2] at h2
  have g2 : DataW.trod enc Tryz.prog W base sp hd m 9 [x2] = some y2 := by rw [← show (([x0, x1, x2] : List Value).drop 2).take (Tryz.prog.cellsOf 9) = [x2] from cz_one rfl cz_string]; exact h2
  obtain ⟨a0, e0, _, wf0⟩ := DataW.trod_int Tryz.underlying3 g0
  simp only [List.cons.injEq, and_true] at e0
  subst e0
  obtain ⟨a1, e1, _, wf1⟩ := DataW.trod_int Tryz.underlying3 g1
  simp only [List.cons.injEq, and_true] at e1
  subst e1
  obtain ⟨t2, e2, _, wt2⟩ := DataW.trod_string Tryz.underlying9 g2
  simp only [List.cons.injEq, and_true] at e2
  subst e2
  exact ⟨⟨a0, a1, t2⟩, rfl, ⟨wf_i64 wf0, wf_i64 wf1, (by unfold maxLen at wt2; show t2.size ≤ 9223372036854775807; omega)⟩⟩
/-- a value that is such a struct -/
def PgV (w : World) (v : Value) : Prop := ∃ d : PgD, v = .agg d.cells.toArray ∧ d.Ok w
set_option maxRecDepth 100000 in
theorem open_Pg {v : Value} {d : DataW H} {p : List MemPlace} (hv : Value.okWide Tryz.prog W .any base 69 v) (h : DataW.Trod enc Tryz.prog W 0 (fun _ => true) true 69 v d p) : PgV W v := by
  obtain ⟨cs, rfl, hsz⟩ := okWide_struct Tryz.underlying69 hv
  obtain ⟨fuel, hf⟩ := h
  rw [cz_Pg] at hsz
  obtain ⟨l⟩ := cs
  obtain ⟨d, rfl, hd⟩ := pg_cells (l := l) hsz hf
  exact ⟨d, rfl, hd⟩
/-- an element of a slice of such structs, from a cell on -/
structure PgAt (w : World) (b o : Nat) (d : PgD) : Prop where
  d0 : w.cell? ⟨b, o, none⟩ = some (.int .i64 d.a0)
  d1 : w.cell? ⟨b, o + 1, none⟩ = some (.int .i64 d.a1)
  d2 : w.cell? ⟨b, o + 2, none⟩ = some (.string d.t2)
  ok : d.Ok w
theorem PgAt.below {w w' : World} {b o : Nat} {d : PgD} (h : PgAt w b o d) (hlt : b < w.heap.size) (hb : Below w.heap.size w w') : PgAt w' b o d := ⟨(hb.cell (p := ⟨b, o, none⟩) hlt).trans h.d0, (hb.cell (p := ⟨b, o + 1, none⟩) hlt).trans h.d1, (hb.cell (p := ⟨b, o + 2, none⟩) hlt).trans h.d2, h.ok.below hb⟩
def IsPgs (w : World) (a : Option Addr) (len : Nat) : Prop :=
  len ≤ maxLen ∧ (len = 0 ∨ ∃ b off, a = some ⟨b, off, none⟩ ∧ b < w.heap.size ∧ ∀ i, i < len → ∃ d, PgAt w b (off + i * 3) d)
theorem IsPgs.below {w w' : World} {a : Option Addr} {len : Nat} (h : IsPgs w a len) (hb : Below w.heap.size w w') : IsPgs w' a len := by
  refine ⟨h.1, ?_⟩
  rcases h.2 with h0 | ⟨b, off, e, hlt, hd⟩
  · exact .inl h0
  · exact .inr ⟨b, off, e, Nat.lt_of_lt_of_le hlt hb.size, fun i hi => by obtain ⟨d, h2⟩ := hd i hi; exact ⟨d, h2.below hlt hb⟩⟩
set_option maxRecDepth 100000 in
set_option maxHeartbeats 1000000 in
theorem pgs_trod {n : Nat} {cs : List Value} {x : DataW H × List MemPlace} {v : Value} (hcs0 : cs = [v]) (hf : DataW.trod enc Tryz.prog W base sp hd n 37 cs = some x) : ∃ a len cap, v = .slice a len cap ∧ IsPgs W a len := by
  rcases open_slice Tryz.underlying37 hf with ⟨hcs, _⟩ | ⟨x, l, c, m, n, D, Pl, hcs, _, hlc, hcm, hm, _, hi⟩
  · rw [hcs] at hcs0
    simp at hcs0
    subst hcs0
    exact ⟨none, 0, 0, rfl, Nat.zero_le _, .inl rfl⟩
  · rw [hcs] at hcs0
    simp at hcs0
    subst hcs0
    refine ⟨_, _, _, rfl, ?_⟩
    by_cases h0 : l = 0
    · exact ⟨by rw [h0]; exact Nat.zero_le _, .inl h0⟩
    · have hml : l ≤ m := by rw [hm]; split <;> omega
      have cell : ∀ i, i < l → ∃ d : PgD, (∀ j y, d.cells[j]? = some y → W.cell? ((x.add (i * 3)).add j) = some y) ∧ d.Ok W := by
        intro i hil
        obtain ⟨cs', hc, ht'⟩ := hi i (by omega)
        rw [cz_Pg] at hc
        obtain ⟨_, hl6, hat⟩ := World.cells?_some hc
        obtain ⟨d, rfl, rest⟩ := pg_cells hl6 ht'
        refine ⟨d, fun j y hy => ?_, rest⟩
        rw [hat j (by have := (List.getElem?_eq_some_iff.1 hy).1; simpa [PgD.cells] using this), hy]
      obtain ⟨blk, off, spot⟩ := x
      obtain ⟨d0, hc0, _⟩ := cell 0 (by omega)
      have hfirst := hc0 0 _ rfl
      have hspot : spot = none := by simpa [Addr.add] using World.cell?_spot hfirst
      subst hspot
      have hadd : ∀ o i, (⟨blk, o, none⟩ : Addr).add i = ⟨blk, o + i, none⟩ := fun o i => by unfold Addr.add; split <;> simp_all
      refine ⟨by unfold maxLen at hcm ⊢; omega, .inr ⟨blk, off, rfl, ?_, fun i hil => ?_⟩⟩
      · rw [hadd, hadd] at hfirst; exact block_lt_of_cell hfirst
      · obtain ⟨d, hc, g⟩ := cell i hil
        have e0 := hc 0 _ rfl
        have e1 := hc 1 _ rfl
        have e2 := hc 2 _ rfl
        rw [hadd, hadd] at e0 e1 e2
        exact ⟨d, e0, e1, e2, g⟩
set_option maxRecDepth 100000 in
theorem open_Pgs {v : Value} {d : DataW H} {p : List MemPlace} (hv : Value.okWide Tryz.prog W .any base 37 v) (h : DataW.Trod enc Tryz.prog W 0 (fun _ => true) true 37 v d p) : ∃ a len cap, v = .slice a len cap ∧ IsPgs W a len := by
  obtain ⟨a, len, cap, rfl⟩ := okWide_slice Tryz.underlying37 hv
  obtain ⟨fuel, hf⟩ := h
  exact pgs_trod (cs := (Value.slice a len cap).cells.toList) (by simp [Value.cells]) hf
/-- what such a struct holds -/
structure CrD where
  a0 : Int
  a1 : Int
  p2 : Option Addr
  n2 : Nat
  c2 : Nat
  p3 : Option Addr
  n3 : Nat
  c3 : Nat
  a4 : Int
  p5 : Option Addr
  l5 : List Int
  c5 : Nat
  a6 : Int
  a7 : Int
  a8 : Int
  p9 : Option Addr
  l9 : List Int
  c9 : Nat
  a10 : Int
def CrD.cells (d : CrD) : List Value := [.int .i64 d.a0, .int .i64 d.a1, .slice d.p2 d.n2 d.c2, .slice d.p3 d.n3 d.c3, .int .i64 d.a4, .slice d.p5 d.l5.length d.c5, .int .i64 d.a6, .int .i64 d.a7, .int .i64 d.a8, .slice d.p9 d.l9.length d.c9, .int .i64 d.a10]
structure CrD.Ok (w : World) (d : CrD) : Prop where
  f0 : (-9223372036854775808 ≤ d.a0 ∧ d.a0 ≤ 9223372036854775807)
  f1 : (-9223372036854775808 ≤ d.a1 ∧ d.a1 ≤ 9223372036854775807)
  f2 : IsPgs w d.p2 d.n2
  f3 : IsPgs w d.p3 d.n3
  f4 : (-9223372036854775808 ≤ d.a4 ∧ d.a4 ≤ 9223372036854775807)
  f5 : (Is w d.p5 d.l5 ∧ d.l5.length ≤ 9223372036854775807 ∧ d.l5.length ≤ d.c5)
  f6 : (-9223372036854775808 ≤ d.a6 ∧ d.a6 ≤ 9223372036854775807)
  f7 : (-9223372036854775808 ≤ d.a7 ∧ d.a7 ≤ 9223372036854775807)
  f8 : (-9223372036854775808 ≤ d.a8 ∧ d.a8 ≤ 9223372036854775807)
  f9 : (Is w d.p9 d.l9 ∧ d.l9.length ≤ 9223372036854775807 ∧ d.l9.length ≤ d.c9)
  f10 : (-9223372036854775808 ≤ d.a10 ∧ d.a10 ≤ 9223372036854775807)
theorem CrD.Ok.below {w w' : World} {d : CrD} (h : d.Ok w) (hb : Below w.heap.size w w') : d.Ok w' := ⟨h.f0, h.f1, h.f2.below hb, h.f3.below hb, h.f4, ⟨h.f5.1.below hb, h.f5.2⟩, h.f6, h.f7, h.f8, ⟨h.f9.1.below hb, h.f9.2⟩, h.f10⟩
theorem cz_Cr : Tryz.prog.cellsOf 63 = 11 := by kernel_rfl
set_option maxRecDepth 100000 in
set_option maxHeartbeats 1000000 in
theorem cr_cells {n : Nat} {l : List Value} {x : DataW H × List MemPlace} (hl : l.length = 11) (hf : DataW.trod enc Tryz.prog W base sp hd n 63 l = some x) : ∃ d : CrD, l = d.cells ∧ d.Ok W := by
  obtain ⟨x0, x1, x2, x3, x4, x5, x6, x7, x8, x9, x10, rfl⟩ : ∃ x0 x1 x2 x3 x4 x5 x6 x7 x8 x9 x10, l = [x0, x1, x2, x3, x4, x5, x6, x7, x8, x9, x10] := by
    match l, hl with
    | [x0, x1, x2, x3, x4, x5, x6, x7, x8, x9, x10], _ => exact ⟨x0, x1, x2, x3, x4, x5, x6, x7, x8, x9, x10, rfl⟩
  obtain ⟨xs, m, _, _, _, hlen, hff⟩ := DataW.trod_struct Tryz.underlying63 hf
  have hlen2 : xs.length = 11 := hlen
  have some_at : ∀ j, j < 11 → (xs[j]?).isSome = true := fun j hj => by rw [List.getElem?_eq_getElem (by omega)]; rfl
  obtain ⟨y0, hy0⟩ := Option.isSome_iff_exists.1 (some_at 0 (by omega))
  have h0 := hff 0 _ rfl
  rw [hy0] at h0
  have g0 : DataW.trod enc Tryz.prog W base sp hd m 3 [x0] = some y0 := by rw [← show (([x0, x1, x2, x3, x4, x5, x6, x7, x8, x9, x10] : List Value).drop 0).take (Tryz.prog.cellsOf 3) = [x0] from cz_one rfl cz_int]; exact h0
  obtain ⟨y1, hy1⟩ := Option.isSome_iff_exists.1 (some_at 1 (by omega))
  have h1 := hff 1 _ rfl
  rw [hy1] at h1
  have g1 : DataW.trod enc Tryz.prog W base sp hd m 3 [x1] = some y1 := by rw [← show (([x0, x1, x2, x3, x4, x5, x6, x7, x8, x9, x10] : List Value).drop 1).take (Tryz.prog.cellsOf 3) = [x1] from cz_one rfl cz_int]; exact h1
  obtain ⟨y2, hy2⟩ := Option.isSome_iff_exists.1 (some_at 2 (by omega))
  have h2 := hff 2 _ rfl
  rw [hy2] at h2
  have g2 : DataW.trod enc Tryz.prog W base sp hd m 37 [x2] = some y2 := by rw [← show (([x0, x1, x2, x3, x4, x5, x6, x7, x8, x9, x10] : List Value).drop 2).take (Tryz.prog.cellsOf 37) = [x2] from cz_one rfl cz_Pg_s]; exact h2
  obtain ⟨y3, hy3⟩ := Option.isSome_iff_exists.1 (some_at 3 (by omega))
  have h3 := hff 3 _ rfl
  rw [hy3] at h3
  have g3 : DataW.trod enc Tryz.prog W base sp hd m 37 [x3] = some y3 := by rw [← show (([x0, x1, x2, x3, x4, x5, x6, x7, x8, x9, x10] : List Value).drop 3).take (Tryz.prog.cellsOf 37) = [x3] from cz_one rfl cz_Pg_s]; exact h3
  obtain ⟨y4, hy4⟩ := Option.isSome_iff_exists.1 (some_at 4 (by omega))
  have h4 := hff 4 _ rfl
  rw [hy4] at h4
  have g4 : DataW.trod enc Tryz.prog W base sp hd m 3 [x4] = some y4 := by rw [← show (([x0, x1, x2, x3, x4, x5, x6, x7, x8, x9, x10] : List Value).drop 4).take (Tryz.prog.cellsOf 3) = [x4] from cz_one rfl cz_int]; exact h4
  obtain ⟨y5, hy5⟩ := Option.isSome_iff_exists.1 (some_at 5 (by omega))
  have h5 := hff 5 _ rfl
  rw [hy5] at h5
  have g5 : DataW.trod enc Tryz.prog W base sp hd m 38 [x5] = some y5 := by rw [← show (([x0, x1, x2, x3, x4, x5, x6, x7, x8, x9, x10] : List Value).drop 5).take (Tryz.prog.cellsOf 38) = [x5] from cz_one rfl cz_intc]; exact h5
  obtain ⟨y6, hy6⟩ := Option.isSome_iff_exists.1 (some_at 6 (by omega))
  have h6 := hff 6 _ rfl
  rw [hy6] at h6
  have g6 : DataW.trod enc Tryz.prog W base sp hd m 3 [x6] = some y6 := by rw [← show (([x0, x1, x2, x3, x4, x5, x6, x7, x8, x9, x10] : List Value).drop 6).take (Tryz.prog.cellsOf 3) = [x6] from cz_one rfl cz_int]; exact h6
  obtain ⟨y7, hy7⟩ := Option.isSome_iff_exists.1 (some_at 7 (by omega))
  have h7 := hff 7 _ rfl
  rw [hy7] at h7
  have g7 : DataW.trod enc Tryz.prog W base sp hd m 3 [x7] = some y7 := by rw [← show (([x0, x1, x2, x3, x4, x5, x6, x7, x8, x9, x10] : List Value).drop 7).take (Tryz.prog.cellsOf 3) = [x7] from cz_one rfl cz_int]; exact h7
  obtain ⟨y8, hy8⟩ := Option.isSome_iff_exists.1 (some_at 8 (by omega))
  have h8 := hff 8 _ rfl
  rw [hy8] at h8
  have g8 : DataW.trod enc Tryz.prog W base sp hd m 3 [x8] = some y8 := by rw [← show (([x0, x1, x2, x3, x4, x5, x6, x7, x8, x9, x10] : List Value).drop 8).take (Tryz.prog.cellsOf 3) = [x8] from cz_one rfl cz_int]; exact h8
  obtain ⟨y9, hy9⟩ := Option.isSome_iff_exists.1 (some_at 9 (by omega))
  have h9 := hff 9 _ rfl
  rw [hy9] at h9
  have g9 : DataW.trod enc Tryz.prog W base sp hd m 38 [x9] = some y9 := by rw [← show (([x0, x1, x2, x3, x4, x5, x6, x7, x8, x9, x10] : List Value).drop 9).take (Tryz.prog.cellsOf 38) = [x9] from cz_one rfl cz_intc]; exact h9
  obtain ⟨y10, hy10⟩ := Option.isSome_iff_exists.1 (some_at 10 (by omega))
  have h10 := hff 10 _ rfl
  rw [hy10] at h10
  have g10 : DataW.trod enc Tryz.prog W base sp hd m 3 [x10] = some y10 := by rw [← show (([x0, x1, x2, x3, x4, x5, x6, x7, x8, x9, x10] : List Value).drop 10).take (Tryz.prog.cellsOf 3) = [x10] from cz_one rfl cz_int]; exact h10
  obtain ⟨a0, e0, _, wf0⟩ := DataW.trod_int Tryz.underlying3 g0
  simp only [List.cons.injEq, and_true] at e0
  subst e0
  obtain ⟨a1, e1, _, wf1⟩ := DataW.trod_int Tryz.underlying3 g1
  simp only [List.cons.injEq, and_true] at e1
  subst e1
  obtain ⟨p2, n2, c2, rfl, hp2⟩ := pgs_trod rfl g2
  obtain ⟨p3, n3, c3, rfl, hp3⟩ := pgs_trod rfl g3
  obtain ⟨a4, e4, _, wf4⟩ := DataW.trod_int Tryz.underlying3 g4
  simp only [List.cons.injEq, and_true] at e4
  subst e4
  obtain ⟨p5, l5, c5, rfl, hp5, hk5, hc5⟩ := ints_trod rfl g5
  obtain ⟨a6, e6, _, wf6⟩ := DataW.trod_int Tryz.underlying3 g6
  simp only [List.cons.injEq, and_true] at e6
  subst e6
  obtain ⟨a7, e7, _, wf7⟩ := DataW.trod_int Tryz.underlying3 g7
  simp only [List.cons.injEq, and_true] at e7
  subst e7
  obtain ⟨a8, e8, _, wf8⟩ := DataW.trod_int Tryz.underlying3 g8
  simp only [List.cons.injEq, and_true] at e8
  subst e8
  obtain ⟨p9, l9, c9, rfl, hp9, hk9, hc9⟩ := ints_trod rfl g9
  obtain ⟨a10, e10, _, wf10⟩ := DataW.trod_int Tryz.underlying3 g10
  simp only [List.cons.injEq, and_true] at e10
  subst e10
  exact ⟨⟨a0, a1, p2, n2, c2, p3, n3, c3, a4, p5, l5, c5, a6, a7, a8, p9, l9, c9, a10⟩, rfl, ⟨wf_i64 wf0, wf_i64 wf1, hp2, hp3, wf_i64 wf4, ⟨hp5, hk5, hc5⟩, wf_i64 wf6, wf_i64 wf7, wf_i64 wf8, ⟨hp9, hk9, hc9⟩, wf_i64 wf10⟩⟩
/-- a value that is such a struct -/
def CrV (w : World) (v : Value) : Prop := ∃ d : CrD, v = .agg d.cells.toArray ∧ d.Ok w
set_option maxRecDepth 100000 in
theorem open_Cr {v : Value} {d : DataW H} {p : List MemPlace} (hv : Value.okWide Tryz.prog W .any base 63 v) (h : DataW.Trod enc Tryz.prog W 0 (fun _ => true) true 63 v d p) : CrV W v := by
  obtain ⟨cs, rfl, hsz⟩ := okWide_struct Tryz.underlying63 hv
  obtain ⟨fuel, hf⟩ := h
  rw [cz_Cr] at hsz
  obtain ⟨l⟩ := cs
  obtain ⟨d, rfl, hd⟩ := cr_cells (l := l) hsz hf
  exact ⟨d, rfl, hd⟩
end
end Go.Proofs.YtgihpdhkjneimaaGreatDoor.Dk
