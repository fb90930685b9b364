/- Structs that come in, opened (written by a program of mine). -/
import Derived.Test.YtigaddpjmgncmaaDoorEnOp0
import Derived.Deep.Slices
import Derived.ProofKit
namespace Go.Proofs.YtigaddpjmgncmaaDoor.En
open Go.RowKit
open Go.Lib (hid)
open Go.ChangeShapes Go.WideShapes Go.Joins Go.Deep
section
variable {H : Type} {enc : TypeId × Value → H} {W : World} {base : Nat} {sp : Nat → Bool} {hd : Bool}
theorem cz_Pg_s : Tryd.prog.cellsOf 27 = 1 := by kernel_rfl
theorem cz_int : Tryd.prog.cellsOf 3 = 1 := by kernel_rfl
theorem cz_page : Tryd.prog.cellsOf 23 = 3 := by kernel_rfl
theorem cz_string : Tryd.prog.cellsOf 9 = 1 := by kernel_rfl
theorem cz_u32 : Tryd.prog.cellsOf 24 = 1 := by kernel_rfl
theorem cz_one {l : List Value} {j c : Nat} {x : Value} (hx : l[j]? = some x) (hc : c = 1) : (l.drop j).take c = [x] := by
  subst hc
  obtain ⟨h, e⟩ := List.getElem?_eq_some_iff.1 hx
  rw [List.drop_eq_getElem_cons h, e]; rfl
theorem cz_two {l : List Value} {j c : Nat} {x y : Value} (hx : l[j]? = some x) (hy : l[j + 1]? = some y) (hc : c = 2) : (l.drop j).take c = [x, y] := by
  subst hc
  obtain ⟨h, e⟩ := List.getElem?_eq_some_iff.1 hx
  obtain ⟨h', e'⟩ := List.getElem?_eq_some_iff.1 hy
  rw [List.drop_eq_getElem_cons h, List.drop_eq_getElem_cons h', e, e']; rfl
theorem cz_three {l : List Value} {j c : Nat} {x y z : Value} (hx : l[j]? = some x) (hy : l[j + 1]? = some y) (hz : l[j + 2]? = some z) (hc : c = 3) : (l.drop j).take c = [x, y, z] := by
  subst hc
  obtain ⟨h, e⟩ := List.getElem?_eq_some_iff.1 hx
  obtain ⟨h', e'⟩ := List.getElem?_eq_some_iff.1 hy
  obtain ⟨h'', e''⟩ := List.getElem?_eq_some_iff.1 hz
  rw [List.drop_eq_getElem_cons h, List.drop_eq_getElem_cons h', List.drop_eq_getElem_cons h'', e, e', e'']; rfl
set_option maxRecDepth 100000 in
theorem pz_cells {n : Nat} {l : List Value} {x : DataW H × List MemPlace} (hl : l.length = 3) (h : DataW.trod enc Tryd.prog W base sp hd n 23 l = some x) :
    ∃ (k m : Int) (t : ByteArray), l = [.int .i64 k, .int .i64 m, .string t] ∧ (-9223372036854775808 ≤ k ∧ k ≤ 9223372036854775807) ∧ (-9223372036854775808 ≤ m ∧ m ≤ 9223372036854775807) ∧ t.size ≤ 9223372036854775807 := by
  obtain ⟨x0, x1, x2, rfl⟩ : ∃ x0 x1 x2, l = [x0, x1, x2] := by
    match l, hl with
    | [x0, x1, x2], _ => exact ⟨x0, x1, x2, rfl⟩
  obtain ⟨xs, m, _, _, _, hlen, hff⟩ := DataW.trod_struct Tryd.underlying23 h
  have hlen2 : xs.length = 3 := hlen
  have some_at : ∀ j, j < 3 → (xs[j]?).isSome = true := fun j hj => by rw [List.getElem?_eq_getElem (by omega)]; rfl
  obtain ⟨y0, hy0⟩ := Option.isSome_iff_exists.1 (some_at 0 (by omega))
  obtain ⟨y1, hy1⟩ := Option.isSome_iff_exists.1 (some_at 1 (by omega))
  obtain ⟨y2, hy2⟩ := Option.isSome_iff_exists.1 (some_at 2 (by omega))
  have h0 := hff 0 _ rfl
  have h1 := hff 1 _ rfl
  have h2 := hff 2 _ rfl
  rw [hy0] at h0
  rw [hy1] at h1
  rw [hy2] at h2
  have g0 : DataW.trod enc Tryd.prog W base sp hd m 3 [x0] = some y0 := by rw [← show (([x0, x1, x2] : List Value).drop 0).take (Tryd.prog.cellsOf 3) = [x0] from cz_one rfl cz_int]; exact h0
  have g1 : DataW.trod enc Tryd.prog W base sp hd m 3 [x1] = some y1 := by rw [← show (([x0, x1, x2] : List Value).drop 1).take (Tryd.prog.cellsOf 3) = [x1] from cz_one rfl cz_int]; exact h1
  have g2 : DataW.trod enc Tryd.prog W base sp hd m 9 [x2] = some y2 := by rw [← show (([x0, x1, x2] : List Value).drop 2).take (Tryd.prog.cellsOf 9) = [x2] from cz_one rfl cz_string]; exact h2
  obtain ⟨a0, e0, _, wf0⟩ := DataW.trod_int Tryd.underlying3 g0
  obtain ⟨a1, e1, _, wf1⟩ := DataW.trod_int Tryd.underlying3 g1
  obtain ⟨a2, e2, _, wf2⟩ := DataW.trod_string Tryd.underlying9 g2
  simp only [List.cons.injEq, and_true] at e0 e1 e2
  subst e0; subst e1; subst e2
  exact ⟨a0, a1, a2, rfl, wf_i64 wf0, wf_i64 wf1, (by unfold maxLen at wf2; omega)⟩
/-- what such a struct holds -/
structure PgD where
  a0 : Int
  a1 : Int
  t2 : ByteArray
def PgD.cells (d : PgD) : List Value := [.int .i64 d.a0, .int .i64 d.a1, .string d.t2]
structure PgD.Ok (w : World) (d : PgD) : Prop where
  f0 : (-9223372036854775808 ≤ d.a0 ∧ d.a0 ≤ 9223372036854775807)
  f1 : (-9223372036854775808 ≤ d.a1 ∧ d.a1 ≤ 9223372036854775807)
  f2 : d.t2.size ≤ 9223372036854775807
theorem PgD.Ok.below {w w' : World} {d : PgD} (h : d.Ok w) (_ : Below w.heap.size w w') : d.Ok w' := ⟨h.f0, h.f1, h.f2⟩
theorem cz_Pg : Tryd.prog.cellsOf 23 = 3 := by kernel_rfl
set_option maxRecDepth 100000 in
set_option maxHeartbeats 1000000 in
theorem pg_cells {n : Nat} {l : List Value} {x : DataW H × List MemPlace} (hl : l.length = 3) (hf : DataW.trod enc Tryd.prog W base sp hd n 23 l = some x) : ∃ d : PgD, l = d.cells ∧ d.Ok W := by
  obtain ⟨x0, x1, x2, rfl⟩ : ∃ x0 x1 x2, l = [x0, x1, x2] := by
    match l, hl with
    | [x0, x1, x2], _ => exact ⟨x0, x1, x2, rfl⟩
  obtain ⟨xs, m, _, _, _, hlen, hff⟩ := DataW.trod_struct Tryd.underlying23 hf
  have hlen2 : xs.length = 3 := hlen
  have some_at : ∀ j, j < 3 → (xs[j]?).isSome = true := fun j hj => by rw [List.getElem?_eq_getElem (by omega)]; rfl
  obtain ⟨y0, hy0⟩ := Option.isSome_iff_exists.1 (some_at 0 (by omega))
  have h0 := hff 0 _ rfl
  rw [hy0] at h0
  have g0 : DataW.trod enc Tryd.prog W base sp hd m 3 [x0] = some y0 := by rw [← show (([x0, x1, x2] : List Value).drop 0).take (Tryd.prog.cellsOf 3) = [x0] from cz_one rfl cz_int]; exact h0
  obtain ⟨y1, hy1⟩ := Option.isSome_iff_exists.1 (some_at 1 (by omega))
  have h1 := hff 1 _ rfl
  rw [hy1] at h1
  have g1 : DataW.trod enc Tryd.prog W base sp hd m 3 [x1] = some y1 := by rw [← show (([x0, x1, x2] : List Value).drop 1).take (Tryd.prog.cellsOf 3) = [x1] from cz_one rfl cz_int]; exact h1
  obtain ⟨y2, hy2⟩ := Option.isSome_iff_exists.1 (some_at 2 (by omega))
  have h2 := hff 2 _ rfl
  rw [hy2] at h2
  have g2 : DataW.trod enc Tryd.prog W base sp hd m 9 [x2] = some y2 := by rw [← show (([x0, x1, x2] : List Value).drop 2).take (Tryd.prog.cellsOf 9) = [x2] from cz_one rfl cz_string]; exact h2
  obtain ⟨a0, e0, _, wf0⟩ := DataW.trod_int Tryd.underlying3 g0
  simp only [List.cons.injEq, and_true] at e0
  subst e0
  obtain ⟨a1, e1, _, wf1⟩ := DataW.trod_int Tryd.underlying3 g1
  simp only [List.cons.injEq, and_true] at e1
  subst e1
  obtain ⟨t2, e2, _, wt2⟩ := DataW.trod_string Tryd.underlying9 g2
  simp only [List.cons.injEq, and_true] at e2
  subst e2
  exact ⟨⟨a0, a1, t2⟩, rfl, ⟨wf_i64 wf0, wf_i64 wf1, (by unfold maxLen at wt2; show t2.size ≤ 9223372036854775807; omega)⟩⟩
/-- a value that is such a struct -/
def PgV (w : World) (v : Value) : Prop := ∃ d : PgD, v = .agg d.cells.toArray ∧ d.Ok w
set_option maxRecDepth 100000 in
theorem open_Pg {v : Value} {d : DataW H} {p : List MemPlace} (hv : Value.okWide Tryd.prog W .any base 23 v) (h : DataW.Trod enc Tryd.prog W 0 (fun _ => true) true 23 v d p) : PgV W v := by
  obtain ⟨cs, rfl, hsz⟩ := okWide_struct Tryd.underlying23 hv
  obtain ⟨fuel, hf⟩ := h
  rw [cz_Pg] at hsz
  obtain ⟨l⟩ := cs
  obtain ⟨d, rfl, hd⟩ := pg_cells (l := l) hsz hf
  exact ⟨d, rfl, hd⟩
/-- an element of a slice of such structs, from a cell on -/
structure PgAt (w : World) (b o : Nat) (d : PgD) : Prop where
  d0 : w.cell? ⟨b, o, none⟩ = some (.int .i64 d.a0)
  d1 : w.cell? ⟨b, o + 1, none⟩ = some (.int .i64 d.a1)
  d2 : w.cell? ⟨b, o + 2, none⟩ = some (.string d.t2)
  ok : d.Ok w
theorem PgAt.below {w w' : World} {b o : Nat} {d : PgD} (h : PgAt w b o d) (hlt : b < w.heap.size) (hb : Below w.heap.size w w') : PgAt w' b o d := ⟨(hb.cell (p := ⟨b, o, none⟩) hlt).trans h.d0, (hb.cell (p := ⟨b, o + 1, none⟩) hlt).trans h.d1, (hb.cell (p := ⟨b, o + 2, none⟩) hlt).trans h.d2, h.ok.below hb⟩
def IsPgs (w : World) (a : Option Addr) (len : Nat) : Prop :=
  len ≤ maxLen ∧ (len = 0 ∨ ∃ b off, a = some ⟨b, off, none⟩ ∧ b < w.heap.size ∧ ∀ i, i < len → ∃ d, PgAt w b (off + i * 3) d)
theorem IsPgs.below {w w' : World} {a : Option Addr} {len : Nat} (h : IsPgs w a len) (hb : Below w.heap.size w w') : IsPgs w' a len := by
  refine ⟨h.1, ?_⟩
  rcases h.2 with h0 | ⟨b, off, e, hlt, hd⟩
  · exact .inl h0
  · exact .inr ⟨b, off, e, Nat.lt_of_lt_of_le hlt hb.size, fun i hi => by obtain ⟨d, h2⟩ := hd i hi; exact ⟨d, h2.below hlt hb⟩⟩
set_option maxRecDepth 100000 in
set_option maxHeartbeats 1000000 in
theorem pgs_trod {n : Nat} {cs : List Value} {x : DataW H × List MemPlace} {v : Value} (hcs0 : cs = [v]) (hf : DataW.trod enc Tryd.prog W base sp hd n 27 cs = some x) : ∃ a len cap, v = .slice a len cap ∧ IsPgs W a len := by
  rcases open_slice Tryd.underlying27 hf with ⟨hcs, _⟩ | ⟨x, l, c, m, n, D, Pl, hcs, _, hlc, hcm, hm, _, hi⟩
  · rw [hcs] at hcs0
    simp at hcs0
    subst hcs0
    exact ⟨none, 0, 0, rfl, Nat.zero_le _, .inl rfl⟩
  · rw [hcs] at hcs0
    simp at hcs0
    subst hcs0
    refine ⟨_, _, _, rfl, ?_⟩
    by_cases h0 : l = 0
    · exact ⟨by rw [h0]; exact Nat.zero_le _, .inl h0⟩
    · have hml : l ≤ m := by rw [hm]; split <;> omega
      have cell : ∀ i, i < l → ∃ d : PgD, (∀ j y, d.cells[j]? = some y → W.cell? ((x.add (i * 3)).add j) = some y) ∧ d.Ok W := by
        intro i hil
        obtain ⟨cs', hc, ht'⟩ := hi i (by omega)
        rw [cz_Pg] at hc
        obtain ⟨_, hl6, hat⟩ := World.cells?_some hc
        obtain ⟨d, rfl, rest⟩ := pg_cells hl6 ht'
        refine ⟨d, fun j y hy => ?_, rest⟩
        rw [hat j (by have := (List.getElem?_eq_some_iff.1 hy).1; simpa [PgD.cells] using this), hy]
      obtain ⟨blk, off, spot⟩ := x
      obtain ⟨d0, hc0, _⟩ := cell 0 (by omega)
      have hfirst := hc0 0 _ rfl
      have hspot : spot = none := by simpa [Addr.add] using World.cell?_spot hfirst
      subst hspot
      have hadd : ∀ o i, (⟨blk, o, none⟩ : Addr).add i = ⟨blk, o + i, none⟩ := fun o i => by unfold Addr.add; split <;> simp_all
      refine ⟨by unfold maxLen at hcm ⊢; omega, .inr ⟨blk, off, rfl, ?_, fun i hil => ?_⟩⟩
      · rw [hadd, hadd] at hfirst; exact block_lt_of_cell hfirst
      · obtain ⟨d, hc, g⟩ := cell i hil
        have e0 := hc 0 _ rfl
        have e1 := hc 1 _ rfl
        have e2 := hc 2 _ rfl
        rw [hadd, hadd] at e0 e1 e2
        exact ⟨d, e0, e1, e2, g⟩
set_option maxRecDepth 100000 in
theorem open_Pgs {v : Value} {d : DataW H} {p : List MemPlace} (hv : Value.okWide Tryd.prog W .any base 27 v) (h : DataW.Trod enc Tryd.prog W 0 (fun _ => true) true 27 v d p) : ∃ a len cap, v = .slice a len cap ∧ IsPgs W a len := by
  obtain ⟨a, len, cap, rfl⟩ := okWide_slice Tryd.underlying27 hv
  obtain ⟨fuel, hf⟩ := h
  exact pgs_trod (cs := (Value.slice a len cap).cells.toList) (by simp [Value.cells]) hf
/-- what such a struct holds -/
structure EnD where
  a0 : Int
  a1 : Int
  a2 : Int
  k3 : Int
  n3 : Int
  t3 : ByteArray
  a4 : Int
  a5 : Nat
def EnD.cells (d : EnD) : List Value := [.int .i64 d.a0, .int .i64 d.a1, .int .i64 d.a2, .int .i64 d.k3, .int .i64 d.n3, .string d.t3, .int .i64 d.a4, .int .u32 (d.a5 : Int)]
structure EnD.Ok (w : World) (d : EnD) : Prop where
  f0 : (-9223372036854775808 ≤ d.a0 ∧ d.a0 ≤ 9223372036854775807)
  f1 : (-9223372036854775808 ≤ d.a1 ∧ d.a1 ≤ 9223372036854775807)
  f2 : (-9223372036854775808 ≤ d.a2 ∧ d.a2 ≤ 9223372036854775807)
  f3 : ((-9223372036854775808 ≤ d.k3 ∧ d.k3 ≤ 9223372036854775807) ∧ (-9223372036854775808 ≤ d.n3 ∧ d.n3 ≤ 9223372036854775807) ∧ d.t3.size ≤ 9223372036854775807)
  f4 : (-9223372036854775808 ≤ d.a4 ∧ d.a4 ≤ 9223372036854775807)
  f5 : d.a5 < 4294967296
theorem EnD.Ok.below {w w' : World} {d : EnD} (h : d.Ok w) (_ : Below w.heap.size w w') : d.Ok w' := ⟨h.f0, h.f1, h.f2, h.f3, h.f4, h.f5⟩
theorem cz_En : Tryd.prog.cellsOf 26 = 8 := by kernel_rfl
set_option maxRecDepth 100000 in
set_option maxHeartbeats 1000000 in
theorem en_cells {n : Nat} {l : List Value} {x : DataW H × List MemPlace} (hl : l.length = 8) (hf : DataW.trod enc Tryd.prog W base sp hd n 26 l = some x) : ∃ d : EnD, l = d.cells ∧ d.Ok W := by
  obtain ⟨x0, x1, x2, x3, x4, x5, x6, x7, rfl⟩ : ∃ x0 x1 x2 x3 x4 x5 x6 x7, l = [x0, x1, x2, x3, x4, x5, x6, x7] := by
    match l, hl with
    | [x0, x1, x2, x3, x4, x5, x6, x7], _ => exact ⟨x0, x1, x2, x3, x4, x5, x6, x7, rfl⟩
  obtain ⟨xs, m, _, _, _, hlen, hff⟩ := DataW.trod_struct Tryd.underlying26 hf
  have hlen2 : xs.length = 6 := hlen
  have some_at : ∀ j, j < 6 → (xs[j]?).isSome = true := fun j hj => by rw [List.getElem?_eq_getElem (by omega)]; rfl
  obtain ⟨y0, hy0⟩ := Option.isSome_iff_exists.1 (some_at 0 (by omega))
  have h0 := hff 0 _ rfl
  rw [hy0] at h0
  have g0 : DataW.trod enc Tryd.prog W base sp hd m 3 [x0] = some y0 := by rw [← show (([x0, x1, x2, x3, x4, x5, x6, x7] : List Value).drop 0).take (Tryd.prog.cellsOf 3) = [x0] from cz_one rfl cz_int]; exact h0
  obtain ⟨y1, hy1⟩ := Option.isSome_iff_exists.1 (some_at 1 (by omega))
  have h1 := hff 1 _ rfl
  rw [hy1] at h1
  have g1 : DataW.trod enc Tryd.prog W base sp hd m 3 [x1] = some y1 := by rw [← show (([x0, x1, x2, x3, x4, x5, x6, x7] : List Value).drop 1).take (Tryd.prog.cellsOf 3) = [x1] from cz_one rfl cz_int]; exact h1
  obtain ⟨y2, hy2⟩ := Option.isSome_iff_exists.1 (some_at 2 (by omega))
  have h2 := hff 2 _ rfl
  rw [hy2] at h2
  have g2 : DataW.trod enc Tryd.prog W base sp hd m 3 [x2] = some y2 := by rw [← show (([x0, x1, x2, x3, x4, x5, x6, x7] : List Value).drop 2).take (Tryd.prog.cellsOf 3) = [x2] from cz_one rfl cz_int]; exact h2
  obtain ⟨y3, hy3⟩ := Option.isSome_iff_exists.1 (some_at 3 (by omega))
  have h3 := hff 3 _ rfl
  rw [hy3] at h3
  have g3 : DataW.trod enc Tryd.prog W base sp hd m 23 [x3, x4, x5] = some y3 := by rw [← show (([x0, x1, x2, x3, x4, x5, x6, x7] : List Value).drop 3).take (Tryd.prog.cellsOf 23) = [x3, x4, x5] from cz_three rfl rfl rfl cz_page]; exact h3
  obtain ⟨y4, hy4⟩ := Option.isSome_iff_exists.1 (some_at 4 (by omega))
  have h4 := hff 4 _ rfl
  rw [hy4] at h4
  have g4 : DataW.trod enc Tryd.prog W base sp hd m 3 [x6] = some y4 := by rw [← show (([x0, x1, x2, x3, x4, x5, x6, x7] : List Value).drop 6).take (Tryd.prog.cellsOf 3) = [x6] from cz_one rfl cz_int]; exact h4
  obtain ⟨y5, hy5⟩ := Option.isSome_iff_exists.1 (some_at 5 (by omega))
  have h5 := hff 5 _ rfl
  rw [hy5] at h5
  have g5 : DataW.trod enc Tryd.prog W base sp hd m 24 [x7] = some y5 := by rw [← show (([x0, x1, x2, x3, x4, x5, x6, x7] : List Value).drop 7).take (Tryd.prog.cellsOf 24) = [x7] from cz_one rfl cz_u32]; exact h5
  obtain ⟨a0, e0, _, wf0⟩ := DataW.trod_int Tryd.underlying3 g0
  simp only [List.cons.injEq, and_true] at e0
  subst e0
  obtain ⟨a1, e1, _, wf1⟩ := DataW.trod_int Tryd.underlying3 g1
  simp only [List.cons.injEq, and_true] at e1
  subst e1
  obtain ⟨a2, e2, _, wf2⟩ := DataW.trod_int Tryd.underlying3 g2
  simp only [List.cons.injEq, and_true] at e2
  subst e2
  obtain ⟨k3, n3, t3, e, hk3, hn3, ht3⟩ := pz_cells rfl g3
  cases e
  obtain ⟨a4, e4, _, wf4⟩ := DataW.trod_int Tryd.underlying3 g4
  simp only [List.cons.injEq, and_true] at e4
  subst e4
  obtain ⟨a5, e5, _, wf5⟩ := DataW.trod_int Tryd.underlying24 g5
  simp only [List.cons.injEq, and_true] at e5
  subst e5
  obtain ⟨a5, rfl⟩ : ∃ n : Nat, a5 = (n : Int) := ⟨a5.toNat, by have := wf_u32 wf5; omega⟩
  exact ⟨⟨a0, a1, a2, k3, n3, t3, a4, a5⟩, rfl, ⟨wf_i64 wf0, wf_i64 wf1, wf_i64 wf2, ⟨hk3, hn3, ht3⟩, wf_i64 wf4, (by have := wf_u32 wf5; show a5 < 4294967296; omega)⟩⟩
/-- a value that is such a struct -/
def EnV (w : World) (v : Value) : Prop := ∃ d : EnD, v = .agg d.cells.toArray ∧ d.Ok w
set_option maxRecDepth 100000 in
theorem open_En {v : Value} {d : DataW H} {p : List MemPlace} (hv : Value.okWide Tryd.prog W .any base 26 v) (h : DataW.Trod enc Tryd.prog W 0 (fun _ => true) true 26 v d p) : EnV W v := by
  obtain ⟨cs, rfl, hsz⟩ := okWide_struct Tryd.underlying26 hv
  obtain ⟨fuel, hf⟩ := h
  rw [cz_En] at hsz
  obtain ⟨l⟩ := cs
  obtain ⟨d, rfl, hd⟩ := en_cells (l := l) hsz hf
  exact ⟨d, rfl, hd⟩
/-- what such a struct holds -/
structure SmsD where
  p0 : Option Addr
  n0 : Nat
  c0 : Nat
  a1 : Int
  a2 : Int
  a3 : Int
def SmsD.cells (d : SmsD) : List Value := [.slice d.p0 d.n0 d.c0, .int .i64 d.a1, .int .i64 d.a2, .int .i64 d.a3]
structure SmsD.Ok (w : World) (d : SmsD) : Prop where
  f0 : IsPgs w d.p0 d.n0
  f1 : (-9223372036854775808 ≤ d.a1 ∧ d.a1 ≤ 9223372036854775807)
  f2 : (-9223372036854775808 ≤ d.a2 ∧ d.a2 ≤ 9223372036854775807)
  f3 : (-9223372036854775808 ≤ d.a3 ∧ d.a3 ≤ 9223372036854775807)
theorem SmsD.Ok.below {w w' : World} {d : SmsD} (h : d.Ok w) (hb : Below w.heap.size w w') : d.Ok w' := ⟨h.f0.below hb, h.f1, h.f2, h.f3⟩
theorem cz_Sms : Tryd.prog.cellsOf 47 = 4 := by kernel_rfl
set_option maxRecDepth 100000 in
set_option maxHeartbeats 1000000 in
theorem sms_cells {n : Nat} {l : List Value} {x : DataW H × List MemPlace} (hl : l.length = 4) (hf : DataW.trod enc Tryd.prog W base sp hd n 47 l = some x) : ∃ d : SmsD, l = d.cells ∧ d.Ok W := by
  obtain ⟨x0, x1, x2, x3, rfl⟩ : ∃ x0 x1 x2 x3, l = [x0, x1, x2, x3] := by
    match l, hl with
    | [x0, x1, x2, x3], _ => exact ⟨x0, x1, x2, x3, rfl⟩
  obtain ⟨xs, m, _, _, _, hlen, hff⟩ := DataW.trod_struct Tryd.underlying47 hf
  have hlen2 : xs.length = 4 := hlen
  have some_at : ∀ j, j < 4 → (xs[j]?).isSome = true := fun j hj => by rw [List.getElem?_eq_getElem (by omega)]; rfl
  obtain ⟨y0, hy0⟩ := Option.isSome_iff_exists.1 (some_at 0 (by omega))
  have h0 := hff 0 _ rfl
  rw [hy0] at h0
  have g0 : DataW.trod enc Tryd.prog W base sp hd m 27 [x0] = some y0 := by rw [← show (([x0, x1, x2, x3] : List Value).drop 0).take (Tryd.prog.cellsOf 27) = [x0] from cz_one rfl cz_Pg_s]; exact h0
  obtain ⟨y1, hy1⟩ := Option.isSome_iff_exists.1 (some_at 1 (by omega))
  have h1 := hff 1 _ rfl
  rw [hy1] at h1
  have g1 : DataW.trod enc Tryd.prog W base sp hd m 3 [x1] = some y1 := by rw [← show (([x0, x1, x2, x3] : List Value).drop 1).take (Tryd.prog.cellsOf 3) = [x1] from cz_one rfl cz_int]; exact h1
  obtain ⟨y2, hy2⟩ := Option.isSome_iff_exists.1 (some_at 2 (by omega))
  have h2 := hff 2 _ rfl
  rw [hy2] at h2
  have g2 : DataW.trod enc Tryd.prog W base sp hd m 3 [x2] = some y2 := by rw [← show (([x0, x1, x2, x3] : List Value).drop 2).take (Tryd.prog.cellsOf 3) = [x2] from cz_one rfl cz_int]; exact h2
  obtain ⟨y3, hy3⟩ := Option.isSome_iff_exists.1 (some_at 3 (by omega))
  have h3 := hff 3 _ rfl
  rw [hy3] at h3
  have g3 : DataW.trod enc Tryd.prog W base sp hd m 3 [x3] = some y3 := by rw [← show (([x0, x1, x2, x3] : List Value).drop 3).take (Tryd.prog.cellsOf 3) = [x3] from cz_one rfl cz_int]; exact h3
  obtain ⟨p0, n0, c0, rfl, hp0⟩ := pgs_trod rfl g0
  obtain ⟨a1, e1, _, wf1⟩ := DataW.trod_int Tryd.underlying3 g1
  simp only [List.cons.injEq, and_true] at e1
  subst e1
  obtain ⟨a2, e2, _, wf2⟩ := DataW.trod_int Tryd.underlying3 g2
  simp only [List.cons.injEq, and_true] at e2
  subst e2
  obtain ⟨a3, e3, _, wf3⟩ := DataW.trod_int Tryd.underlying3 g3
  simp only [List.cons.injEq, and_true] at e3
  subst e3
  exact ⟨⟨p0, n0, c0, a1, a2, a3⟩, rfl, ⟨hp0, wf_i64 wf1, wf_i64 wf2, wf_i64 wf3⟩⟩
/-- a value that is such a struct -/
def SmsV (w : World) (v : Value) : Prop := ∃ d : SmsD, v = .agg d.cells.toArray ∧ d.Ok w
set_option maxRecDepth 100000 in
theorem open_Sms {v : Value} {d : DataW H} {p : List MemPlace} (hv : Value.okWide Tryd.prog W .any base 47 v) (h : DataW.Trod enc Tryd.prog W 0 (fun _ => true) true 47 v d p) : SmsV W v := by
  obtain ⟨cs, rfl, hsz⟩ := okWide_struct Tryd.underlying47 hv
  obtain ⟨fuel, hf⟩ := h
  rw [cz_Sms] at hsz
  obtain ⟨l⟩ := cs
  obtain ⟨d, rfl, hd⟩ := sms_cells (l := l) hsz hf
  exact ⟨d, rfl, hd⟩
end
end Go.Proofs.YtigaddpjmgncmaaDoor.En
