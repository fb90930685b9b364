/- Records, a record, and a Case that came in, opened. -/
import Derived.Test.YtolnbamdddiifaaBkLive
import Derived.Lib.SmallJoins
import Derived.ProofKit
import Derived.Deep.Slices
import Derived.ChangeSlices
namespace Go.Proofs.Ytolnbamdddiifaa.Bk
open Go.RowKit
open Go.Lib (hid)
open Go.ChangeShapes Go.WideShapes Go.Joins Go.Deep
open Go.Proofs.Ytolnbamdddiifaa.Ky

section
variable {H : Type} {enc : TypeId × Value → H} {W : World} {base : Nat} {sp : Nat → Bool} {hd : Bool}
theorem c46 : Try.prog.cellsOf 47 = 1 := by kernel_rfl
theorem c3 : Try.prog.cellsOf 3 = 1 := by kernel_rfl
theorem c9 : Try.prog.cellsOf 9 = 1 := by kernel_rfl
theorem c22 : Try.prog.cellsOf 27 = 1 := by kernel_rfl
theorem c36 : Try.prog.cellsOf 23 = 1 := by kernel_rfl
theorem c38 : Try.prog.cellsOf 56 = 2 := by kernel_rfl
/-- a value that is a point -/
def KeyV (w : World) (v : Value) : Prop := ∃ p l c, v = .slice p l.length c ∧ Pt w p l ∧ l.length ≤ 9223372036854775807
/-- a value that is a record -/
def RecV (w : World) (v : Value) : Prop := ∃ p l c t, v = .agg #[.slice p l.length c, .string t] ∧ Pt w p l ∧ l.length ≤ 9223372036854775807 ∧ t.size ≤ 9223372036854775807
/-- a value that is a list of records -/
def RecsV (w : World) (v : Value) : Prop := ∃ p L c, v = .slice p L.length c ∧ Rs (fun _ => False) w p L ∧ L.length ≤ c ∧ c ≤ 9223372036854775807
theorem wf_u32 {x : Int} (h : (Lit.int .u32 x).wf = true) : 0 ≤ x ∧ x < 4294967296 := by
  have h1 : IntKind.u32.min = 0 := rfl
  have h2 : IntKind.u32.max = 4294967295 := rfl
  simp [Lit.wf] at h
  omega
theorem wf_i64 {x : Int} (h : (Lit.int .i64 x).wf = true) : -9223372036854775808 ≤ x ∧ x ≤ 9223372036854775807 := by
  have h1 : IntKind.i64.min = -9223372036854775808 := rfl
  have h2 : IntKind.i64.max = 9223372036854775807 := rfl
  simp [Lit.wf] at h
  omega
theorem addr_at {a : Addr} {k : IntKind} {zs : List Int} {len : Nat} (hl : len ≤ zs.length) (hc : ∀ i, i < zs.length → W.cell? (a.add i) = some (.int k (zs.getD i 0))) (h0 : 0 < len) :
    ∃ b off, a = ⟨b, off, none⟩ ∧ b < W.heap.size ∧ ∀ j, j < len → W.cell? ⟨b, off + j, none⟩ = some (.int k (zs.getD j 0)) := by
  obtain ⟨blk, off, spot⟩ := a
  have hfirst := hc 0 (by omega)
  have hspot : spot = none := by simpa [Addr.add] using World.cell?_spot hfirst
  subst hspot
  refine ⟨blk, off, rfl, ?_, fun j hj => ?_⟩
  · rw [addr_add] at hfirst; exact block_lt_of_cell hfirst
  · have := hc j (by omega); rw [addr_add] at this; exact this
theorem key_trod {n : Nat} {cs : List Value} {x : DataW H × List MemPlace} {v : Value} (hcs0 : cs = [v]) (hf : DataW.trod enc Try.prog W base sp hd n 23 cs = some x) : KeyV W v := by
  rcases open_ints Try.underlying23 Try.underlying47 c46 hf with ⟨hcs, _⟩ | ⟨a, len, cap, zs, hcs, _, hlc, hcm, hzl, _, hc, hw⟩
  · rw [hcs] at hcs0
    simp at hcs0
    subst hcs0
    exact ⟨none, [], 0, rfl, Pt.nil _ _, by simp⟩
  · rw [hcs] at hcs0
    simp at hcs0
    subst hcs0
    have hl : len ≤ zs.length := by rw [hzl]; split <;> omega
    have hlen : ((zs.take len).map Int.toNat).length = len := by simp; omega
    have hat : ∀ j (hj : j < ((zs.take len).map Int.toNat).length), (((zs.take len).map Int.toNat)[j] : Int) = zs.getD j 0 ∧ ((zs.take len).map Int.toNat)[j] < 4294967296 := by
      intro j hj
      have hj2 : j < zs.length := by omega
      have hz := wf_u32 (hw zs[j] (List.getElem_mem hj2))
      rw [List.getElem_map, List.getElem_take, List.getD_eq_getElem?_getD, List.getElem?_eq_getElem hj2, Option.getD_some]
      omega
    refine ⟨some a, (zs.take len).map Int.toNat, cap, by rw [hlen], ⟨fun j hj => ?_, fun j hj => (hat j hj).2⟩, by rw [hlen]; unfold maxLen at hcm; omega⟩
    obtain ⟨b, off, rfl, hlt, hcell⟩ := addr_at hl hc (by omega : 0 < len)
    exact ⟨b, off, rfl, hlt, by rw [hcell j (by omega), (hat j hj).1]⟩
theorem cell_one {l : List Value} {j c : Nat} {x : Value} (hx : l[j]? = some x) (hc : c = 1) : (l.drop j).take c = [x] := by
  subst hc
  obtain ⟨h, e⟩ := List.getElem?_eq_some_iff.1 hx
  rw [List.drop_eq_getElem_cons h, e]; rfl
set_option maxRecDepth 100000 in
/-- the cells of a record -/
theorem rec_cells {n : Nat} {l : List Value} {x : DataW H × List MemPlace} (hl : l.length = 2) (h : DataW.trod enc Try.prog W base sp hd n 56 l = some x) :
    ∃ p k c t, l = [.slice p k.length c, .string t] ∧ Pt W p k ∧ k.length ≤ 9223372036854775807 ∧ t.size ≤ 9223372036854775807 := by
  obtain ⟨x0, x1, rfl⟩ : ∃ x0 x1, l = [x0, x1] := by
    match l, hl with
    | [x0, x1], _ => exact ⟨x0, x1, rfl⟩
  obtain ⟨xs, m, _, _, _, hlen, hff⟩ := DataW.trod_struct Try.underlying56 h
  have hlen2 : xs.length = 2 := hlen
  have some_at : ∀ j, j < 2 → (xs[j]?).isSome = true := fun j hj => by rw [List.getElem?_eq_getElem (by omega)]; rfl
  obtain ⟨y0, hy0⟩ := Option.isSome_iff_exists.1 (some_at 0 (by omega))
  obtain ⟨y1, hy1⟩ := Option.isSome_iff_exists.1 (some_at 1 (by omega))
  have h0 := hff 0 _ rfl
  have h1 := hff 1 _ rfl
  rw [hy0] at h0
  rw [hy1] at h1
  obtain ⟨p, k, c, rfl, hp, hk⟩ := key_trod (cell_one rfl c36) h0
  have e1 : (([Value.slice p k.length c, x1] : List Value).drop 1).take (Try.prog.cellsOf 9) = [x1] := cell_one rfl c9
  have h1' : DataW.trod enc Try.prog W base sp hd m 9 [x1] = some y1 := by rw [← e1]; exact h1
  obtain ⟨t, e, _, wt⟩ := DataW.trod_string Try.underlying9 h1'
  simp at e
  subst e
  exact ⟨p, k, c, t, rfl, hp, hk, by unfold maxLen at wt; omega⟩
theorem rows_of (b off n : Nat) (hb : 0 < n → b < W.heap.size)
    (h : ∀ i, i < n → ∃ q k c t, W.cell? ⟨b, off + i * 2, none⟩ = some (.slice q (k : List Nat).length c) ∧ W.cell? ⟨b, off + i * 2 + 1, none⟩ = some (.string t) ∧ Pt W q k) :
    ∃ xs L, RC (fun _ => False) W xs L ∧ L.length = n ∧ ReadAt W (some ⟨b, off, none⟩) xs := by
  induction n with
  | zero => exact ⟨[], [], RC.nil, rfl, ReadAt.nil _ _⟩
  | succ n ih =>
    obtain ⟨xs, L, h1, h2, h3⟩ := ih (fun h0 => hb (by omega)) fun i hi => h i (by omega)
    obtain ⟨q, k, c, t, e0, e1, hp⟩ := h n (by omega)
    have hx : xs.length = n * 2 := by rw [h1.1, h2]
    refine ⟨xs ++ [.slice q k.length c, .string t], L ++ [(k, t)], h1.app (RC.one (Pt.ptd hp)), by simp [h2], fun j u hj => ?_⟩
    by_cases hlt : j < xs.length
    · rw [List.getElem?_append_left hlt] at hj
      exact h3 j u hj
    · rw [List.getElem?_append_right (by omega)] at hj
      refine ⟨b, off, rfl, hb (by omega), ?_⟩
      obtain ⟨i, hi⟩ : ∃ i, j - xs.length = i := ⟨_, rfl⟩
      rw [hi] at hj
      match i, hj with
      | 0, hj =>
        obtain rfl : Value.slice q k.length c = u := by simpa using hj
        rw [show off + j = off + n * 2 by omega]; exact e0
      | 1, hj =>
        obtain rfl : Value.string t = u := by simpa using hj
        rw [show off + j = off + n * 2 + 1 by omega]; exact e1
      | (i + 2), hj => simp at hj
set_option maxRecDepth 100000 in
theorem recs_trod {n : Nat} {cs : List Value} {x : DataW H × List MemPlace} {v : Value} (hcs0 : cs = [v]) (hf : DataW.trod enc Try.prog W base sp hd n 27 cs = some x) : RecsV W v := by
  rcases open_slice Try.underlying27 hf with ⟨hcs, _⟩ | ⟨x, l, c, m, n, D, Pl, hcs, _, hlc, hcm, hm, _, hi⟩
  · rw [hcs] at hcs0
    simp at hcs0
    subst hcs0
    exact ⟨none, [], 0, rfl, Rs.nil _, by simp, by omega⟩
  · rw [hcs] at hcs0
    simp at hcs0
    subst hcs0
    have hml : l ≤ m := by rw [hm]; split <;> omega
    have hcm' : c ≤ 9223372036854775807 := by unfold maxLen at hcm; omega
    by_cases h0 : l = 0
    · subst h0
      exact ⟨some x, [], c, rfl, Rs.nil _, by simp, hcm'⟩
    · have cell : ∀ i, i < l → ∃ q k c' t, (∀ j y, [Value.slice q (k : List Nat).length c', .string t][j]? = some y → W.cell? ((x.add (i * 2)).add j) = some y) ∧ Pt W q k := by
        intro i hil
        obtain ⟨cs', hc, ht'⟩ := hi i (by omega)
        rw [c38] at hc
        obtain ⟨_, hl2, hat⟩ := World.cells?_some hc
        obtain ⟨q, k, c', t, rfl, hp, _, _⟩ := rec_cells hl2 ht'
        exact ⟨q, k, c', t, fun j y hy => by rw [hat j (by have := (List.getElem?_eq_some_iff.1 hy).1; simpa using this), hy], hp⟩
      obtain ⟨blk, off, spot⟩ := x
      obtain ⟨q0, k0, c0, t0, hc0, _⟩ := cell 0 (by omega)
      have hfirst := hc0 0 _ rfl
      have hspot : spot = none := by simpa [Addr.add] using World.cell?_spot hfirst
      subst hspot
      rw [addr_add, addr_add] at hfirst
      obtain ⟨xs, L, h1, h2, h3⟩ := rows_of blk off l (fun _ => block_lt_of_cell hfirst) (fun i hil => by
        obtain ⟨q, k, c', t, hc, hp⟩ := cell i hil
        have e0 := hc 0 _ rfl
        have e1 := hc 1 _ rfl
        rw [addr_add, addr_add] at e0 e1
        exact ⟨q, k, c', t, e0, e1, hp⟩)
      exact ⟨_, L, c, by rw [h2], Rs.mk h1 h3, by omega, hcm'⟩
set_option maxRecDepth 100000 in
theorem open_recs {v : Value} {d : DataW H} {p : List MemPlace} (hv : Value.okWide Try.prog W .any base 27 v) (h : DataW.Trod enc Try.prog W 0 (fun _ => true) true 27 v d p) : RecsV W v := by
  obtain ⟨a, len, cap, rfl⟩ := okWide_slice Try.underlying27 hv
  obtain ⟨fuel, hf⟩ := h
  exact recs_trod (cs := (Value.slice a len cap).cells.toList) (by simp [Value.cells]) hf
set_option maxRecDepth 100000 in
theorem open_rec {v : Value} {d : DataW H} {p : List MemPlace} (hv : Value.okWide Try.prog W .any base 56 v) (h : DataW.Trod enc Try.prog W 0 (fun _ => true) true 56 v d p) : RecV W v := by
  obtain ⟨cs, rfl, hsz⟩ := okWide_struct Try.underlying56 hv
  obtain ⟨fuel, hf⟩ := h
  rw [c38] at hsz
  obtain ⟨l⟩ := cs
  obtain ⟨q, k, c, t, e, hp, hk, ht⟩ := rec_cells (show l.length = 2 from hsz) hf
  have e' : l = _ := e
  exact ⟨q, k, c, t, by rw [e'], hp, hk, ht⟩
end
end Go.Proofs.Ytolnbamdddiifaa.Bk
