/- A script that came in, opened: its elements, each in five cells. -/
import Derived.Test.YtkcfkcdmmllpjaaField2
import Derived.Test.YtkcfkcdmmllpjaaOpen
import Derived.Deep.Slices
namespace Go.Proofs.Ytkcfkcdmmllpjaa
open Go.RowKit
open Go.Lib
open Go.ChangeShapes Go.WideShapes Go.Joins Go.Deep

/-- an element of a script, in five cells -/
structure OpAt (w : World) (b p : Nat) (d o c n : Int) (t : ByteArray) : Prop where
  c0 : w.cell? ⟨b, p, none⟩ = some (.int .i64 d)
  c1 : w.cell? ⟨b, p + 1, none⟩ = some (.int .i64 o)
  c2 : w.cell? ⟨b, p + 2, none⟩ = some (.int .i64 c)
  c3 : w.cell? ⟨b, p + 3, none⟩ = some (.int .u32 n)
  c4 : w.cell? ⟨b, p + 4, none⟩ = some (.string t)
  wo : isInt o
  wc : isInt c
  wn : 0 ≤ n ∧ n < 4294967296
  wt : t.size ≤ maxLen

/-- a script that came in: of no elements, or so many in a row -/
def IsScript (w : World) (a : Option Addr) (len : Nat) : Prop :=
  len = 0 ∨ ∃ b off, a = some ⟨b, off, none⟩ ∧ b < w.heap.size ∧ len ≤ maxLen ∧ ∀ i, i < len → ∃ d o c n t, OpAt w b (off + i * 5) d o c n t


theorem FieldScripts_open1 {H : Type} {enc : TypeId × Value → H} {W : World} {base : Nat} {v : Value} {d : DataW H} {p : List MemPlace}
    (hv : Value.okWide Try.prog W .any base 22 v) (h : DataW.Trod enc Try.prog W 0 (fun _ => true) true 22 v d p) :
    ∃ a len cap, v = .slice a len cap ∧ IsScript W a len := by
  obtain ⟨a, len, cap, rfl⟩ := okWide_slice Try.underlying22 hv
  obtain ⟨fuel, hf⟩ := h
  refine ⟨a, len, cap, rfl, ?_⟩
  rcases open_slice Try.underlying22 hf with ⟨hcs, _⟩ | ⟨x, l, c, m, n, D, Pl, hcs, _, hlc, hcm, hm, _, hi⟩
  · simp [Value.cells] at hcs
    exact .inl hcs.2.1
  · simp [Value.cells] at hcs
    obtain ⟨rfl, rfl, rfl⟩ := hcs
    by_cases h0 : len = 0
    · exact .inl h0
    · have hmc : m = cap := by rw [hm]; rfl
      have cell : ∀ i, i < len → ∃ a b c d t, (∀ j y, [Value.int .i64 a, .int .i64 b, .int .i64 c, .int .u32 d, .string t][j]? = some y → W.cell? ((x.add (i * 5)).add j) = some y) ∧
          (Lit.int .i64 a).wf = true ∧ (Lit.int .i64 b).wf = true ∧ (Lit.int .i64 c).wf = true ∧ (Lit.int .u32 d).wf = true ∧ t.size ≤ maxLen := by
        intro i hil
        obtain ⟨cs', hc, ht'⟩ := hi i (by omega)
        rw [c32] at hc
        obtain ⟨_, hl5, hat⟩ := World.cells?_some hc
        obtain ⟨a, b, c, d, t, rfl, wa, wb, wc, wd, wt⟩ := op_cells hl5 ht'
        refine ⟨a, b, c, d, t, fun j y hy => ?_, wa, wb, wc, wd, wt⟩
        rw [hat j (by have := (List.getElem?_eq_some_iff.1 hy).1; simpa using this), hy]
      obtain ⟨blk, off, spot⟩ := x
      obtain ⟨a0, b0, c0, d0, t0, hc0, _⟩ := cell 0 (by omega)
      have hfirst := hc0 0 _ rfl
      have hspot : spot = none := by simpa [Addr.add] using World.cell?_spot hfirst
      subst hspot
      have hadd : ∀ o i, (⟨blk, o, none⟩ : Addr).add i = ⟨blk, o + i, none⟩ := fun o i => by unfold Addr.add; split <;> simp_all
      refine .inr ⟨blk, off, rfl, ?_, by unfold maxLen at hcm ⊢; omega, fun i hil => ?_⟩
      · rw [hadd, hadd] at hfirst; exact block_lt_of_cell hfirst
      · obtain ⟨a, b, c, d, t, hc, _, wb, wc, wd, wt⟩ := cell i hil
        have e0 := hc 0 _ rfl
        have e1 := hc 1 _ rfl
        have e2 := hc 2 _ rfl
        have e3 := hc 3 _ rfl
        have e4 := hc 4 _ rfl
        rw [hadd, hadd] at e0 e1 e2 e3 e4
        exact ⟨a, b, c, d, t, e0, e1, e2, e3, e4, wf_i64 wb, wf_i64 wc, ⟨(wf_u32 wd).1, (wf_u32 wd).2⟩, wt⟩
end Go.Proofs.Ytkcfkcdmmllpjaa
