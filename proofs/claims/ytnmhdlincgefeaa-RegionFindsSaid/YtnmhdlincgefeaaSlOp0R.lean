/- Lists of ints that came in, opened. -/
import Derived.Test.YtnmhdlincgefeaaSlUniR
import Derived.Lib.SmallJoins
import Derived.ProofKit
import Derived.Deep.Slices
import Derived.ChangeSlices
namespace Go.Proofs.Ytnmhdlincgefeaa.Sl
open Go.RowKit
open Go.Lib (hid)
open Go.ChangeShapes Go.WideShapes Go.Joins Go.Deep

/-- a slice of ints that came in -/
structure Is (w : World) (p : Option Addr) (l : List Int) : Prop where
  cells : CellsAt w p (iv l)
  wf : ∀ x ∈ l, (Lit.int .i64 x).wf = true
theorem Is.below {w w' : World} {p : Option Addr} {l : List Int} (h : Is w p l) (hb : Below w.heap.size w w') : Is w' p l := ⟨h.cells.below hb, h.wf⟩
def IntsV (w : World) (v : Value) : Prop := ∃ p l c, v = .slice p l.length c ∧ Is w p l ∧ l.length ≤ 9223372036854775807
theorem wf_i64 {x : Int} (h : (Lit.int .i64 x).wf = true) : -9223372036854775808 ≤ x ∧ x ≤ 9223372036854775807 := by
  have h1 : IntKind.i64.min = -9223372036854775808 := rfl
  have h2 : IntKind.i64.max = 9223372036854775807 := rfl
  simp [Lit.wf] at h
  omega
theorem i64_wf {x : Int} (h : -9223372036854775808 ≤ x ∧ x ≤ 9223372036854775807) : (Lit.int .i64 x).wf = true := by
  have h1 : IntKind.i64.min = -9223372036854775808 := rfl
  have h2 : IntKind.i64.max = 9223372036854775807 := rfl
  simp [Lit.wf]
  omega
section
variable {H : Type} {enc : TypeId × Value → H} {W : World} {base : Nat} {sp : Nat → Bool} {hd : Bool}
theorem cs_int : Try.prog.cellsOf 3 = 1 := by kernel_rfl
theorem addr_at {a : Addr} {k : IntKind} {zs : List Int} {len : Nat} (hl : len ≤ zs.length) (hc : ∀ i, i < zs.length → W.cell? (a.add i) = some (.int k (zs.getD i 0))) (h0 : 0 < len) :
    ∃ b off, a = ⟨b, off, none⟩ ∧ b < W.heap.size ∧ ∀ j, j < len → W.cell? ⟨b, off + j, none⟩ = some (.int k (zs.getD j 0)) := by
  obtain ⟨blk, off, spot⟩ := a
  have hfirst := hc 0 (by omega)
  have hspot : spot = none := by simpa [Addr.add] using World.cell?_spot hfirst
  subst hspot
  have hadd : ∀ i, (⟨blk, off, none⟩ : Addr).add i = ⟨blk, off + i, none⟩ := fun i => by unfold Addr.add; split <;> simp_all
  rw [hadd] at hfirst
  refine ⟨blk, off, rfl, block_lt_of_cell hfirst, fun j hj => ?_⟩
  have := hc j (by omega)
  rwa [hadd] at this
theorem ints_trod {n : Nat} {cs : List Value} {x : DataW H × List MemPlace} {v : Value} (hcs0 : cs = [v]) (hf : DataW.trod enc Try.prog W base sp hd n 22 cs = some x) : IntsV W v := by
  rcases open_ints Try.underlying22 Try.underlying3 cs_int hf with ⟨hcs, _⟩ | ⟨a, len, cap, zs, hcs, _, hlc, hcm, hzl, _, hc, hw⟩
  · rw [hcs] at hcs0
    simp at hcs0
    subst hcs0
    exact ⟨none, [], 0, rfl, ⟨fun j hj => absurd hj (by simp [iv]), fun x hx => by cases hx⟩, by simp⟩
  · rw [hcs] at hcs0
    simp at hcs0
    subst hcs0
    have hl : len ≤ zs.length := by rw [hzl]; split <;> omega
    have hlen : (zs.take len).length = len := by simp; omega
    refine ⟨some a, zs.take len, cap, by rw [hlen], ⟨fun j hj => ?_, fun x hx => hw x (List.mem_of_mem_take hx)⟩, by rw [hlen]; unfold maxLen at hcm; omega⟩
    rw [iv_length] at hj
    have hj2 : j < zs.length := by omega
    obtain ⟨b, off, rfl, hlt, hcell⟩ := addr_at hl hc (by omega : 0 < len)
    refine ⟨b, off, rfl, hlt, ?_⟩
    rw [hcell j (by omega), iv_at _ j hj, List.getElem_take, List.getD_eq_getElem?_getD, List.getElem?_eq_getElem hj2, Option.getD_some]
set_option maxRecDepth 100000 in
theorem open_ints_v {v : Value} {d : DataW H} {p : List MemPlace} (hv : Value.okWide Try.prog W .any base 22 v) (h : DataW.Trod enc Try.prog W 0 (fun _ => true) true 22 v d p) : IntsV W v := by
  obtain ⟨a, len, cap, rfl⟩ := okWide_slice Try.underlying22 hv
  obtain ⟨fuel, hf⟩ := h
  exact ints_trod (cs := (Value.slice a len cap).cells.toList) (by simp [Value.cells]) hf
end
end Go.Proofs.Ytnmhdlincgefeaa.Sl
