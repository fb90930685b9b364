/- Points, boxes and lists of numbers that came in, opened; short. -/
import Derived.Test.YtolnbamdddiifaaKyPart
import Derived.Lib.SmallJoins
import Derived.ProofKit
import Derived.Deep.Slices
import Derived.ChangeSlices
namespace Go.Proofs.Ytolnbamdddiifaa.Ky
open Go.RowKit
open Go.Lib (hid)
open Go.ChangeShapes Go.WideShapes Go.Joins Go.Deep

section
variable {H : Type} {enc : TypeId × Value → H} {W : World} {base : Nat} {sp : Nat → Bool} {hd : Bool}
theorem c46 : Try.prog.cellsOf 47 = 1 := by kernel_rfl
theorem c3 : Try.prog.cellsOf 3 = 1 := by kernel_rfl
theorem c23 : Try.prog.cellsOf 23 = 1 := by kernel_rfl
theorem c40 : Try.prog.cellsOf 26 = 1 := by kernel_rfl
theorem c33 : Try.prog.cellsOf 25 = 2 := by kernel_rfl
/-- a value that is a point -/
def KeyV (w : World) (v : Value) : Prop := ∃ p l c, v = .slice p l.length c ∧ Pt w p l ∧ l.length ≤ 9223372036854775807
def IntsV (w : World) (v : Value) : Prop := ∃ p l c, v = .slice p l.length c ∧ Is w p l ∧ l.length ≤ 9223372036854775807
def BoxV (w : World) (v : Value) : Prop := ∃ x y, v = .agg #[x, y] ∧ KeyV w x ∧ KeyV w y
theorem wf_u32 {x : Int} (h : (Lit.int .u32 x).wf = true) : 0 ≤ x ∧ x < 4294967296 := by
  have h1 : IntKind.u32.min = 0 := rfl
  have h2 : IntKind.u32.max = 4294967295 := rfl
  simp [Lit.wf] at h
  omega
theorem wf_i64 {x : Int} (h : (Lit.int .i64 x).wf = true) : -9223372036854775808 ≤ x ∧ x ≤ 9223372036854775807 := by
  have h1 : IntKind.i64.min = -9223372036854775808 := rfl
  have h2 : IntKind.i64.max = 9223372036854775807 := rfl
  simp [Lit.wf] at h
  omega
theorem addr_at {a : Addr} {k : IntKind} {zs : List Int} {len : Nat} (hl : len ≤ zs.length) (hc : ∀ i, i < zs.length → W.cell? (a.add i) = some (.int k (zs.getD i 0))) (h0 : 0 < len) :
    ∃ b off, a = ⟨b, off, none⟩ ∧ b < W.heap.size ∧ ∀ j, j < len → W.cell? ⟨b, off + j, none⟩ = some (.int k (zs.getD j 0)) := by
  obtain ⟨blk, off, spot⟩ := a
  have hfirst := hc 0 (by omega)
  have hspot : spot = none := by simpa [Addr.add] using World.cell?_spot hfirst
  subst hspot
  have hadd : ∀ i, (⟨blk, off, none⟩ : Addr).add i = ⟨blk, off + i, none⟩ := fun i => by unfold Addr.add; split <;> simp_all
  refine ⟨blk, off, rfl, ?_, fun j hj => ?_⟩
  · rw [hadd] at hfirst; exact block_lt_of_cell hfirst
  · have := hc j (by omega); rw [hadd] at this; exact this
theorem key_trod {n : Nat} {cs : List Value} {x : DataW H × List MemPlace} {v : Value} (hcs0 : cs = [v]) (hf : DataW.trod enc Try.prog W base sp hd n 23 cs = some x) : KeyV W v := by
  rcases open_ints Try.underlying23 Try.underlying47 c46 hf with ⟨hcs, _⟩ | ⟨a, len, cap, zs, hcs, _, hlc, hcm, hzl, _, hc, hw⟩
  · rw [hcs] at hcs0
    simp at hcs0
    subst hcs0
    exact ⟨none, [], 0, rfl, Pt.nil _ _, by simp⟩
  · rw [hcs] at hcs0
    simp at hcs0
    subst hcs0
    have hl : len ≤ zs.length := by rw [hzl]; split <;> omega
    have hlen : ((zs.take len).map Int.toNat).length = len := by simp; omega
    have hat : ∀ j (hj : j < ((zs.take len).map Int.toNat).length), (((zs.take len).map Int.toNat)[j] : Int) = zs.getD j 0 ∧ ((zs.take len).map Int.toNat)[j] < 4294967296 := by
      intro j hj
      have hj2 : j < zs.length := by omega
      have hz := wf_u32 (hw zs[j] (List.getElem_mem hj2))
      rw [List.getElem_map, List.getElem_take, List.getD_eq_getElem?_getD, List.getElem?_eq_getElem hj2, Option.getD_some]
      omega
    refine ⟨some a, (zs.take len).map Int.toNat, cap, by rw [hlen], ⟨fun j hj => ?_, fun j hj => (hat j hj).2⟩, by rw [hlen]; unfold maxLen at hcm; omega⟩
    obtain ⟨b, off, rfl, hlt, hcell⟩ := addr_at hl hc (by omega : 0 < len)
    exact ⟨b, off, rfl, hlt, by rw [hcell j (by omega), (hat j hj).1]⟩
theorem ints_trod {n : Nat} {cs : List Value} {x : DataW H × List MemPlace} {v : Value} (hcs0 : cs = [v]) (hf : DataW.trod enc Try.prog W base sp hd n 26 cs = some x) : IntsV W v := by
  rcases open_ints Try.underlying26 Try.underlying3 c3 hf with ⟨hcs, _⟩ | ⟨a, len, cap, zs, hcs, _, hlc, hcm, hzl, _, hc, hw⟩
  · rw [hcs] at hcs0
    simp at hcs0
    subst hcs0
    exact ⟨none, [], 0, rfl, ⟨fun j hj => absurd hj (by simp), fun j hj => absurd hj (by simp)⟩, by simp⟩
  · rw [hcs] at hcs0
    simp at hcs0
    subst hcs0
    have hl : len ≤ zs.length := by rw [hzl]; split <;> omega
    have hlen : (zs.take len).length = len := by simp; omega
    have hat : ∀ j (hj : j < (zs.take len).length), (zs.take len)[j] = zs.getD j 0 ∧ -9223372036854775808 ≤ (zs.take len)[j] ∧ (zs.take len)[j] ≤ 9223372036854775807 := by
      intro j hj
      have hj2 : j < zs.length := by omega
      have hz := wf_i64 (hw zs[j] (List.getElem_mem hj2))
      rw [List.getElem_take, List.getD_eq_getElem?_getD, List.getElem?_eq_getElem hj2, Option.getD_some]
      exact ⟨rfl, hz⟩
    refine ⟨some a, zs.take len, cap, by rw [hlen], ⟨fun j hj => ?_, fun j hj => (hat j hj).2⟩, by rw [hlen]; unfold maxLen at hcm; omega⟩
    obtain ⟨b, off, rfl, hlt, hcell⟩ := addr_at hl hc (by omega : 0 < len)
    exact ⟨b, off, rfl, hlt, by rw [hcell j (by omega), (hat j hj).1]⟩
set_option maxRecDepth 100000 in
theorem open_key {v : Value} {d : DataW H} {p : List MemPlace} (hv : Value.okWide Try.prog W .any base 23 v) (h : DataW.Trod enc Try.prog W 0 (fun _ => true) true 23 v d p) : KeyV W v := by
  obtain ⟨a, len, cap, rfl⟩ := okWide_slice Try.underlying23 hv
  obtain ⟨fuel, hf⟩ := h
  exact key_trod (cs := (Value.slice a len cap).cells.toList) (by simp [Value.cells]) hf
theorem cell_one {l : List Value} {j c : Nat} {x : Value} (hx : l[j]? = some x) (hc : c = 1) : (l.drop j).take c = [x] := by
  subst hc
  obtain ⟨h, e⟩ := List.getElem?_eq_some_iff.1 hx
  rw [List.drop_eq_getElem_cons h, e]; rfl
set_option maxRecDepth 100000 in
theorem open_boxv {v : Value} {d : DataW H} {p : List MemPlace} (hv : Value.okWide Try.prog W .any base 25 v) (h : DataW.Trod enc Try.prog W 0 (fun _ => true) true 25 v d p) : BoxV W v := by
  obtain ⟨cs, rfl, hsz⟩ := okWide_struct Try.underlying25 hv
  obtain ⟨fuel, hf⟩ := h
  rw [c33] at hsz
  obtain ⟨l⟩ := cs
  have hl : l.length = 2 := hsz
  obtain ⟨x0, x1, rfl⟩ : ∃ x0 x1, l = [x0, x1] := by
    match l, hl with
    | [x0, x1], _ => exact ⟨x0, x1, rfl⟩
  obtain ⟨xs, m, _, _, _, hlen, hff⟩ := DataW.trod_struct Try.underlying25 hf
  have hlen2 : xs.length = 2 := hlen
  have some_at : ∀ j, j < 2 → (xs[j]?).isSome = true := fun j hj => by rw [List.getElem?_eq_getElem (by omega)]; rfl
  obtain ⟨y0, hy0⟩ := Option.isSome_iff_exists.1 (some_at 0 (by omega))
  obtain ⟨y1, hy1⟩ := Option.isSome_iff_exists.1 (some_at 1 (by omega))
  have h0 := hff 0 _ rfl
  have h1 := hff 1 _ rfl
  rw [hy0] at h0
  rw [hy1] at h1
  exact ⟨x0, x1, rfl, key_trod (cell_one rfl c23) h0, key_trod (cell_one rfl c23) h1⟩
end
theorem KeyV.pt {w : World} {v : Value} (h : KeyV w v) : ∃ p l c, v = .slice p l.length c ∧ Pt w p l ∧ l.length ≤ 9223372036854775807 := h
def shortB (ns : List Nat) : Bool := ns.all fun n => decide (n ≤ 20)
theorem shortB_take (ns : List Nat) (k : Nat) (h : k < ns.length) (h1 : shortB (ns.take k) = true) (h2 : ns[k] ≤ 20) : shortB (ns.take (k + 1)) = true := by
  unfold shortB at *
  rw [List.take_succ_eq_append_getElem h, List.all_append, h1]
  simp [h2]
theorem shortB_no (ns : List Nat) (k : Nat) (h : k < ns.length) (h2 : ¬ ns[k] ≤ 20) : shortB ns = false := by
  unfold shortB
  rw [List.all_eq_false]
  exact ⟨ns[k], List.getElem_mem h, by simpa using h2⟩
end Go.Proofs.Ytolnbamdddiifaa.Ky
