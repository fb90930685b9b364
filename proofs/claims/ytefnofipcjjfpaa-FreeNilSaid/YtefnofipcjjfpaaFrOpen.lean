/- An argument of type Op, and a script of them, opened. -/
import Derived.Test.YtefnofipcjjfpaaFrLive
import Derived.Lib.SmallJoins
import Derived.ProofKit
import Derived.Deep.Slices
namespace Go.Proofs.Ytefnofipcjjfpaa
open Go.RowKit
open Go.Lib
open Go.ChangeShapes Go.WideShapes Go.Joins Go.Deep

section
variable {H : Type} {enc : TypeId × Value → H} {W : World} {base : Nat} {sp : Nat → Bool} {hd : Bool}
theorem cell_at {l : List Value} {j c : Nat} {x : Value} (hx : l[j]? = some x) (hc : c = 1) : (l.drop j).take c = [x] := by
  subst hc
  obtain ⟨h, e⟩ := List.getElem?_eq_some_iff.1 hx
  rw [List.drop_eq_getElem_cons h, e]; rfl
theorem read_int (t : TypeId) (k : IntKind) (j : Nat) {n : Nat} {x : Value} {l : List Value} {o : Option (DataW H × List MemPlace)} (ht : Try.prog.underlying t = some (.int k)) (hc : Try.prog.cellsOf t = 1) (hx : l[j]? = some x) (ho : o.isSome = true)
    (h : DataW.trod enc Try.prog W base sp hd n t ((l.drop j).take (Try.prog.cellsOf t)) = o) : ∃ a : Int, x = .int k a ∧ (Lit.int k a).wf = true := by
  obtain ⟨y, rfl⟩ := Option.isSome_iff_exists.1 ho
  rw [cell_at hx hc] at h
  obtain ⟨a, e, _, wa⟩ := DataW.trod_int ht h
  simp at e
  exact ⟨a, e, wa⟩
theorem c3 : Try.prog.cellsOf 3 = 1 := by kernel_rfl
theorem c31 : Try.prog.cellsOf 31 = 2 := by kernel_rfl
/-- a number that an int may be -/
def isInt (n : Int) : Prop := -9223372036854775808 ≤ n ∧ n ≤ 9223372036854775807
theorem wf_int {x : Int} (h : (Lit.int .i64 x).wf = true) : isInt x := Fd.wf_i64 h
/-- the values of a struct of type Op, out of its cells -/
theorem op_cells {n : Nat} {l : List Value} {x : DataW H × List MemPlace} (hl : l.length = 2) (h : DataW.trod enc Try.prog W base sp hd n 31 l = some x) :
    ∃ a b : Int, l = [.int .i64 a, .int .i64 b] ∧ isInt a ∧ isInt b := by
  obtain ⟨x0, x1, rfl⟩ : ∃ x0 x1, l = [x0, x1] := by
    match l, hl with
    | [x0, x1], _ => exact ⟨x0, x1, rfl⟩
  obtain ⟨xs, m, _, _, _, hlen, hf⟩ := DataW.trod_struct Try.underlying31 h
  have hlen2 : xs.length = 2 := hlen
  have some_at : ∀ j, j < 2 → (xs[j]?).isSome = true := fun j hj => by rw [List.getElem?_eq_getElem (by omega)]; rfl
  obtain ⟨a, rfl, wa⟩ := read_int 3 .i64 0 Try.underlying3 c3 rfl (some_at 0 (by omega)) (hf 0 _ rfl)
  obtain ⟨b, rfl, wb⟩ := read_int 3 .i64 1 Try.underlying3 c3 rfl (some_at 1 (by omega)) (hf 1 _ rfl)
  exact ⟨a, b, rfl, wf_int wa, wf_int wb⟩
theorem open_op {v : Value} {d : DataW H} {p : List MemPlace} (hv : Value.okWide Try.prog W .any base 31 v) (h : DataW.Trod enc Try.prog W 0 (fun _ => true) true 31 v d p) :
    ∃ a b : Int, v = .agg #[.int .i64 a, .int .i64 b] ∧ isInt a ∧ isInt b := by
  obtain ⟨cs, rfl, hsz⟩ := okWide_struct Try.underlying31 hv
  obtain ⟨fuel, hf⟩ := h
  rw [c31] at hsz
  obtain ⟨l⟩ := cs
  obtain ⟨a, b, e, wa, wb⟩ := op_cells (show l.length = 2 from hsz) hf
  have e' : l = _ := e
  exact ⟨a, b, by rw [e'], wa, wb⟩
/-- a script that came in: of no elements, or so many in a row -/
def IsScript (w : World) (a : Option Addr) (len : Nat) : Prop :=
  len ≤ maxLen ∧ (len = 0 ∨ ∃ b off, a = some ⟨b, off, none⟩ ∧ b < w.heap.size ∧ ∀ i, i < len → ∃ d n : Int, w.cell? ⟨b, off + i * 2, none⟩ = some (.int .i64 d) ∧ w.cell? ⟨b, off + i * 2 + 1, none⟩ = some (.int .i64 n) ∧ isInt d ∧ isInt n)
theorem open_script {v : Value} {d : DataW H} {p : List MemPlace}
    (hv : Value.okWide Try.prog W .any base 22 v) (h : DataW.Trod enc Try.prog W 0 (fun _ => true) true 22 v d p) :
    ∃ a len cap, v = .slice a len cap ∧ IsScript W a len := by
  obtain ⟨a, len, cap, rfl⟩ := okWide_slice Try.underlying22 hv
  obtain ⟨fuel, hf⟩ := h
  refine ⟨a, len, cap, rfl, ?_⟩
  rcases open_slice Try.underlying22 hf with ⟨hcs, _⟩ | ⟨x, l, c, m, n, D, Pl, hcs, _, hlc, hcm, hm, _, hi⟩
  · simp [Value.cells] at hcs
    exact ⟨by rw [hcs.2.1]; exact Nat.zero_le _, .inl hcs.2.1⟩
  · simp [Value.cells] at hcs
    obtain ⟨rfl, rfl, rfl⟩ := hcs
    by_cases h0 : len = 0
    · exact ⟨by rw [h0]; exact Nat.zero_le _, .inl h0⟩
    · have hmc : m = cap := by rw [hm]; rfl
      have cell : ∀ i, i < len → ∃ a b : Int, (∀ j y, [Value.int .i64 a, .int .i64 b][j]? = some y → W.cell? ((x.add (i * 2)).add j) = some y) ∧ isInt a ∧ isInt b := by
        intro i hil
        obtain ⟨cs', hc, ht'⟩ := hi i (by omega)
        rw [c31] at hc
        obtain ⟨_, hl2, hat⟩ := World.cells?_some hc
        obtain ⟨a, b, rfl, wa, wb⟩ := op_cells hl2 ht'
        refine ⟨a, b, fun j y hy => ?_, wa, wb⟩
        rw [hat j (by have := (List.getElem?_eq_some_iff.1 hy).1; simpa using this), hy]
      obtain ⟨blk, off, spot⟩ := x
      obtain ⟨a0, b0, hc0, _⟩ := cell 0 (by omega)
      have hfirst := hc0 0 _ rfl
      have hspot : spot = none := by simpa [Addr.add] using World.cell?_spot hfirst
      subst hspot
      have hadd : ∀ o i, (⟨blk, o, none⟩ : Addr).add i = ⟨blk, o + i, none⟩ := fun o i => by unfold Addr.add; split <;> simp_all
      refine ⟨by unfold maxLen at hcm ⊢; omega, .inr ⟨blk, off, rfl, ?_, fun i hil => ?_⟩⟩
      · rw [hadd, hadd] at hfirst; exact block_lt_of_cell hfirst
      · obtain ⟨a, b, hc, wa, wb⟩ := cell i hil
        have e0 := hc 0 _ rfl
        have e1 := hc 1 _ rfl
        rw [hadd, hadd] at e0 e1
        exact ⟨a, b, e0, e1, wa, wb⟩
end
end Go.Proofs.Ytefnofipcjjfpaa
