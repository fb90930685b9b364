/- An argument of type Op, opened: its five values. -/
import Derived.Test.YtkcfkcdmmllpjaaBase
import Derived.Lib.SmallJoins
import Derived.ProofKit
namespace Go.Proofs.Ytkcfkcdmmllpjaa
open Go.RowKit
open Go.Lib
open Go.ChangeShapes Go.WideShapes Go.Joins

section
variable {H : Type} {enc : TypeId × Value → H} {W : World} {base : Nat} {sp : Nat → Bool} {hd : Bool}
theorem cell_at {l : List Value} {j c : Nat} {x : Value} (hx : l[j]? = some x) (hc : c = 1) : (l.drop j).take c = [x] := by
  subst hc
  obtain ⟨h, e⟩ := List.getElem?_eq_some_iff.1 hx
  rw [List.drop_eq_getElem_cons h, e]; rfl
theorem read_int (t : TypeId) (k : IntKind) (j : Nat) {n : Nat} {x : Value} {l : List Value} {o : Option (DataW H × List MemPlace)} (ht : Try.prog.underlying t = some (.int k)) (hc : Try.prog.cellsOf t = 1) (hx : l[j]? = some x) (ho : o.isSome = true)
    (h : DataW.trod enc Try.prog W base sp hd n t ((l.drop j).take (Try.prog.cellsOf t)) = o) : ∃ a : Int, x = .int k a ∧ (Lit.int k a).wf = true := by
  obtain ⟨y, rfl⟩ := Option.isSome_iff_exists.1 ho
  rw [cell_at hx hc] at h
  obtain ⟨a, e, _, wa⟩ := DataW.trod_int ht h
  simp at e
  exact ⟨a, e, wa⟩
theorem read_string (t : TypeId) (j : Nat) {n : Nat} {x : Value} {l : List Value} {o : Option (DataW H × List MemPlace)} (ht : Try.prog.underlying t = some .string) (hc : Try.prog.cellsOf t = 1) (hx : l[j]? = some x) (ho : o.isSome = true)
    (h : DataW.trod enc Try.prog W base sp hd n t ((l.drop j).take (Try.prog.cellsOf t)) = o) : ∃ s : ByteArray, x = .string s ∧ s.size ≤ maxLen := by
  obtain ⟨y, rfl⟩ := Option.isSome_iff_exists.1 ho
  rw [cell_at hx hc] at h
  obtain ⟨a, e, _, wa⟩ := DataW.trod_string ht h
  simp at e
  exact ⟨a, e, wa⟩

theorem c3 : Try.prog.cellsOf 3 = 1 := by kernel_rfl
theorem c9 : Try.prog.cellsOf 9 = 1 := by kernel_rfl
theorem c30 : Try.prog.cellsOf 30 = 1 := by kernel_rfl
theorem c32 : Try.prog.cellsOf 32 = 5 := by kernel_rfl

/-- the five values of a struct of type Op, out of its cells -/
theorem op_cells {n : Nat} {l : List Value} {x : DataW H × List MemPlace} (hl : l.length = 5) (h : DataW.trod enc Try.prog W base sp hd n 32 l = some x) :
    ∃ (a b c d : Int) (t : ByteArray), l = [.int .i64 a, .int .i64 b, .int .i64 c, .int .u32 d, .string t] ∧
      (Lit.int .i64 a).wf = true ∧ (Lit.int .i64 b).wf = true ∧ (Lit.int .i64 c).wf = true ∧ (Lit.int .u32 d).wf = true ∧ t.size ≤ maxLen := by
  obtain ⟨x0, x1, x2, x3, x4, rfl⟩ : ∃ x0 x1 x2 x3 x4, l = [x0, x1, x2, x3, x4] := by
    match l, hl with
    | [x0, x1, x2, x3, x4], _ => exact ⟨x0, x1, x2, x3, x4, rfl⟩
  obtain ⟨xs, m, _, _, _, hlen, hf⟩ := DataW.trod_struct Try.underlying32 h
  have hlen5 : xs.length = 5 := hlen
  have some_at : ∀ j, j < 5 → (xs[j]?).isSome = true := fun j hj => by rw [List.getElem?_eq_getElem (by omega)]; rfl
  obtain ⟨a, rfl, wa⟩ := read_int 3 .i64 0 Try.underlying3 c3 rfl (some_at 0 (by omega)) (hf 0 _ rfl)
  obtain ⟨b, rfl, wb⟩ := read_int 3 .i64 1 Try.underlying3 c3 rfl (some_at 1 (by omega)) (hf 1 _ rfl)
  obtain ⟨c, rfl, wc⟩ := read_int 3 .i64 2 Try.underlying3 c3 rfl (some_at 2 (by omega)) (hf 2 _ rfl)
  obtain ⟨d, rfl, wd⟩ := read_int 30 .u32 3 Try.underlying30 c30 rfl (some_at 3 (by omega)) (hf 3 _ rfl)
  obtain ⟨t, rfl, wt⟩ := read_string 9 4 Try.underlying9 c9 rfl (some_at 4 (by omega)) (hf 4 _ rfl)
  exact ⟨a, b, c, d, t, rfl, wa, wb, wc, wd, wt⟩

theorem open_op {v : Value} {d : DataW H} {p : List MemPlace} (hv : Value.okWide Try.prog W .any base 32 v) (h : DataW.Trod enc Try.prog W 0 (fun _ => true) true 32 v d p) :
    ∃ (a b c d : Int) (t : ByteArray), v = .agg #[.int .i64 a, .int .i64 b, .int .i64 c, .int .u32 d, .string t] ∧ t.size ≤ maxLen := by
  obtain ⟨cs, rfl, hsz⟩ := okWide_struct Try.underlying32 hv
  obtain ⟨fuel, hf⟩ := h
  rw [c32] at hsz
  obtain ⟨l⟩ := cs
  obtain ⟨a, b, c, d, t, e, _, _, _, _, wt⟩ := op_cells (show l.length = 5 from hsz) hf
  have e' : l = _ := e
  exact ⟨a, b, c, d, t, by rw [e'], wt⟩
end
end Go.Proofs.Ytkcfkcdmmllpjaa
