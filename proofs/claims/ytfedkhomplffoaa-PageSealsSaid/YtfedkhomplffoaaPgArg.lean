/- A page that comes in as an argument. -/
import Derived.Test.YtfedkhomplffoaaRows
import Derived.Lib.SmallJoins
import Derived.DataShut
namespace Go.Proofs.Ytfedkhomplffoaa
open Go.Joins Go.ChangeShapes Go.WideShapes Go.RowKit Go.Deep

/-- a page as it comes in -/
def IsPage (v : Value) : Prop := ∃ (k n : Int) (b : ByteArray), v = .agg #[.int .i64 k, .int .i64 n, .string b] ∧ (Lit.int .i64 k).wf = true ∧ (Lit.int .i64 n).wf = true ∧ b.size ≤ maxLen
theorem page_open {H : Type} {enc : TypeId × Value → H} {W : World} {base : Nat} {v : Value} {d : DataW H} {p : List MemPlace}
    (hv : Value.okWide Try.prog W .any base 23 v) (h : DataW.Trod enc Try.prog W 0 (fun _ => true) true 23 v d p) : IsPage v := by
  obtain ⟨v0, v1, v2, y0, y1, y2, n, rfl, _, _, h0, h1, h2⟩ := open_agg3 Try.underlying23 (by kernel_rfl) (by kernel_rfl) hv h
  obtain ⟨x, e0, _, wx⟩ := DataW.trod_int Try.underlying3 h0
  obtain ⟨y, e1, _, wy⟩ := DataW.trod_int Try.underlying3 h1
  obtain ⟨t, e2, _, wt⟩ := DataW.trod_string Try.underlying9 h2
  simp at e0 e1 e2
  subst e0 e1 e2
  exact ⟨x, y, t, rfl, wx, wy, wt⟩
end Go.Proofs.Ytfedkhomplffoaa
