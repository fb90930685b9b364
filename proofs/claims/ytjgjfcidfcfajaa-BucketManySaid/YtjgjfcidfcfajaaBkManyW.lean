/- BucketMany walked. -/
import Derived.Test.YtjgjfcidfcfajaaBkMany
namespace Go.Proofs.Ytjgjfcidfcfajaa
open Go.RowKit
open Go.Lib (hid)
open Go.ChangeShapes Go.WideShapes Go.Joins
open Go.Proofs.Ytjgjfcidfcfajaa.Bk
set_option maxRecDepth 100000 in
theorem BucketMany_open0 {H : Type} {enc : TypeId × Value → H} {W : World} {base : Nat} {v : Value} {d : DataW H} {p : List MemPlace} (hv : Value.okWide Try.prog W .any base 22 v) (h : DataW.Trod enc Try.prog W 0 (fun _ => true) true 22 v d p) : RecsV W v := open_recs hv h
theorem BucketMany_walk (v : Value) (d : Int) (w : World) (h : RecsV w v) (_ : (Lit.int .i64 d).wf = true) :
    Calls Try.prog 8 #[v, .int .i64 d] w fun e w' => e = .returned (.bool true) ∧ Below w.heap.size w w' := by
  obtain ⟨p, L, c, rfl, hp, hc, hc2⟩ := h
  have hl : L.length ≤ 9223372036854775807 := by omega
  cases hf : fewB L with
  | false => exact many_few L p c d w hp hl hf
  | true =>
    cases hi : isBb L d with
    | false => exact many_is L p c d w hp hl hf hi
    | true => exact many_go L p c d w hp hl hf hi
end Go.Proofs.Ytjgjfcidfcfajaa
