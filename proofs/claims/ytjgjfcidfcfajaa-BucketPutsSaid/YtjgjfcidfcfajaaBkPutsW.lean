/- BucketPuts walked. -/
import Derived.Test.YtjgjfcidfcfajaaBkPuts
namespace Go.Proofs.Ytjgjfcidfcfajaa
open Go.RowKit
open Go.Lib (hid)
open Go.ChangeShapes Go.WideShapes Go.Joins
open Go.Proofs.Ytjgjfcidfcfajaa.Bk
set_option maxRecDepth 100000 in
theorem BucketPuts_open0 {H : Type} {enc : TypeId × Value → H} {W : World} {base : Nat} {v : Value} {d : DataW H} {p : List MemPlace} (hv : Value.okWide Try.prog W .any base 22 v) (h : DataW.Trod enc Try.prog W 0 (fun _ => true) true 22 v d p) : RecsV W v := open_recs hv h
set_option maxRecDepth 100000 in
theorem BucketPuts_open1 {H : Type} {enc : TypeId × Value → H} {W : World} {base : Nat} {v : Value} {d : DataW H} {p : List MemPlace} (hv : Value.okWide Try.prog W .any base 38 v) (h : DataW.Trod enc Try.prog W 0 (fun _ => true) true 38 v d p) : RecV W v := open_rec hv h
theorem BucketPuts_walk (v v1 : Value) (d : Int) (w : World) (h : RecsV w v) (h1 : RecV w v1) (_ : (Lit.int .i64 d).wf = true) :
    Calls Try.prog 5 #[v, v1, .int .i64 d] w fun e w' => e = .returned (.bool true) ∧ Below w.heap.size w w' := by
  obtain ⟨p, L, c, rfl, hp, hc, hc2⟩ := h
  obtain ⟨q, x, c', t, rfl, hq, hx, ht⟩ := h1
  have hl : L.length ≤ 9223372036854775807 := by omega
  cases hf : fewB L with
  | false => exact puts_few L x t p q c c' d w hp hl hf
  | true =>
    cases hi : isBb L d with
    | false => exact puts_is L x t p q c c' d w hp hl hf hi
    | true =>
      by_cases hs : x.length ≤ 20 ∧ t.size ≤ 100
      · exact puts_go L x t p q c c' d w hp hq hc hl hf hi hs.1 hs.2
      · exact puts_long L x t p q c c' d w hp hl hf hi hx ht hs
end Go.Proofs.Ytjgjfcidfcfajaa
