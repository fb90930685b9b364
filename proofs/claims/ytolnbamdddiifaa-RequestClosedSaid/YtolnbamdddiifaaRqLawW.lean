/- The laws on requests: whatever comes in. -/
import Derived.Test.YtolnbamdddiifaaRqLawC
namespace Go.Proofs.Ytolnbamdddiifaa.Rq
open Go.RowKit
open Go.Lib (hid)
open Go.ChangeShapes Go.WideShapes Go.Joins Go.Deep
open Go.Proofs.Ytolnbamdddiifaa.Ky
open Go.Proofs.Ytolnbamdddiifaa.Bk
section
variable {H : Type} {enc : TypeId × Value → H} {W : World} {base : Nat} {sp : Nat → Bool} {hd : Bool}
theorem cz_bool : Try.prog.cellsOf 4 = 1 := by kernel_rfl
theorem cz_Ca : Try.prog.cellsOf 31 = 11 := by kernel_rfl
def CaV (w : World) (v : Value) : Prop := ∃ (q : QD) (d : Int) (op ins : Bool), v = .agg (q.cells ++ [Value.int .i64 d, .bool op, .bool ins]).toArray ∧ q.Ok w
set_option maxRecDepth 100000 in
set_option maxHeartbeats 1000000 in
theorem ca_cells {n : Nat} {l : List Value} {x : DataW H × List MemPlace} (hl : l.length = 11) (hf : DataW.trod enc Try.prog W base sp hd n 31 l = some x) : ∃ (q : QD) (d : Int) (op ins : Bool), l = q.cells ++ [Value.int .i64 d, .bool op, .bool ins] ∧ q.Ok W := by
  obtain ⟨x0, x1, x2, x3, x4, x5, x6, x7, x8, x9, x10, rfl⟩ : ∃ x0 x1 x2 x3 x4 x5 x6 x7 x8 x9 x10, l = [x0, x1, x2, x3, x4, x5, x6, x7, x8, x9, x10] := by
    match l, hl with
    | [x0, x1, x2, x3, x4, x5, x6, x7, x8, x9, x10], _ => exact ⟨x0, x1, x2, x3, x4, x5, x6, x7, x8, x9, x10, rfl⟩
  obtain ⟨xs, m, _, _, _, hlen, hff⟩ := DataW.trod_struct Try.underlying31 hf
  have hlen2 : xs.length = 4 := hlen
  have some_at : ∀ j, j < 4 → (xs[j]?).isSome = true := fun j hj => by rw [List.getElem?_eq_getElem (by omega)]; rfl
  obtain ⟨y0, hy0⟩ := Option.isSome_iff_exists.1 (some_at 0 (by omega))
  have h0 := hff 0 _ rfl
  rw [hy0] at h0
  have g0 : DataW.trod enc Try.prog W base sp hd m 29 [x0, x1, x2, x3, x4, x5, x6, x7] = some y0 := by rw [← show (([x0, x1, x2, x3, x4, x5, x6, x7, x8, x9, x10] : List Value).drop 0).take (Try.prog.cellsOf 29) = [x0, x1, x2, x3, x4, x5, x6, x7] by rw [cz_Q]; rfl]; exact h0
  obtain ⟨y1, hy1⟩ := Option.isSome_iff_exists.1 (some_at 1 (by omega))
  have h1 := hff 1 _ rfl
  rw [hy1] at h1
  have g1 : DataW.trod enc Try.prog W base sp hd m 3 [x8] = some y1 := by rw [← show (([x0, x1, x2, x3, x4, x5, x6, x7, x8, x9, x10] : List Value).drop 8).take (Try.prog.cellsOf 3) = [x8] from cz_one rfl cz_int]; exact h1
  obtain ⟨y2, hy2⟩ := Option.isSome_iff_exists.1 (some_at 2 (by omega))
  have h2 := hff 2 _ rfl
  rw [hy2] at h2
  have g2 : DataW.trod enc Try.prog W base sp hd m 4 [x9] = some y2 := by rw [← show (([x0, x1, x2, x3, x4, x5, x6, x7, x8, x9, x10] : List Value).drop 9).take (Try.prog.cellsOf 4) = [x9] from cz_one rfl cz_bool]; exact h2
  obtain ⟨y3, hy3⟩ := Option.isSome_iff_exists.1 (some_at 3 (by omega))
  have h3 := hff 3 _ rfl
  rw [hy3] at h3
  have g3 : DataW.trod enc Try.prog W base sp hd m 4 [x10] = some y3 := by rw [← show (([x0, x1, x2, x3, x4, x5, x6, x7, x8, x9, x10] : List Value).drop 10).take (Try.prog.cellsOf 4) = [x10] from cz_one rfl cz_bool]; exact h3
  obtain ⟨q, e0, hq⟩ := q_cells rfl g0
  obtain ⟨a1, e1, _, wf1⟩ := DataW.trod_int Try.underlying3 g1
  obtain ⟨a2, e2, _⟩ := DataW.trod_bool Try.underlying4 g2
  obtain ⟨a3, e3, _⟩ := DataW.trod_bool Try.underlying4 g3
  simp only [List.cons.injEq, and_true] at e1 e2 e3
  subst e1; subst e2; subst e3
  refine ⟨q, a1, a2, a3, ?_, hq⟩
  rw [← e0]; rfl
set_option maxRecDepth 100000 in
theorem open_Ca {v : Value} {d : DataW H} {p : List MemPlace} (hv : Value.okWide Try.prog W .any base 31 v) (h : DataW.Trod enc Try.prog W 0 (fun _ => true) true 31 v d p) : CaV W v := by
  obtain ⟨cs, rfl, hsz⟩ := okWide_struct Try.underlying31 hv
  obtain ⟨fuel, hf⟩ := h
  rw [cz_Ca] at hsz
  obtain ⟨l⟩ := cs
  obtain ⟨q, d, op, ins, rfl, hd⟩ := ca_cells (l := l) hsz hf
  exact ⟨q, d, op, ins, rfl, hd⟩
end
end Go.Proofs.Ytolnbamdddiifaa.Rq
namespace Go.Proofs.Ytolnbamdddiifaa
open Go.RowKit
open Go.ChangeShapes Go.WideShapes Go.Joins Go.Deep
open Go.Proofs.Ytolnbamdddiifaa.Ky Go.Proofs.Ytolnbamdddiifaa.Bk Go.Proofs.Ytolnbamdddiifaa.Rq
theorem RequestClosed_walk (v : Value) (d : Int) (ins : Bool) (w : World) (h : QV w v) (_ : (Lit.int .i64 d).wf = true) : Calls Try.prog 4 #[v, .int .i64 d, .bool ins] w fun e w' => e = .returned (.bool true) ∧ Below w.heap.size w w' := by
  obtain ⟨q, rfl, hq⟩ := h
  exact closed_any q.rq d ins w (QD.raw hq)
theorem RequestOne_walk (v : Value) (a b : Int) (w : World) (h : QV w v) (_ : (Lit.int .i64 a).wf = true) (_ : (Lit.int .i64 b).wf = true) : Calls Try.prog 5 #[v, .int .i64 a, .int .i64 b] w fun e w' => e = .returned (.bool true) ∧ Below w.heap.size w w' := by
  obtain ⟨q, rfl, hq⟩ := h
  exact one_any q.rq a b w (QD.raw hq)
theorem RequestChecks_walk (v : Value) (w : World) (h : CaV w v) : Calls Try.prog 3 #[v] w fun e w' => e = .returned (.bool true) ∧ Below w.heap.size w w' := by
  obtain ⟨q, d, op, ins, rfl, hq⟩ := h
  exact checks_any q.rq d op ins w (QD.raw hq)
section
variable {H : Type} {enc : TypeId × Value → H} {W : World} {base : Nat}
theorem RequestClosed_open0 {v : Value} {d : DataW H} {p : List MemPlace} (hv : Value.okWide Try.prog W .any base 29 v) (h : DataW.Trod enc Try.prog W 0 (fun _ => true) true 29 v d p) : QV W v := open_Q hv h
theorem RequestOne_open0 {v : Value} {d : DataW H} {p : List MemPlace} (hv : Value.okWide Try.prog W .any base 29 v) (h : DataW.Trod enc Try.prog W 0 (fun _ => true) true 29 v d p) : QV W v := open_Q hv h
theorem RequestChecks_open0 {v : Value} {d : DataW H} {p : List MemPlace} (hv : Value.okWide Try.prog W .any base 31 v) (h : DataW.Trod enc Try.prog W 0 (fun _ => true) true 31 v d p) : CaV W v := open_Ca hv h
end
end Go.Proofs.Ytolnbamdddiifaa
