/- A script of Ops that came in, opened; and an argument of type Stays. -/
import Derived.Test.YtlkejjclmamlaaaDkLive
import Derived.Lib.SmallJoins
import Derived.ProofKit
import Derived.Deep.Slices
namespace Go.Proofs.Ytlkejjclmamlaaa
open Go.RowKit
open Go.Lib (hid)
open Go.ChangeShapes Go.WideShapes Go.Joins Go.Deep

section
variable {H : Type} {enc : TypeId × Value → H} {W : World} {base : Nat} {sp : Nat → Bool} {hd : Bool}
theorem cell_at {l : List Value} {j c : Nat} {x : Value} (hx : l[j]? = some x) (hc : c = 1) : (l.drop j).take c = [x] := by
  subst hc
  obtain ⟨h, e⟩ := List.getElem?_eq_some_iff.1 hx
  rw [List.drop_eq_getElem_cons h, e]; rfl
theorem read_int (t : TypeId) (k : IntKind) (j : Nat) {n : Nat} {x : Value} {l : List Value} {o : Option (DataW H × List MemPlace)} (ht : Try.prog.underlying t = some (.int k)) (hc : Try.prog.cellsOf t = 1) (hx : l[j]? = some x) (ho : o.isSome = true)
    (h : DataW.trod enc Try.prog W base sp hd n t ((l.drop j).take (Try.prog.cellsOf t)) = o) : ∃ a : Int, x = .int k a ∧ (Lit.int k a).wf = true := by
  obtain ⟨y, rfl⟩ := Option.isSome_iff_exists.1 ho
  rw [cell_at hx hc] at h
  obtain ⟨a, e, _, wa⟩ := DataW.trod_int ht h
  simp at e
  exact ⟨a, e, wa⟩
theorem read_slice (t e : TypeId) (j : Nat) {n : Nat} {x : Value} {l : List Value} {o : Option (DataW H × List MemPlace)} (ht : Try.prog.underlying t = some (.slice e)) (hc : Try.prog.cellsOf t = 1) (hx : l[j]? = some x) (ho : o.isSome = true)
    (h : DataW.trod enc Try.prog W base sp hd n t ((l.drop j).take (Try.prog.cellsOf t)) = o) : ∃ a len cap, x = .slice a len cap := by
  obtain ⟨y, rfl⟩ := Option.isSome_iff_exists.1 ho
  rw [cell_at hx hc] at h
  rcases open_slice ht h with ⟨hcs, _⟩ | ⟨z, _, _, _, _, _, _, hcs, _⟩
  · simp at hcs; exact ⟨_, _, _, hcs⟩
  · simp at hcs; exact ⟨_, _, _, hcs⟩
theorem c3 : Try.prog.cellsOf 3 = 1 := by kernel_rfl
theorem c5 : Try.prog.cellsOf 5 = 1 := by kernel_rfl
theorem c22 : Try.prog.cellsOf 71 = 1 := by kernel_rfl
theorem c31 : Try.prog.cellsOf 78 = 1 := by kernel_rfl
theorem c33 : Try.prog.cellsOf 80 = 6 := by kernel_rfl
/-- a number that an int may be, and one that a byte may be -/
def isInt (n : Int) : Prop := -9223372036854775808 ≤ n ∧ n ≤ 9223372036854775807
theorem wf_int {x : Int} (h : (Lit.int .i64 x).wf = true) : isInt x := Fd.wf_i64 h
theorem wf_byte {x : Int} (h : (Lit.int .u8 x).wf = true) : ∃ c : UInt8, x = (c.toNat : Int) := by
  have h2 : 0 ≤ x ∧ x < 256 := by
    have h1 : IntKind.u8.min = 0 := rfl
    have h2 : IntKind.u8.max = 255 := rfl
    simp [Lit.wf] at h
    omega
  exact ⟨UInt8.ofNat x.toNat, by simp; omega⟩
/-- the values of a struct of type Op, out of its cells -/
theorem op_cells {n : Nat} {l : List Value} {x : DataW H × List MemPlace} (hl : l.length = 6) (h : DataW.trod enc Try.prog W base sp hd n 80 l = some x) :
    ∃ (a b : Int) (c : UInt8) (ka : Option Addr) (kl kc : Nat) (t u : Int), l = [.int .i64 a, .int .i64 b, .int .u8 (c.toNat : Int), .slice ka kl kc, .int .i64 t, .int .i64 u] ∧ isInt a ∧ isInt b := by
  obtain ⟨x0, x1, x2, x3, x4, x5, rfl⟩ : ∃ x0 x1 x2 x3 x4 x5, l = [x0, x1, x2, x3, x4, x5] := by
    match l, hl with
    | [x0, x1, x2, x3, x4, x5], _ => exact ⟨x0, x1, x2, x3, x4, x5, rfl⟩
  obtain ⟨xs, m, _, _, _, hlen, hf⟩ := DataW.trod_struct Try.underlying80 h
  have hlen6 : xs.length = 6 := hlen
  have some_at : ∀ j, j < 6 → (xs[j]?).isSome = true := fun j hj => by rw [List.getElem?_eq_getElem (by omega)]; rfl
  obtain ⟨a, rfl, wa⟩ := read_int 3 .i64 0 Try.underlying3 c3 rfl (some_at 0 (by omega)) (hf 0 _ rfl)
  obtain ⟨b, rfl, wb⟩ := read_int 3 .i64 1 Try.underlying3 c3 rfl (some_at 1 (by omega)) (hf 1 _ rfl)
  obtain ⟨c, rfl, wc⟩ := read_int 5 .u8 2 Try.underlying5 c5 rfl (some_at 2 (by omega)) (hf 2 _ rfl)
  obtain ⟨ka, kl, kc, rfl⟩ := read_slice 78 3 3 Try.underlying78 c31 rfl (some_at 3 (by omega)) (hf 3 _ rfl)
  obtain ⟨t, rfl, _⟩ := read_int 3 .i64 4 Try.underlying3 c3 rfl (some_at 4 (by omega)) (hf 4 _ rfl)
  obtain ⟨u, rfl, _⟩ := read_int 3 .i64 5 Try.underlying3 c3 rfl (some_at 5 (by omega)) (hf 5 _ rfl)
  obtain ⟨cc, rfl⟩ := wf_byte wc
  exact ⟨a, b, cc, ka, kl, kc, t, u, rfl, wf_int wa, wf_int wb⟩
/-- an element of a script, in six cells -/
structure OpAt (w : World) (b p : Nat) (a n : Int) (c : UInt8) (kv : Value) (t u : Int) : Prop where
  c0 : w.cell? ⟨b, p, none⟩ = some (.int .i64 a)
  c1 : w.cell? ⟨b, p + 1, none⟩ = some (.int .i64 n)
  c2 : w.cell? ⟨b, p + 2, none⟩ = some (.int .u8 (c.toNat : Int))
  c3 : w.cell? ⟨b, p + 3, none⟩ = some kv
  c4 : w.cell? ⟨b, p + 4, none⟩ = some (.int .i64 t)
  c5 : w.cell? ⟨b, p + 5, none⟩ = some (.int .i64 u)
  wn : isInt n
/-- a script that came in: of no elements, or so many in a row -/
def IsScript (w : World) (a : Option Addr) (len : Nat) : Prop :=
  len ≤ maxLen ∧ (len = 0 ∨ ∃ b off, a = some ⟨b, off, none⟩ ∧ b < w.heap.size ∧ ∀ i, i < len → ∃ x n c ka kl kc t u, OpAt w b (off + i * 6) x n c (.slice ka kl kc) t u)
theorem script_trod {n : Nat} {cs : List Value} {x : DataW H × List MemPlace} {a : Option Addr} {len cap : Nat} (hcs0 : cs = [.slice a len cap]) (hf : DataW.trod enc Try.prog W base sp hd n 71 cs = some x) : IsScript W a len := by
  rcases open_slice Try.underlying71 hf with ⟨hcs, _⟩ | ⟨x, l, c, m, n, D, Pl, hcs, _, hlc, hcm, hm, _, hi⟩
  · rw [hcs] at hcs0
    simp at hcs0
    exact ⟨by rw [← hcs0.2.1]; exact Nat.zero_le _, .inl hcs0.2.1.symm⟩
  · rw [hcs] at hcs0
    simp at hcs0
    obtain ⟨rfl, rfl, rfl⟩ := hcs0
    by_cases h0 : l = 0
    · exact ⟨by rw [h0]; exact Nat.zero_le _, .inl h0⟩
    · have hml : l ≤ m := by rw [hm]; split <;> omega
      have cell : ∀ i, i < l → ∃ (a b : Int) (c : UInt8) (ka : Option Addr) (kl kc : Nat) (t u : Int), (∀ j y, [Value.int .i64 a, .int .i64 b, .int .u8 (c.toNat : Int), .slice ka kl kc, .int .i64 t, .int .i64 u][j]? = some y → W.cell? ((x.add (i * 6)).add j) = some y) ∧ isInt a ∧ isInt b := by
        intro i hil
        obtain ⟨cs', hc, ht'⟩ := hi i (by omega)
        rw [c33] at hc
        obtain ⟨_, hl6, hat⟩ := World.cells?_some hc
        obtain ⟨a, b, cc, ka, kl, kc, t, u, rfl, wa, wb⟩ := op_cells hl6 ht'
        refine ⟨a, b, cc, ka, kl, kc, t, u, fun j y hy => ?_, wa, wb⟩
        rw [hat j (by have := (List.getElem?_eq_some_iff.1 hy).1; simpa using this), hy]
      obtain ⟨blk, off, spot⟩ := x
      obtain ⟨a0, b0, cc0, ka0, kl0, kc0, t0, u0, hc0, _⟩ := cell 0 (by omega)
      have hfirst := hc0 0 _ rfl
      have hspot : spot = none := by simpa [Addr.add] using World.cell?_spot hfirst
      subst hspot
      have hadd : ∀ o i, (⟨blk, o, none⟩ : Addr).add i = ⟨blk, o + i, none⟩ := fun o i => by unfold Addr.add; split <;> simp_all
      refine ⟨by unfold maxLen at hcm ⊢; omega, .inr ⟨blk, off, rfl, ?_, fun i hil => ?_⟩⟩
      · rw [hadd, hadd] at hfirst; exact block_lt_of_cell hfirst
      · obtain ⟨a, b, cc, ka, kl, kc, t, u, hc, wa, wb⟩ := cell i hil
        have e0 := hc 0 _ rfl
        have e1 := hc 1 _ rfl
        have e2 := hc 2 _ rfl
        have e3 := hc 3 _ rfl
        have e4 := hc 4 _ rfl
        have e5 := hc 5 _ rfl
        rw [hadd, hadd] at e0 e1 e2 e3 e4 e5
        exact ⟨a, b, cc, ka, kl, kc, t, u, e0, e1, e2, e3, e4, e5, wb⟩
set_option maxRecDepth 100000 in
theorem open_script {v : Value} {d : DataW H} {p : List MemPlace}
    (hv : Value.okWide Try.prog W .any base 71 v) (h : DataW.Trod enc Try.prog W 0 (fun _ => true) true 71 v d p) :
    ∃ a len cap, v = .slice a len cap ∧ IsScript W a len := by
  obtain ⟨a, len, cap, rfl⟩ := okWide_slice Try.underlying71 hv
  obtain ⟨fuel, hf⟩ := h
  exact ⟨a, len, cap, rfl, script_trod (a := a) (len := len) (cap := cap) (cs := (Value.slice a len cap).cells.toList) (by simp [Value.cells]) hf⟩
end
end Go.Proofs.Ytlkejjclmamlaaa
