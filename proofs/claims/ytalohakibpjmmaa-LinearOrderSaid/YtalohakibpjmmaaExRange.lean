/- Range of excell: a closure that calls itself. -/
import Derived.Test.YtalohakibpjmmaaExBox
import Derived.Test.YtalohakibpjmmaaKyMeet
import Derived.Test.YtalohakibpjmmaaKyBits
import Derived.Deep.AppendLies
namespace Go.Proofs.Ytalohakibpjmmaa.Ex
open Go.RowKit
open Go.Lib (hid)
open Go.Proofs.Ytalohakibpjmmaa.Ky
open Go.Proofs.Ytalohakibpjmmaa.Pt
open Go.Proofs.Ytalohakibpjmmaa.Bk

def ki (l : List Nat) : List Value := l.map fun (n : Nat) => Value.int .i64 (n : Int)
theorem ki_length (l : List Nat) : (ki l).length = l.length := by simp [ki]
theorem ki_snoc (l : List Nat) (x : Nat) : ki (l ++ [x]) = ki l ++ [.int .i64 (x : Int)] := by simp [ki]
/-- the blocks that a growing row turns: the variable's, its own -/
def Fo (go : Nat) (v : Value) (j : Nat) : Prop := j = go ∨ v.ownBlock = some j
/-- but the blocks F all is as it was -/
structure Exc (F : Nat → Prop) (w w' : World) : Prop where
  os : w'.os = w.os
  tape : w'.tape = w.tape
  output : w'.output = w.output
  size : w.heap.size ≤ w'.heap.size
  block : ∀ k, k < w.heap.size → ¬ F k → w'.heap[k]? = w.heap[k]?
section
variable {F F' : Nat → Prop} {w w' w2 : World}
theorem Exc.keep (h : Exc F w w') : Keep F w w' := ⟨h.size, h.block⟩
theorem Exc.ofBelow (h : Below w.heap.size w w') : Exc F w w' := ⟨h.os, h.tape, h.output, h.size, fun k hk _ => h.block k hk⟩
theorem Exc.trans (h : Exc F w w') (h' : Exc F' w' w2) (hf : ∀ j, j < w.heap.size → F' j → F j) : Exc F w w2 :=
  ⟨h'.os.trans h.os, h'.tape.trans h.tape, h'.output.trans h.output, Nat.le_trans h.size h'.size, fun k hk hn => (h'.block k (Nat.lt_of_lt_of_le hk h.size) (fun hF => hn (hf k hk hF))).trans (h.block k hk hn)⟩
theorem Exc.below {N : Nat} (h : Exc F w w') (hN : N ≤ w.heap.size) (hf : ∀ k, F k → N ≤ k) : Below N w w' :=
  ⟨h.os, h.tape, h.output, h.size, fun k hk => h.block k (Nat.lt_of_lt_of_le hk hN) (fun hk' => by have := hf k hk'; omega)⟩
theorem ptd_move {p : Option Addr} {l : List Nat} (h : PtD F w p l) (hk : Exc F w w') (hf : ∀ j, j < w.heap.size → F' j → F j) : PtD F' w' p l :=
  ⟨fun j hj => by
    obtain ⟨b, off, h1, h2, h3, h4⟩ := h.cells j hj
    exact ⟨b, off, h1, Nat.lt_of_lt_of_le h2 hk.size, fun hF => h3 (hf b h2 hF), (hk.keep.cell h2 h3).trans h4⟩, h.fit⟩
end
/-- the numbers so far, in the variable at go -/
structure Og (w : World) (B go : Nat) (v : Value) (xs : List Nat) : Prop where
  head : w.heap[go]? = some (.cells #[v] 37 (0, 0))
  row : w.ownsRow B 3 1 v xs.length (ki xs)
  lo : go < B
  ge : B ≤ w.heap.size
theorem Og.lt {w : World} {B go : Nat} {v : Value} {xs : List Nat} (h : Og w B go v xs) : ∀ j, Fo go v j → j < w.heap.size := by
  rintro j (rfl | hj)
  · exact (Array.getElem?_eq_some_iff.1 h.head).1
  · exact (h.row.lt j hj).2
theorem Og.step {w w' : World} {B go : Nat} {v : Value} {xs : List Nat} (h : Og w B go v xs) (hb : Below w.heap.size w w') : Og w' B go v xs := by
  refine ⟨(hb.block go (h.lt go (.inl rfl))).trans h.head, ⟨h.row.1, ?_⟩, h.lo, Nat.le_trans h.ge hb.size⟩
  rcases h.row.2 with h0 | ⟨g, cap, cur, hv, hg, hh, rest⟩
  · exact .inl h0
  · exact .inr ⟨g, cap, cur, hv, hg, by rw [hb.block g (Array.getElem?_eq_some_iff.1 hh).1]; exact hh, rest⟩
/-- what the closure has captured -/
structure Fx (w : World) (F : Nat → Prop) (gb gd go gf : Nat) (pb qb : Option Addr) (cb cb' D : Nat) (bl bh : List Nat) : Prop where
  box : w.heap[gb]? = some (.cells #[.slice pb bl.length cb, .slice qb bh.length cb'] 32 (0, 0))
  dep : w.heap[gd]? = some (.cells #[.int .i64 (D : Int)] 3 (0, 0))
  fn : w.heap[gf]? = some (.cells #[.func (.func 49) #[] #[.pointer (some ⟨gb, 0, none⟩), .pointer (some ⟨gd, 0, none⟩), .pointer (some ⟨go, 0, none⟩), .pointer (some ⟨gf, 0, none⟩)]] 68 (0, 0))
  lo : PtD F w pb bl
  hi : PtD F w qb bh
  nb : ¬ F gb
  nd : ¬ F gd
  nf : ¬ F gf
theorem Fx.move {w w' : World} {F F' : Nat → Prop} {gb gd go gf : Nat} {pb qb : Option Addr} {cb cb' D : Nat} {bl bh : List Nat} (h : Fx w F gb gd go gf pb qb cb cb' D bl bh) (hk : Exc F w w') (hf : ∀ j, j < w.heap.size → F' j → F j) : Fx w' F' gb gd go gf pb qb cb cb' D bl bh := by
  have hl : ∀ {g : Nat} {o : Obj}, w.heap[g]? = some o → g < w.heap.size := fun h => (Array.getElem?_eq_some_iff.1 h).1
  exact ⟨(hk.block gb (hl h.box) h.nb).trans h.box, (hk.block gd (hl h.dep) h.nd).trans h.dep, (hk.block gf (hl h.fn) h.nf).trans h.fn, ptd_move h.lo hk hf, ptd_move h.hi hk hf,
    fun hF => h.nb (hf _ (hl h.box) hF), fun hF => h.nd (hf _ (hl h.dep) hF), fun hF => h.nf (hf _ (hl h.fn) hF)⟩
theorem one_cell {w : World} {g : Nat} {v : Value} {t : TypeId} (h : w.heap[g]? = some (.cells #[v] t (0, 0))) : w.cell? ⟨g, 0, none⟩ = some v ∧ w.frozen? ⟨g, 0, none⟩ = false :=
  ⟨by rw [cell_of_row _ _ _ _ _ _ h]; rfl, by simp [World.frozen?, h]⟩
theorem or_one (x : Nat) (h : x < 1000000) : bits .or .i64 ((2 * x : Nat) : Int) 1 = ((2 * x + 1 : Nat) : Int) := by
  have e : (BitVec.ofInt IntKind.i64.bits ((2 * x : Nat) : Int) ||| BitVec.ofInt IntKind.i64.bits 1).toNat = 2 * x + 1 := by
    change (BitVec.ofInt 64 ((2 * x : Nat) : Int) ||| BitVec.ofInt 64 1).toNat = _
    rw [BitVec.toNat_or, BitVec.toNat_ofInt, BitVec.toNat_ofInt]
    have e1 : (((2 * x : Nat) : Int) % ((2 ^ 64 : Nat) : Int)).toNat = 2 * x := by omega
    have e2 : ((1 : Int) % ((2 ^ 64 : Nat) : Int)).toNat = 1 := by decide
    rw [e1, e2]
    have h1 : (2 * x ||| 1) / 2 = 2 * x / 2 ||| 1 / 2 := Nat.or_div_two
    have h2 : (2 * x ||| 1) % 2 = 1 := by rw [Nat.or_mod_two_eq_one]; omega
    rw [show 1 / 2 = 0 from rfl, Nat.or_zero] at h1
    omega
  show IntKind.i64.wrap _ = _
  rw [e]
  exact Go.IntWalk.i64_in _ (by omega)
theorem infoI : (Try.prog.info? 3).map (fun i => (i.zero, i.size, i.bytes)) = some (some (.int .i64 0), 1, 8) := by kernel_rfl
/-- one number more -/
theorem Og.push {w wb w2 : World} {B go g cap x : Nat} {v : Value} {xs : List Nat} {o : Obj} (h : Og w B go v xs) (hwb : wb = w.alloc o)
    (ho : w2.ownsRow B 3 1 (.slice (some ⟨g, 0, none⟩) (xs.length + 1) cap) (xs.length + 1) (ki xs ++ [.int .i64 (x : Int)])) (hg : wb.grownBy w2 v.ownBlock) (hat : v.ownBlock = some g ∨ g = wb.heap.size) :
    Og (w2.setCell ⟨go, 0, none⟩ (.slice (some ⟨g, 0, none⟩) (xs.length + 1) cap)) B go (.slice (some ⟨g, 0, none⟩) (xs.length + 1) cap) (xs ++ [x]) ∧ Exc (Fo go v) w (w2.setCell ⟨go, 0, none⟩ (.slice (some ⟨g, 0, none⟩) (xs.length + 1) cap)) ∧
      ∀ j, j < w.heap.size → (Value.slice (some ⟨g, 0, none⟩) (xs.length + 1) cap).ownBlock = some j → v.ownBlock = some j := by
  have hgo := h.lt go (.inl rfl)
  have hs : wb.heap.size = w.heap.size + 1 := by rw [hwb]; simp
  have hne : some go ≠ v.ownBlock := own_far h.row h.lo
  have hh : w2.heap[go]? = some (.cells #[v] 37 (0, 0)) := by
    rw [hg.block go (by omega) hne, hwb, Below.heap_alloc _ _ _ hgo]; exact h.head
  refine ⟨⟨by simp [World.setCell, Array.getElem?_modify, hh], ?_, h.lo, by have := hg.size; have := h.ge; rw [World.size_setCell]; omega⟩, ⟨?_, ?_, ?_, ?_, ?_⟩, ?_⟩
  · have := own_set ho (p := ⟨go, 0, none⟩) (by exact h.lo) (.slice (some ⟨g, 0, none⟩) (xs.length + 1) cap)
    rw [ki_snoc, List.length_append]; exact this
  · show w2.os = w.os
    rw [hg.os, hwb]; rfl
  · show w2.tape = w.tape
    rw [hg.tape, hwb]; rfl
  · show w2.output = w.output
    rw [hg.output, hwb]; rfl
  · have := hg.size; rw [World.size_setCell]; omega
  · intro k hk hF
    rw [Below.heap_setCell _ _ _ _ (fun e => hF (.inl e)), hg.block k (by omega) (fun e => hF (.inr e.symm)), hwb, Below.heap_alloc _ _ _ hk]
  · intro j hj e
    have e : some g = some j := e
    injection e with e
    subst e
    rcases hat with h1 | h1
    · exact h1
    · omega
end Go.Proofs.Ytalohakibpjmmaa.Ex
