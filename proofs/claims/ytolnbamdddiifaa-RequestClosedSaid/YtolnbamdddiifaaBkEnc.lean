/- Encode of bucket. -/
import Derived.Test.YtolnbamdddiifaaBkCut
import Derived.Test.YtolnbamdddiifaaBkIs
import Derived.Test.YtolnbamdddiifaaFdOf
namespace Go.Proofs.Ytolnbamdddiifaa.Bk
open Go.RowKit
open Go.Lib (hid)
open Go.Proofs.Ytolnbamdddiifaa.Ky
open Go.Proofs.Ytolnbamdddiifaa

/-- a bucket's bytes -/
def encK (k : List Nat) : List UInt8 := k.flatMap (Fd.be 4)
def encR (r : Rec) : List UInt8 := encK r.1 ++ (Fd.be 1 r.2.size ++ r.2.data.toList)
def encL (L : List Rec) : List UInt8 := Fd.be 1 L.length ++ L.flatMap encR
theorem encK_length (k : List Nat) : (encK k).length = 4 * k.length := by
  induction k with
  | nil => rfl
  | cons a l ih => unfold encK at *; simp only [List.flatMap_cons, List.length_append, Fd.be_length, List.length_cons, ih]; omega
theorem encR_length (r : Rec) : (encR r).length = 4 * r.1.length + 1 + r.2.size := by
  unfold encR
  rw [List.length_append, List.length_append, encK_length, Fd.be_length, Fd.size_list]; omega
theorem encL_length (L : List Rec) : (encL L).length = sizeR L := by
  have : (L.flatMap encR).length = (L.map fun r => 4 * r.1.length + 1 + r.2.size).sum := by
    induction L with
    | nil => rfl
    | cons a l ih => simp only [List.flatMap_cons, List.length_append, List.map_cons, List.sum_cons, ih, encR_length]
  unfold encL sizeR
  rw [List.length_append, Fd.be_length, this]
/-- the blocks of a writer that turn -/
def K2 (G B : Nat) : Nat → Prop := fun b => b = G ∨ b = B
/-- what has turned since: below N nothing, and of the rest G and B alone -/
structure Wu (N G B : Nat) (w w' : World) : Prop where
  below : Below N w w'
  keep : Keep (K2 G B) w w'
theorem Wu.refl (N G B : Nat) (w : World) : Wu N G B w w := ⟨Below.refl _ _, Nat.le_refl _, fun _ _ _ => rfl⟩
theorem Wu.trans {N G B : Nat} {w w1 w2 : World} (h : Wu N G B w w1) (g : Wu N G B w1 w2) : Wu N G B w w2 :=
  ⟨h.below.trans g.below, Nat.le_trans h.keep.size g.keep.size, fun k hk hD => by rw [g.keep.block k (Nat.lt_of_lt_of_le hk h.keep.size) hD, h.keep.block k hk hD]⟩
theorem Wu.of_below {N G B : Nat} {w w' : World} (h : Below w.heap.size w w') (hN : N ≤ w.heap.size) : Wu N G B w w' := ⟨h.mono hN, .below h⟩
theorem Wu.of_drew {N G B : Nat} {w w' : World} (h : Wu N G B w.drew w') : Wu N G B w w' := ⟨⟨h.below.os, h.below.tape, h.below.output, h.below.size, h.below.block⟩, h.keep.size, h.keep.block⟩
theorem upd_keep {G B : Nat} {l : List UInt8} {w w' : World} (h : Fd.Upd B l w w') : Keep (K2 G B) w w' := ⟨h.size, fun k hk hD => h.block k hk (fun e => hD (.inr e))⟩
theorem put_front (P T : List UInt8) (S : Nat) (h : P.length + T.length ≤ S) : Fd.putAt (P ++ List.replicate (S - P.length) 0) P.length T = (P ++ T) ++ List.replicate (S - (P ++ T).length) 0 := by
  unfold Fd.putAt
  rw [List.take_left, List.drop_append, List.drop_eq_nil_of_le (by omega), List.nil_append, List.drop_replicate, List.length_append]
  congr 2; omega
theorem encK_take (x : List Nat) (j : Nat) (h : j < x.length) : encK (x.take (j + 1)) = encK (x.take j) ++ Fd.be 4 x[j] := by
  unfold encK; rw [List.take_succ_eq_append_getElem h, List.flatMap_append]; simp
end Go.Proofs.Ytolnbamdddiifaa.Bk
