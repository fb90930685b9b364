/- Cut, and the reference's Put, Cut and Copies. -/
import Derived.Test.YtolnbamdddiifaaBkPut
namespace Go.Proofs.Ytolnbamdddiifaa.Bk
open Go.RowKit
open Go.Lib (hid)
open Go.Proofs.Ytolnbamdddiifaa.Ky

/-- a list out of its cells -/
theorem Rs.mk {w : World} {p : Option Addr} {xs : List Value} {L : List Rec} (h : RC (fun _ => False) w xs L) (hr : ReadAt w p xs) : Rs (fun _ => False) w p L :=
  ⟨xs, h, fun j u hj => by
    obtain ⟨b, off, e, hb, hc⟩ := hr j u hj
    exact ⟨b, off, e, hb, id, hc⟩⟩
theorem own_below {w w' : World} {base e size n : Nat} {v : Value} {xs : List Value} (h : w.ownsRow base e size v n xs) (hb : Below w.heap.size w w') : w'.ownsRow base e size v n xs := by
  refine ⟨h.1, ?_⟩
  rcases h.2 with hn | ⟨g, cap, cur, hv, hb0, hg, rest⟩
  · exact .inl hn
  · exact .inr ⟨g, cap, cur, hv, hb0, (hb.block g (h.lt g (by rw [hv]; rfl)).2).trans hg, rest⟩
/-- records that are laid one behind the other: the row, and what it holds -/
structure Out (N : Nat) (w : World) (v : Value) (k : Nat) (L : List Rec) (xs : List Value) : Prop where
  own : w.ownsRow N 56 2 v k xs
  rc : RC (fun b => b < N ∨ v.ownBlock = some b) w xs (L.take k)
theorem PtD.grown {D D' : Nat → Prop} {w w' : World} {p : Option Addr} {l : List Nat} (h : PtD D w p l) (hk : Keep D w w') (hd : ∀ b, b < w.heap.size → D' b → D b) : PtD D' w' p l := ⟨fun j hj => by
  obtain ⟨b, off, h1, h2, h3, h4⟩ := h.cells j hj
  exact ⟨b, off, h1, Nat.lt_of_lt_of_le h2 hk.size, fun hb => h3 (hd b h2 hb), (hk.cell h2 h3).trans h4⟩, h.fit⟩
theorem RC.grown {D D' : Nat → Prop} {w w' : World} {xs : List Value} {L : List Rec} (h : RC D w xs L) (hk : Keep D w w') (hd : ∀ b, b < w.heap.size → D' b → D b) : RC D' w' xs L := ⟨h.1, fun j hj => by
  obtain ⟨q, c, h1, h2, h3⟩ := h.2 j hj
  exact ⟨q, c, h1, h2, h3.grown hk hd⟩⟩
theorem Out.push {N : Nat} {wr w3 w' : World} {v v' : Value} {k : Nat} {L : List Rec} {xs : List Value} {q : Option Addr} {c : Nat} (h : Out N wr v k L xs) (hk : k < L.length) (hb : Below wr.heap.size wr w3) (hN : N ≤ wr.heap.size)
    (hq : PtD (Lt wr.heap.size) w3 q L[k].1) (ho : Owns w3 N 56 2 v (k + 1) (xs ++ [.slice q L[k].1.length c, .string L[k].2]) v' w') : Out N w' v' (k + 1) L (xs ++ [.slice q L[k].1.length c, .string L[k].2]) := by
  obtain ⟨h1, h2, h3⟩ := ho
  have hv : ∀ b, v.ownBlock = some b → b < wr.heap.size := fun b hb => (h.own.lt b hb).2
  have hv3 : ∀ b, b < w3.heap.size → v'.ownBlock = some b → v.ownBlock = some b := fun b hlt hb => by
    rcases h3 with e | e
    · rw [← e]; exact hb
    · rw [hb] at e; injection e with e; omega
  refine ⟨h1, ?_⟩
  rw [List.take_succ_eq_append_getElem hk]
  refine RC.app ((h.rc.below hb).grown ⟨h2.size, fun b hlt hD => h2.block b hlt (fun e => hD (.inr e.symm))⟩ (fun b hlt hD => ?_)) (RC.one (hq.grown ⟨h2.size, fun b hlt hD => h2.block b hlt (fun e => hD (hv b e.symm))⟩ (fun b hlt hD => ?_)))
  · rcases hD with hD | hD
    · exact .inl hD
    · exact .inr (hv3 b hlt hD)
  · rcases hD with hD | hD
    · exact Nat.lt_of_lt_of_le hD hN
    · exact hv b (hv3 b hlt hD)
end Go.Proofs.Ytolnbamdddiifaa.Bk
