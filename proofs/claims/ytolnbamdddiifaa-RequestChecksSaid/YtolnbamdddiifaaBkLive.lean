/- The law's own live. -/
import Derived.Test.YtolnbamdddiifaaBkDec2
namespace Go.Proofs.Ytolnbamdddiifaa.Bk
open Go.RowKit
open Go.Lib (hid)
open Go.Proofs.Ytolnbamdddiifaa.Ky
open Go.Proofs.Ytolnbamdddiifaa

/-- what is known on the way: points, boxes of records, lists of records -/
structure Ct (w V : World) (P : List (Option Addr × List Nat)) (B : List (Nat × Value × Value)) (R : List (Option Addr × List Rec)) : Prop where
  below : Below w.heap.size w V
  pts : ∀ x ∈ P, Pt V x.1 x.2
  bxs : ∀ x ∈ B, V.heap[x.1]? = some (.cells #[x.2.1, x.2.2] 56)
  rcs : ∀ x ∈ R, Rs (fun _ => False) V x.1 x.2
section
variable {w V V' : World} {P : List (Option Addr × List Nat)} {B : List (Nat × Value × Value)} {R : List (Option Addr × List Rec)}
theorem Ct.start (w : World) : Ct w w [] [] [] := ⟨Below.refl _ _, fun x hx => absurd hx (by simp), fun x hx => absurd hx (by simp), fun x hx => absurd hx (by simp)⟩
theorem Ct.step (h : Ct w V P B R) (hb : Below V.heap.size V V') : Ct w V' P B R :=
  ⟨h.below.trans (hb.mono h.below.size), fun x hx => (h.pts x hx).below hb, fun x hx => (hb.block _ (Array.getElem?_eq_some_iff.1 (h.bxs x hx)).1).trans (h.bxs x hx), fun x hx => (h.rcs x hx).below hb⟩
theorem Ct.alloc (h : Ct w V P B R) (o : Obj) : Ct w (V.alloc o) P B R := h.step (below_alloc V o)
theorem Ct.drew (h : Ct w V P B R) : Ct w V.drew P B R := h.step (Below.refl _ _).drew
theorem Ct.drewN (h : Ct w V P B R) (n : Nat) : Ct w (V.drewN n) P B R := h.step (below_drewN (Below.refl _ _) n)
theorem Ct.more (h : Ct w V P B R) {p : Option Addr} {l : List Nat} (hp : Pt V p l) : Ct w V ((p, l) :: P) B R :=
  ⟨h.below, fun x hx => by
    rcases List.mem_cons.1 hx with rfl | hx
    · exact hp
    · exact h.pts x hx, h.bxs, h.rcs⟩
theorem Ct.list (h : Ct w V P B R) {p : Option Addr} {L : List Rec} {D : Nat → Prop} (hp : Rs D V p L) : Ct w V P B ((p, L) :: R) :=
  ⟨h.below, h.pts, h.bxs, fun x hx => by
    rcases List.mem_cons.1 hx with rfl | hx
    · exact hp.less (fun _ _ h => h.elim)
    · exact h.rcs x hx⟩
theorem Ct.point (h : Ct w V P B R) (l : List Nat) (hf : ∀ x ∈ l, x < 4294967296) {cs : Array Value} (hc : cs = kcs l) : Ct w (V.alloc (.cells cs 47)) ((some ⟨V.heap.size, 0, none⟩, l) :: P) B R := by
  subst hc
  exact (h.alloc _).more ((show Own (V.alloc (.cells (kcs l) 47)) V.heap.size l from heap_alloc_new _ _).pt hf)
theorem Ct.box (h : Ct w V P B R) (a b : Value) : Ct w (V.alloc (.cells #[a, b] 56)) P ((V.heap.size, a, b) :: B) R := by
  have h2 := h.alloc (.cells #[a, b] 56)
  refine ⟨h2.below, h2.pts, fun x hx => ?_, h2.rcs⟩
  rcases List.mem_cons.1 hx with rfl | hx
  · exact heap_alloc_new _ _
  · exact h2.bxs x hx
theorem Ct.pt (h : Ct w V P B R) {p : Option Addr} {l : List Nat} (hm : (p, l) ∈ P) : Pt V p l := h.pts _ hm
theorem Ct.rs (h : Ct w V P B R) {p : Option Addr} {L : List Rec} (hm : (p, L) ∈ R) : Rs (fun _ => False) V p L := h.rcs _ hm
theorem Ct.cells (h : Ct w V P B R) {g : Nat} {a b : Value} (hm : (g, a, b) ∈ B) : V.cell? ⟨g, 0, none⟩ = some a ∧ V.cell? ⟨g, 1, none⟩ = some b := by
  have hb := h.bxs _ hm
  exact ⟨by rw [cell_of_row _ _ _ _ _ _ hb]; rfl, by rw [cell_of_row _ _ _ _ _ _ hb]; rfl⟩
theorem Ct.one (h : Ct w V P B R) {q : Option Addr} {k : List Nat} (c : Nat) (t : ByteArray) (hm : (q, k) ∈ P) : Ct w (V.alloc (.cells #[.slice q k.length c, .string t] 56)) P B ((some ⟨V.heap.size, 0, none⟩, [(k, t)]) :: R) :=
  (h.alloc _).list (Rs.mk (RC.one (Pt.ptd ((h.pt hm).alloc _))) (read_new V _ _ _))
theorem read_four (W : World) (a b c d : Value) (T : TypeId) : ReadAt (W.alloc (.cells #[a, b, c, d] T)) (some ⟨W.heap.size, 0, none⟩) [a, b, c, d] := fun j y hj => by
  refine ⟨W.heap.size, 0, rfl, by simp, ?_⟩
  rw [cell_of_row _ _ _ _ _ _ (heap_alloc_new W _), Nat.zero_add]
  match j, hj with
  | 0, hj => simpa using hj
  | 1, hj => simpa using hj
  | 2, hj => simpa using hj
  | 3, hj => simpa using hj
theorem Ct.two (h : Ct w V P B R) {q q' : Option Addr} {k k' : List Nat} (c c' : Nat) (t t' : ByteArray) (hm : (q, k) ∈ P) (hm' : (q', k') ∈ P) : Ct w (V.alloc (.cells #[.slice q k.length c, .string t, .slice q' k'.length c', .string t'] 56)) P B ((some ⟨V.heap.size, 0, none⟩, [(k, t), (k', t')]) :: R) :=
  (h.alloc _).list (Rs.mk ((RC.one (Pt.ptd ((h.pt hm).alloc _))).app (RC.one (Pt.ptd ((h.pt hm').alloc _)))) (read_four V _ _ _ _ _))
end
def tx : ByteArray := ⟨#[120]⟩
def ty : ByteArray := ⟨#[121, 121]⟩
def X : Rec := ([1], tx)
def Y : Rec := ([5], ty)
theorem l1 : encOk [X] 1 2 = true := by decide
theorem l2 : encS [X] 1 2 = ⟨#[1, 0, 0, 0, 1, 1, 120]⟩ := by rw [encYes l1]; rfl
theorem l3 : encOk [Y, X] 1 2 = false := by decide
theorem l5 : putR [] Y = [Y] := by decide
theorem l6 : putR [Y] X = [X, Y] := by decide
theorem l7 : hasN [X, Y] [5] = true := by decide
theorem l8 : cutR [X, Y] [5] = [X] := by decide
theorem l9 : hasN [X, Y] [2] = false := by decide
theorem l10 : lessN [X, Y] [5] = 1 := by decide
theorem l11 : sizeR [X, Y] = 14 := by decide
theorem l12 : fitsB [X, Y] 2 = true := by decide
theorem l13 : fitsB [X, Y] 1 = false := by decide
theorem l4 : decR ⟨#[1, 0, 0, 0, 1, 1, 120]⟩ 1 2 = ([X], 0) := by
  have h1 : decOk 1 2 = true := by decide
  have h2 : readR [1, 0, 0, 0, 1, 1, 120] 1 = ([X], (7, false)) := by decide
  have h3 : readR (⟨#[1, 0, 0, 0, 1, 1, 120]⟩ : ByteArray).data.toList (1 : Int).toNat = ([X], (7, false)) := h2
  unfold decR
  rw [if_pos h1, h3]
  simp only [l2]
  rfl
theorem big_X : bigR [X] := by unfold bigR X tx; simp; decide
theorem big_Y : bigR [Y] := by unfold bigR Y ty; simp; decide
theorem big_YX : bigR [Y, X] := by unfold bigR X Y tx ty; simp; decide
theorem big_XY : bigR [X, Y] := by unfold bigR X Y tx ty; simp; decide
theorem up_XY : upL [X, Y] := by decide
theorem up_Y : upL [Y] := by decide
section
variable {D : Nat → Prop} {V : World} {p q : Option Addr} {c c' : Nat}
end
end Go.Proofs.Ytolnbamdddiifaa.Bk
