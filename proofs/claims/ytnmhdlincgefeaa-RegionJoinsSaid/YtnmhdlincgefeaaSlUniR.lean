/- Fill of slab, whatever is asked (out of SlUni, for a seat without the other calls). -/
import Derived.Test.YtnmhdlincgefeaaSlFill
namespace Go.Proofs.Ytnmhdlincgefeaa.Sl
open Go.RowKit Go.Shelf
open Go.Lib (hid)

theorem below_two (w : World) (o o' : Obj) : Below w.heap.size w ((w.alloc o).alloc o') := (below_alloc w o).alloc (by simp) _
/-- how a slab comes out of a call -/
def Turned (V : World) (b g h : Nat) (S : List Nat) (C : List Int) (V' : World) : Prop := ∃ h', Slb V' b g h' (zs S) C ∧ (h' = h ∨ V.heap.size ≤ h') ∧ Onl (B3 b g h) V V'
theorem turned_same {V V' : World} {b g h : Nat} {S : List Nat} {C : List Int} (H : Slb V b g h (zs S) C) (hb : Below V.heap.size V V') : Turned V b g h S C V' := ⟨h, H.below hb, .inl rfl, Onl.ofBelow hb⟩
theorem onl_mono {F G : Nat → Prop} {w w' : World} (h : Onl F w w') (hf : ∀ k, F k → G k) : Onl G w w' := ⟨h.os, h.tape, h.output, h.size, fun k hk hg => h.block k hk fun e => hg (hf k e)⟩
/-- what Fill answers -/
def fillU (S : List Nat) (C : List Int) (lo hi : List Int) (n : Int) : Int × List Int :=
  if rangeB (zs S) lo hi = true then (0, fillL n ((rangeL (lo.map Int.toNat) (hi.map Int.toNat)).map (placeL S)) C) else (1, C)
theorem range_nat (S : List Nat) (lo hi : List Int) (h : rangeB (zs S) lo hi = true) : ∃ L H : List Nat, lo = zs L ∧ hi = zs H ∧ okC S L = true ∧ okC S H = true := by
  have h' := h
  unfold rangeB at h'
  simp only [Bool.and_eq_true] at h'
  obtain ⟨L, rfl, h1⟩ := cellB_nat S lo h'.1.1
  obtain ⟨H, rfl, h2⟩ := cellB_nat S hi h'.1.2
  exact ⟨L, H, rfl, rfl, h1, h2⟩
theorem zs_nat (L : List Nat) : (zs L).map Int.toNat = L := by simp [zs, Function.comp_def]
theorem fill_uni (V : World) (b g h : Nat) (S : List Nat) (C : List Int) (H : Slb V b g h (zs S) C) (F : Fits S C) (lo hi : List Int) (p q : Option Addr) (c1 c2 : Nat) (hp : CellsD (· = h) V p (iv lo)) (hq : CellsD (· = h) V q (iv hi)) (hl : lo.length ≤ 1000000) (hl2 : hi.length ≤ 1000000) (n : Int) :
    Calls Try.prog 21 #[.pointer (some ⟨b, 0, none⟩), .slice p lo.length c1, .slice q hi.length c2, .int .i64 n] V fun e V' => e = .returned (.int .i64 (fillU S C lo hi n).1) ∧ Turned V b g h S (fillU S C lo hi n).2 V' ∧ Fits S (fillU S C lo hi n).2 := by
  unfold fillU
  cases hh : rangeB (zs S) lo hi with
  | false =>
    simp only [Bool.false_eq_true, if_false]
    exact (fill_bad V b g h (zs S) C H lo hi p q c1 c2 hp.cells hq.cells hl hl2 hh n).mono fun e V' ⟨he, hb⟩ => ⟨he, turned_same H hb, F⟩
  | true =>
    obtain ⟨L, K, rfl, rfl, h1, h2⟩ := range_nat S lo hi hh
    simp only [if_true, zs_nat, zs_len]
    refine (fill_ok V b g h S C H F L K p q c1 c2 hp hq hh h1 h2 n).mono ?_
    rintro e V' ⟨rfl, hs, ho⟩
    exact ⟨rfl, ⟨h, hs, .inl rfl, onl_mono ho fun k e => .inr (.inr e)⟩, ⟨F.some, F.few, F.pos, F.most, by rw [fillL_length]; exact F.len⟩⟩
end Go.Proofs.Ytnmhdlincgefeaa.Sl
