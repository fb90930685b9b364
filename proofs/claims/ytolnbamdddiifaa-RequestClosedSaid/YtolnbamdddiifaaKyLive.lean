/- The law's own live. -/
import Derived.Test.YtolnbamdddiifaaKyPart
import Derived.Test.YtolnbamdddiifaaKyBits
namespace Go.Proofs.Ytolnbamdddiifaa.Ky
open Go.RowKit
open Go.Lib (hid)

/-- what is known on the way: points, and boxes in memory -/
structure Cx (w V : World) (L : List (Option Addr × List Nat)) (M : List (Nat × Array Value)) : Prop where
  below : Below w.heap.size w V
  pts : ∀ x ∈ L, Pt V x.1 x.2
  bxs : ∀ x ∈ M, V.heap[x.1]? = some (.cells x.2 25 (0, 0))
section
variable {w V V' : World} {L : List (Option Addr × List Nat)} {M : List (Nat × Array Value)}
theorem Cx.step (h : Cx w V L M) (hb : Below V.heap.size V V') : Cx w V' L M :=
  ⟨h.below.trans (hb.mono h.below.size), fun x hx => (h.pts x hx).below hb, fun x hx => (hb.block _ (lt_of (h.bxs x hx))).trans (h.bxs x hx)⟩
theorem Cx.alloc (h : Cx w V L M) (o : Obj) : Cx w (V.alloc o) L M := h.step (below_alloc V o)
theorem Cx.drewN (h : Cx w V L M) (n : Nat) : Cx w (V.drewN n) L M := ⟨below_drewN h.below n, fun x hx => (h.pts x hx).drewN n, h.bxs⟩
theorem Cx.point (h : Cx w V L M) {l : List Nat} (hf : ∀ x ∈ l, x < 4294967296) {cs : Array Value} (hc : cs = kcs l) : Cx w (V.alloc (.cells cs 47)) ((some ⟨V.heap.size, 0, none⟩, l) :: L) M := by
  subst hc
  have h2 := h.alloc (.cells (kcs l) 47)
  refine ⟨h2.below, fun x hx => ?_, h2.bxs⟩
  rcases List.mem_cons.1 hx with rfl | hx
  · exact (show Own (V.alloc (.cells (kcs l) 47)) V.heap.size l from heap_alloc_new _ _).pt hf
  · exact h2.pts x hx
theorem Cx.box (h : Cx w V L M) (cs : Array Value) : Cx w (V.alloc (.cells cs 25)) L ((V.heap.size, cs) :: M) := by
  have h2 := h.alloc (.cells cs 25)
  refine ⟨h2.below, h2.pts, fun x hx => ?_⟩
  rcases List.mem_cons.1 hx with rfl | hx
  · exact heap_alloc_new _ _
  · exact h2.bxs x hx
theorem Cx.more (h : Cx w V L M) {p : Option Addr} {l : List Nat} (hp : Pt V p l) : Cx w V ((p, l) :: L) M :=
  ⟨h.below, fun x hx => by
    rcases List.mem_cons.1 hx with rfl | hx
    · exact hp
    · exact h.pts x hx, h.bxs⟩
theorem Cx.pt (h : Cx w V L M) {p : Option Addr} {l : List Nat} (hm : (p, l) ∈ L) : Pt V p l := h.pts _ hm
theorem Cx.cells (h : Cx w V L M) {g : Nat} {x y : Value} (hm : (g, #[x, y]) ∈ M) : V.cell? ⟨g, 0, none⟩ = some x ∧ V.cell? ⟨g, 1, none⟩ = some y := by
  have hb := h.bxs _ hm
  exact ⟨by rw [cell_of_row _ _ _ _ _ _ hb]; rfl, by rw [cell_of_row _ _ _ _ _ _ hb]; rfl⟩
end
theorem Cx.start (w : World) : Cx w w [] [] := ⟨Below.refl _ _, fun x hx => absurd hx (by simp), fun x hx => absurd hx (by simp)⟩
theorem is_new (V : World) (l : List Int) (hf : ∀ x ∈ l, -9223372036854775808 ≤ x ∧ x ≤ 9223372036854775807) : Is (V.alloc (.cells (l.map fun x => Value.int .i64 x).toArray 3)) (some ⟨V.heap.size, 0, none⟩) l := by
  refine ⟨fun j hj => ⟨V.heap.size, 0, rfl, by simp, ?_⟩, fun j hj => hf _ (List.getElem_mem hj)⟩
  rw [cell_of_row _ _ _ _ _ _ (heap_alloc_new V _), Nat.zero_add]
  simp [hj]
theorem field33 (A A' : Option Addr) (n c n' c' : Nat) (w : World) : (Instr.field 25 (.agg #[.slice A n c, .slice A' n' c']) 0).run Try.prog w = .ok (.slice A n c) w := by
  first | rfl | kernel_rfl
end Go.Proofs.Ytolnbamdddiifaa.Ky
