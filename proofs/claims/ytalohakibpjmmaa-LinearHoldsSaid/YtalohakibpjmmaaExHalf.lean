/- The halves of a cell, as excell asks part for them. -/
import Derived.Test.YtalohakibpjmmaaPtHalf3
import Derived.Test.YtalohakibpjmmaaExMath
import Derived.Test.YtalohakibpjmmaaExCx
namespace Go.Proofs.Ytalohakibpjmmaa.Ex
open Go.RowKit
open Go.Lib (hid)
open Go.Proofs.Ytalohakibpjmmaa.Ky
open Go.Proofs.Ytalohakibpjmmaa.Pt
open Go.Proofs.Ytalohakibpjmmaa.Bk

theorem cell_fit {n : Nat} (hn : 1 ≤ n ∧ n ≤ 6) (d a : Nat) (hd : d ≤ 32) : (cell n d a).1.length = n ∧ (cell n d a).2.length = n := ⟨(cell_cel hn d a hd).l1, (cell_cel hn d a hd).l2⟩
/-- two boxes of n coordinates were returned, in new memory -/
def TwoPost (w : World) (n : Nat) (x y : List Nat × List Nat) (e : Ending) (w' : World) : Prop :=
  ∃ p1 c1 p2 c2 p3 c3 p4 c4, e = .returned (.tuple #[.agg #[.slice p1 n c1, .slice p2 n c2], .agg #[.slice p3 n c3, .slice p4 n c4]]) ∧
    PtD (fun k => k < w.heap.size) w' p1 x.1 ∧ PtD (fun k => k < w.heap.size) w' p2 x.2 ∧ PtD (fun k => k < w.heap.size) w' p3 y.1 ∧ PtD (fun k => k < w.heap.size) w' p4 y.2 ∧ Below w.heap.size w w'
theorem halves_cell {n d a : Nat} (hn : 1 ≤ n ∧ n ≤ 6) (hd : d < 32) {p q : Option Addr} (c c' : Nat) (V : World) (g : Pt V p (cell n d a).1) (g' : Pt V q (cell n d a).2) :
    Calls Try.prog 56 #[.agg #[.slice p n c, .slice q n c'], .int .i64 ((d % n : Nat) : Int)] V fun e w' => ∃ p1 c1 p2 c2 p3 c3 p4 c4, e = .returned (.tuple #[.agg #[.slice p1 n c1, .slice p2 n c2], .agg #[.slice p3 n c3, .slice p4 n c4], .bool true]) ∧
      PtD (fun k => k < V.heap.size) w' p1 (cell n (d + 1) (2 * a)).1 ∧ PtD (fun k => k < V.heap.size) w' p2 (cell n (d + 1) (2 * a)).2 ∧ PtD (fun k => k < V.heap.size) w' p3 (cell n (d + 1) (2 * a + 1)).1 ∧ PtD (fun k => k < V.heap.size) w' p4 (cell n (d + 1) (2 * a + 1)).2 ∧ Below V.heap.size V w' := by
  have f0 := cell_fit hn d a (by omega)
  have f1 := cell_fit hn (d + 1) (2 * a) (by omega)
  have f2 := cell_fit hn (d + 1) (2 * a + 1) (by omega)
  obtain ⟨k1, k2⟩ := cell_two n d a
  have hb := cell_half hn d a hd
  have HH := halves_new (cell n d a).1 (cell n d a).2 p q c c' ((d % n : Nat) : Int) V g g' (by rw [f0.1]; omega) hb
  unfold HalfNew at HH
  rw [hb, show xlo (cell n d a).1 (cell n d a).2 ((d % n : Nat) : Int) = (cell n (d + 1) (2 * a)).1 by rw [k1], show xhi (cell n d a).1 (cell n d a).2 ((d % n : Nat) : Int) = (cell n (d + 1) (2 * a)).2 by rw [k1], show ylo (cell n d a).1 (cell n d a).2 ((d % n : Nat) : Int) = (cell n (d + 1) (2 * a + 1)).1 by rw [k2], show yhi (cell n d a).1 (cell n d a).2 ((d % n : Nat) : Int) = (cell n (d + 1) (2 * a + 1)).2 by rw [k2], f0.1, f0.2, f1.1, f1.2, f2.1, f2.2] at HH
  exact HH
/-- two boxes stand in memory of the call's own -/
def Halved (N n : Nat) (W : World) (x y : List Nat × List Nat) (s s' : Value) (V : World) : Prop :=
  ∃ g g' p1 c1 p2 c2 p3 c3 p4 c4, s = .pointer (some ⟨g, 0, none⟩) ∧ s' = .pointer (some ⟨g', 0, none⟩) ∧ V.heap[g]? = some (.cells #[.slice p1 n c1, .slice p2 n c2] 32 (0, 0)) ∧ V.heap[g']? = some (.cells #[.slice p3 n c3, .slice p4 n c4] 32 (0, 0)) ∧ (N ≤ g ∧ N ≤ g') ∧
    (PtD (fun k => k < N) V p1 x.1 ∧ PtD (fun k => k < N) V p2 x.2 ∧ PtD (fun k => k < N) V p3 y.1 ∧ PtD (fun k => k < N) V p4 y.2) ∧ Below N W V
/-- four points in new memory -/
def Fours (N : Nat) (V : World) (p1 p2 p3 p4 : Option Addr) (x y : List Nat × List Nat) : Prop := PtD (fun k => k < N) V p1 x.1 ∧ PtD (fun k => k < N) V p2 x.2 ∧ PtD (fun k => k < N) V p3 y.1 ∧ PtD (fun k => k < N) V p4 y.2
theorem ptd_off {N g : Nat} {V : World} {p : Option Addr} {l : List Nat} {x y : Value} (h : PtD (fun k => k < N) V p l) (hg : V.heap[g]? = some (.cells #[x, y] 32 (0, 0))) (hx : ∀ z, x ≠ .int .u32 z) (hy : ∀ z, y ≠ .int .u32 z) (i : Nat) (u : Value) : PtD (fun k => k < N) (V.setCell ⟨g, i, none⟩ u) p l :=
  ⟨fun j hj => by
    obtain ⟨b, off, h1, h2, h3, h4⟩ := h.cells j hj
    obtain ⟨b', off', e, h5, h6⟩ := (h.pt.off hg hx hy (u := u) (i := i)).cells j hj
    rw [h1] at e; injection e with e; injection e with e1 e2
    subst e1 e2
    exact ⟨b, off, h1, h5, h3, h6⟩, h.fit⟩
theorem Fours.set {N g n m c c' : Nat} {p q : Option Addr} {V : World} {p1 p2 p3 p4 : Option Addr} {x y : List Nat × List Nat} (h : Fours N V p1 p2 p3 p4 x y) (hg : V.heap[g]? = some (.cells #[Value.slice none 0 0, .slice none 0 0] 32 (0, 0))) :
    Fours N ((V.setCell ⟨g, 0, none⟩ (.slice p n c)).setCell ⟨g, 1, none⟩ (.slice q m c')) p1 p2 p3 p4 x y := by
  have b1 : (V.setCell ⟨g, 0, none⟩ (.slice p n c)).heap[g]? = some (.cells #[.slice p n c, .slice none 0 0] 32 (0, 0)) := by simp [World.setCell, Array.getElem?_modify, hg]
  have f : ∀ {pp : Option Addr} {l : List Nat}, PtD (fun k => k < N) V pp l → PtD (fun k => k < N) ((V.setCell ⟨g, 0, none⟩ (.slice p n c)).setCell ⟨g, 1, none⟩ (.slice q m c')) pp l := fun h => ptd_off (ptd_off h hg (by simp) (by simp) _ _) b1 (by simp) (by simp) _ _
  exact ⟨f h.1, f h.2.1, f h.2.2.1, f h.2.2.2⟩
theorem Fours.below {N : Nat} {V V' : World} {p1 p2 p3 p4 : Option Addr} {x y : List Nat × List Nat} (h : Fours N V p1 p2 p3 p4 x y) (hb : Below V.heap.size V V') : Fours N V' p1 p2 p3 p4 x y := ⟨h.1.keep (.below hb), h.2.1.keep (.below hb), h.2.2.1.keep (.below hb), h.2.2.2.keep (.below hb)⟩
theorem zero_two {V : World} {g : Nat} (hg : V.heap[g]? = some (.cells #[Value.slice none 0 0, .slice none 0 0] 32 (0, 0))) (u v : Value) : ((V.setCell ⟨g, 0, none⟩ u).setCell ⟨g, 1, none⟩ v).heap[g]? = some (.cells #[u, v] 32 (0, 0)) := two_set hg u v
theorem other_two {V : World} {g g' : Nat} {o : Option Obj} (hg : V.heap[g']? = o) (hne : g' ≠ g) (u v : Value) : ((V.setCell ⟨g, 0, none⟩ u).setCell ⟨g, 1, none⟩ v).heap[g']? = o := by
  rw [Below.heap_setCell _ ⟨_, 1, none⟩ _ _ hne, Below.heap_setCell _ ⟨_, 0, none⟩ _ _ hne]; exact hg
theorem ptd_drew {D : Nat → Prop} {w : World} {p : Option Addr} {l : List Nat} (h : PtD D w p l) : PtD D w.drew p l := ⟨h.cells, h.fit⟩
/-- how far the making of two boxes is: the call (f), the boxes (f6, f7), their values (h6, h7) -/
structure TB (N n : Nat) (W : World) (x y : List Nat × List Nat) (f f6 f7 h6 h7 : Bool) (p1 p2 p3 p4 : Option Addr) (c1 c2 c3 c4 g6 g7 : Nat) (V : World) : Prop where
  below : Below N W V
  le : N ≤ V.heap.size
  four : f = true → Fours N V p1 p2 p3 p4 x y
  k6 : f6 = true → N ≤ g6 ∧ V.heap[g6]? = some (.cells (if h6 then #[.slice p1 n c1, .slice p2 n c2] else #[Value.slice none 0 0, .slice none 0 0]) 32 (0, 0))
  k7 : f7 = true → N ≤ g7 ∧ V.heap[g7]? = some (.cells (if h7 then #[.slice p3 n c3, .slice p4 n c4] else #[Value.slice none 0 0, .slice none 0 0]) 32 (0, 0))
  ne : f6 = true → f7 = true → g6 ≠ g7
section
variable {N n : Nat} {W : World} {x y : List Nat × List Nat} {f f6 f7 h6 h7 : Bool} {p1 p2 p3 p4 : Option Addr} {c1 c2 c3 c4 g6 g7 : Nat} {V : World}
theorem TB.start (n : Nat) (W : World) (x y : List Nat × List Nat) : TB W.heap.size n W x y false false false false false none none none none 0 0 0 0 0 0 W.drew :=
  ⟨(Below.refl _ _).drew, Nat.le_refl _, nofun, nofun, nofun, nofun⟩
theorem TB.call (h : TB N n W x y false f6 f7 false false p1 p2 p3 p4 c1 c2 c3 c4 g6 g7 V) {w9 : World} {q1 q2 q3 q4 : Option Addr} (d1 d2 d3 d4 : Nat) (hf : Fours N w9 q1 q2 q3 q4 x y) (hb : Below V.heap.size V w9) : TB N n W x y true f6 f7 false false q1 q2 q3 q4 d1 d2 d3 d4 g6 g7 w9 :=
  ⟨h.below.trans (hb.mono h.le), Nat.le_trans h.le hb.size, fun _ => hf, fun e => ⟨(h.k6 e).1, (hb.block _ (lt_of (h.k6 e).2)).trans (h.k6 e).2⟩, fun e => ⟨(h.k7 e).1, (hb.block _ (lt_of (h.k7 e).2)).trans (h.k7 e).2⟩, h.ne⟩
theorem TB.al6 (h : TB N n W x y f false f7 false false p1 p2 p3 p4 c1 c2 c3 c4 g6 g7 V) : TB N n W x y f true f7 false false p1 p2 p3 p4 c1 c2 c3 c4 V.heap.size g7 (V.alloc (.cells #[Value.slice none 0 0, .slice none 0 0] 32)) := by
  have hb := below_alloc V (.cells #[Value.slice none 0 0, .slice none 0 0] 32)
  exact ⟨h.below.trans (hb.mono h.le), Nat.le_trans h.le hb.size, fun e => (h.four e).below hb, fun _ => ⟨h.le, heap_alloc_new _ _⟩, fun e => ⟨(h.k7 e).1, (hb.block _ (lt_of (h.k7 e).2)).trans (h.k7 e).2⟩, fun _ e => by have := lt_of (h.k7 e).2; omega⟩
theorem TB.al7 (h : TB N n W x y f f6 false false false p1 p2 p3 p4 c1 c2 c3 c4 g6 g7 V) : TB N n W x y f f6 true false false p1 p2 p3 p4 c1 c2 c3 c4 g6 V.heap.size (V.alloc (.cells #[Value.slice none 0 0, .slice none 0 0] 32)) := by
  have hb := below_alloc V (.cells #[Value.slice none 0 0, .slice none 0 0] 32)
  exact ⟨h.below.trans (hb.mono h.le), Nat.le_trans h.le hb.size, fun e => (h.four e).below hb, fun e => ⟨(h.k6 e).1, (hb.block _ (lt_of (h.k6 e).2)).trans (h.k6 e).2⟩, fun _ => ⟨h.le, heap_alloc_new _ _⟩, fun e _ => by have := lt_of (h.k6 e).2; omega⟩
theorem TB.zero6 (h : TB N n W x y true true true false false p1 p2 p3 p4 c1 c2 c3 c4 g6 g7 V) : V.cell? ⟨g6, 0, none⟩ = some (.slice none 0 0) ∧ V.cell? ⟨g6, 1, none⟩ = some (.slice none 0 0) ∧ V.frozen? ⟨g6, 0, none⟩ = false ∧ V.frozen? ⟨g6, 1, none⟩ = false := zero_cells (h.k6 rfl).2
theorem TB.zero7 (h : TB N n W x y true true true true false p1 p2 p3 p4 c1 c2 c3 c4 g6 g7 V) : V.cell? ⟨g7, 0, none⟩ = some (.slice none 0 0) ∧ V.cell? ⟨g7, 1, none⟩ = some (.slice none 0 0) ∧ V.frozen? ⟨g7, 0, none⟩ = false ∧ V.frozen? ⟨g7, 1, none⟩ = false := zero_cells (h.k7 rfl).2
theorem TB.st6 (h : TB N n W x y true true true false false p1 p2 p3 p4 c1 c2 c3 c4 g6 g7 V) : TB N n W x y true true true true false p1 p2 p3 p4 c1 c2 c3 c4 g6 g7 ((V.setCell ⟨g6, 0, none⟩ (.slice p1 n c1)).setCell ⟨g6, 1, none⟩ (.slice p2 n c2)) :=
  ⟨(h.below.setCell (p := ⟨g6, 0, none⟩) (h.k6 rfl).1 _).setCell (p := ⟨g6, 1, none⟩) (h.k6 rfl).1 _, by rw [World.size_setCell, World.size_setCell]; exact h.le, fun _ => (h.four rfl).set (h.k6 rfl).2, fun _ => ⟨(h.k6 rfl).1, zero_two (h.k6 rfl).2 _ _⟩, fun _ => ⟨(h.k7 rfl).1, other_two (h.k7 rfl).2 (fun e => h.ne rfl rfl e.symm) _ _⟩, h.ne⟩
theorem TB.st7 (h : TB N n W x y true true true true false p1 p2 p3 p4 c1 c2 c3 c4 g6 g7 V) : TB N n W x y true true true true true p1 p2 p3 p4 c1 c2 c3 c4 g6 g7 ((V.setCell ⟨g7, 0, none⟩ (.slice p3 n c3)).setCell ⟨g7, 1, none⟩ (.slice p4 n c4)) :=
  ⟨(h.below.setCell (p := ⟨g7, 0, none⟩) (h.k7 rfl).1 _).setCell (p := ⟨g7, 1, none⟩) (h.k7 rfl).1 _, by rw [World.size_setCell, World.size_setCell]; exact h.le, fun _ => (h.four rfl).set (h.k7 rfl).2, fun _ => ⟨(h.k6 rfl).1, other_two (h.k6 rfl).2 (h.ne rfl rfl) _ _⟩, fun _ => ⟨(h.k7 rfl).1, zero_two (h.k7 rfl).2 _ _⟩, h.ne⟩
theorem TB.fin (h : TB N n W x y true true true true true p1 p2 p3 p4 c1 c2 c3 c4 g6 g7 V) : Halved N n W x y (.pointer (some ⟨g6, 0, none⟩)) (.pointer (some ⟨g7, 0, none⟩)) V :=
  ⟨g6, g7, p1, c1, p2, c2, p3, c3, p4, c4, rfl, rfl, (h.k6 rfl).2, (h.k7 rfl).2, ⟨(h.k6 rfl).1, (h.k7 rfl).1⟩, h.four rfl, h.below⟩
end
theorem fours_lt {N M : Nat} {V : World} {p1 p2 p3 p4 : Option Addr} {x y : List Nat × List Nat} (h : N ≤ M) (h1 : PtD (fun k => k < M) V p1 x.1) (h2 : PtD (fun k => k < M) V p2 x.2) (h3 : PtD (fun k => k < M) V p3 y.1) (h4 : PtD (fun k => k < M) V p4 y.2) : Fours N V p1 p2 p3 p4 x y :=
  ⟨h1.less fun _ _ hb => Nat.lt_of_lt_of_le hb h, h2.less fun _ _ hb => Nat.lt_of_lt_of_le hb h, h3.less fun _ _ hb => Nat.lt_of_lt_of_le hb h, h4.less fun _ _ hb => Nat.lt_of_lt_of_le hb h⟩
set_option maxRecDepth 100000 in
set_option maxHeartbeats 4000000 in
theorem halvesE_ok {n d a : Nat} (hn : 1 ≤ n ∧ n ≤ 6) (hd : d < 32) {p q : Option Addr} (c c' : Nat) (w : World) (hp : Pt w p (cell n d a).1) (hq : Pt w q (cell n d a).2) :
    Calls Try.prog 43 #[.agg #[.slice p n c, .slice q n c'], .int .i64 (d : Int)] w (TwoPost w n (cell n (d + 1) (2 * a)) (cell n (d + 1) (2 * a + 1))) := by
  have HQ := hid (ent_new w (.slice p n c) (.slice q n c'))
  obtain ⟨W, hW⟩ : ∃ W, W = ((w.alloc (.cells #[Value.slice p n c, .slice q n c'] 32)).alloc (.cells #[Value.slice none 0 0, .slice none 0 0] 32)).alloc (.cells #[Value.slice none 0 0, .slice none 0 0] 32) := ⟨_, rfl⟩
  rw [← hW] at HQ
  have HH := hid fun (V : World) (hb : Below W.heap.size W V) => halves_cell (a := a) hn hd c c' V (hp.below (HQ.out.below.trans (hb.mono HQ.out.below.size))) (hq.below (HQ.out.below.trans (hb.mono HQ.out.below.size)))
  obtain ⟨m, hm⟩ : ∃ m, d % n = m := ⟨_, rfl⟩
  rw [hm] at HH
  generalize cell n (d + 1) (2 * a) = X at *
  generalize cell n (d + 1) (2 * a + 1) = Y at *
  have HX := hid fun (V : World) (hb : Below W.heap.size W V) => HQ.out.cells hb
  have s2 : (d : Int) % (n : Int) = (m : Int) := by rw [← hm]; simp
  have s3 : (d : Int).tmod (n : Int) = (m : Int) := by rw [Int.tmod_eq_emod_of_nonneg (by omega)]; exact s2
  have hmn : m ≤ d := by rw [← hm]; exact Nat.mod_le _ _
  have s4 : IntKind.i64.wrap (m : Int) = (m : Int) := Go.IntWalk.i64_in _ (by omega)
  have s5 : ((n : Int) == 0) = false := by simp; omega
  have s6 : ¬ (n : Int) = 0 := by omega
  have s7 : ¬ n = 0 := by omega
  clear hp hq hm hmn
  go_enter Try.func43, Try.ntmps43
  go_wp2_with fail
  rw [← hW]
  clear hW
  have H0 := hid (Below.refl W.heap.size W).drew
  have x0 := HX.out _ H0.out
  have J0 := hid (TB.start n W X Y)
  go_cut [6, 7] (fun s s' wx => Halved W.heap.size n W X Y s s' wx)
  case first =>
    refine wp_region_held_drew (S := fun w' => w'.cell? ⟨w.heap.size, 0, none⟩ = some (.slice p n c) ∧ w'.cell? ⟨w.heap.size, 1, none⟩ = some (.slice q n c')) (by kernel_rfl) (by exact x0) (fun hHeld => ?_)
    clear x0
    generalize W.drew = v0 at J0 hHeld ⊢
    refine wpAnyH_take (i := 0) (oi := { dst := some 10, op := Go.Op.load 32 (Go.Operand.tmp 2), type := 32, pos := "excell.go:76", after := #[], guard := none }) (v := ?v1) rfl (by kernel_rfl) (by kernel_rfl) (by kernel_rfl) (fun _ _ _ h => h) (Or.inl ⟨by rfl, ?hy1⟩) (by assumption) ?rest1
    case hy1 => (intro w hSw; (try dsimp only at hSw); go_simp; (try with_reducible rfl))
    simp only [Act.put, List.setIfInBounds_toArray, List.set_cons_zero, List.set_cons_succ]
    refine wpAnyH_take (i := 1) (oi := { dst := some 11, op := Go.Op.move (Go.Operand.tmp 1), type := 3, pos := "excell.go:76", after := #[], guard := none }) (v := ?v2) rfl (by kernel_rfl) (by kernel_rfl) (by kernel_rfl) (fun _ _ _ h => h) (Or.inl ⟨by rfl, ?hy2⟩) (by assumption) ?rest2
    case hy2 => (intro w hSw; (try dsimp only at hSw); go_simp; (try with_reducible rfl))
    simp only [Act.put, List.setIfInBounds_toArray, List.set_cons_zero, List.set_cons_succ]
    refine wpAnyH_take (i := 2) (oi := { dst := some 12, op := Go.Op.fieldAddr 32 (Go.Operand.tmp 2) 0, type := 0, pos := "excell.go:76", after := #[], guard := none }) (v := ?v3) rfl (by kernel_rfl) (by kernel_rfl) (by kernel_rfl) (fun _ _ _ h => h) (Or.inl ⟨by rfl, ?hy3⟩) (by assumption) ?rest3
    case hy3 => (intro w hSw; (try dsimp only at hSw); go_simp; (try with_reducible rfl))
    simp only [Act.put, List.setIfInBounds_toArray, List.set_cons_zero, List.set_cons_succ]
    refine wpAnyH_take (i := 3) (oi := { dst := some 13, op := Go.Op.load 23 (Go.Operand.tmp 12), type := 23, pos := "excell.go:76", after := #[{ on := 2, ground := Go.Ground.data }], guard := none }) (v := ?v4) rfl (by kernel_rfl) (by kernel_rfl) (by kernel_rfl) (fun _ _ _ h => h) (Or.inl ⟨by rfl, ?hy4⟩) (by assumption) ?rest4
    case hy4 => (intro w hSw; (try dsimp only at hSw); go_simp; (try with_reducible rfl))
    simp only [Act.put, List.setIfInBounds_toArray, List.set_cons_zero, List.set_cons_succ]
    refine wpAnyH_take (i := 4) (oi := { dst := some 14, op := Go.Op.call { callee := Go.Callee.builtin Go.Builtin.len, args := #[Go.Operand.tmp 13], argTypes := #[23] }, type := 3, pos := "excell.go:76", after := #[{ on := 3, ground := Go.Ground.data }], guard := none }) (v := ?v5) rfl (by kernel_rfl) (by kernel_rfl) (by kernel_rfl) (fun _ _ _ h => h) (Or.inl ⟨by rfl, ?hy5⟩) (by assumption) ?rest5
    case hy5 => (intro w hSw; (try dsimp only at hSw); go_simp; (try with_reducible rfl))
    simp only [Act.put, List.setIfInBounds_toArray, List.set_cons_zero, List.set_cons_succ]
    refine wpAnyH_take (i := 5) (oi := { dst := some 15, op := Go.Op.binOp Go.BinOp.rem 3 (Go.Operand.tmp 11) (Go.Operand.tmp 14) 3, type := 3, pos := "excell.go:76", after := #[{ on := 1, ground := Go.Ground.data }, { on := 4, ground := Go.Ground.data }], guard := none }) (v := ?v6) rfl (by kernel_rfl) (by kernel_rfl) (by kernel_rfl) (fun _ _ _ h => h) (Or.inl ⟨by rfl, ?hy6⟩) (by assumption) ?rest6
    case hy6 => (intro w hSw; (try dsimp only at hSw); go_simp; (try with_reducible rfl))
    simp only [Act.put, List.setIfInBounds_toArray, List.set_cons_zero, List.set_cons_succ]
    refine wpAnyH_ready (rs := [6, 11, 12]) (by kernel_rfl) (by simp) (AllReadyH.cons (o := { dst := some 16, op := Go.Op.call { callee := Go.Callee.value (Go.Operand.func 56), args := #[Go.Operand.tmp 10, Go.Operand.tmp 15], argTypes := #[32, 3] }, type := 65, pos := "excell.go:76", after := #[{ on := 0, ground := Go.Ground.data }, { on := 5, ground := Go.Ground.data }], guard := none }) rfl (fun K hK => ?_) (AllReadyH.cons (o := { dst := some 6, op := Go.Op.alloc 32, type := 0, pos := "excell.go:76", after := #[], guard := none }) rfl (fun K hK => ?_) (AllReadyH.cons (o := { dst := some 7, op := Go.Op.alloc 32, type := 0, pos := "excell.go:76", after := #[], guard := none }) rfl (fun K hK => ?_) AllReadyH.nil)))
    ·
      go_simp
      go_at_call 56
      refine (HH.out _ J0.out.below).mono ?_
      rintro e w9 ⟨p1, c1, p2, c2, p3, c3, p4, c4, rfl, g1, g2, g3, g4, hb⟩
      have J7 := hid (J0.out.call c1 c2 c3 c4 (fours_lt J0.out.le g1 g2 g3 g4) hb)
      clear g1 g2 g3 g4 hb J0
      refine hK.out _ _ (HX.out _ J7.out.below) (fun hHeld => ?_)
      clear hK K
      refine wpAnyH_take (i := 7) (oi := { dst := some 9, op := Go.Op.move (Go.Operand.tmp 16), type := 65, pos := "excell.go:76", after := #[{ on := 6, ground := Go.Ground.data }], guard := none }) (v := ?v8) rfl (by kernel_rfl) (by kernel_rfl) (by kernel_rfl) (fun _ _ _ h => h) (Or.inl ⟨by rfl, ?hy8⟩) (by assumption) ?rest8
      case hy8 => (intro w hSw; (try dsimp only at hSw); go_simp; (try with_reducible rfl))
      simp only [Act.put, List.setIfInBounds_toArray, List.set_cons_zero, List.set_cons_succ]
      refine wpAnyH_take (i := 8) (oi := { dst := some 17, op := Go.Op.extract (Go.Operand.tmp 9) 0, type := 32, pos := "excell.go:76", after := #[{ on := 7, ground := Go.Ground.data }], guard := none }) (v := ?v9) rfl (by kernel_rfl) (by kernel_rfl) (by kernel_rfl) (fun _ _ _ h => h) (Or.inl ⟨by rfl, ?hy9⟩) (by assumption) ?rest9
      case hy9 => (intro w hSw; (try dsimp only at hSw); go_simp; (try with_reducible rfl))
      simp only [Act.put, List.setIfInBounds_toArray, List.set_cons_zero, List.set_cons_succ]
      refine wpAnyH_take (i := 9) (oi := { dst := some 18, op := Go.Op.extract (Go.Operand.tmp 9) 1, type := 32, pos := "excell.go:76", after := #[{ on := 7, ground := Go.Ground.data }, { on := 13, ground := Go.Ground.gcOnly Go.Departure.lateStores }], guard := none }) (v := ?v10) rfl (by kernel_rfl) (by kernel_rfl) (by kernel_rfl) (fun _ _ _ h => h) (Or.inl ⟨by rfl, ?hy10⟩) (by assumption) ?rest10
      case hy10 => (intro w hSw; (try dsimp only at hSw); go_simp; (try with_reducible rfl))
      simp only [Act.put, List.setIfInBounds_toArray, List.set_cons_zero, List.set_cons_succ]
      refine wpAnyH_take (i := 10) (oi := { dst := some 19, op := Go.Op.extract (Go.Operand.tmp 9) 2, type := 4, pos := "excell.go:76", after := #[{ on := 7, ground := Go.Ground.data }, { on := 14, ground := Go.Ground.gcOnly Go.Departure.lateStores }], guard := none }) (v := ?v11) rfl (by kernel_rfl) (by kernel_rfl) (by kernel_rfl) (fun _ _ _ h => h) (Or.inl ⟨by rfl, ?hy11⟩) (by assumption) ?rest11
      case hy11 => (intro w hSw; (try dsimp only at hSw); go_simp; (try with_reducible rfl))
      simp only [Act.put, List.setIfInBounds_toArray, List.set_cons_zero, List.set_cons_succ]
      refine wpAnyH_ready (rs := [11, 12]) (by kernel_rfl) (by simp) (AllReadyH.cons (o := { dst := some 6, op := Go.Op.alloc 32, type := 0, pos := "excell.go:76", after := #[], guard := none }) rfl (fun K hK => ?_) (AllReadyH.cons (o := { dst := some 7, op := Go.Op.alloc 32, type := 0, pos := "excell.go:76", after := #[], guard := none }) rfl (fun K hK => ?_) AllReadyH.nil))
      ·
        have J12 := hid J7.out.al6
        go_simp
        refine hK.out _ _ (HX.out _ J12.out.below) (fun hHeld => ?_)
        clear hK K J7
        generalize w9.alloc (.cells #[Value.slice none 0 0, .slice none 0 0] 32) = v12 at J12 hHeld ⊢
        refine wpAnyH_ready (rs := [12]) (by kernel_rfl) (by simp) (AllReadyH.cons (o := { dst := some 7, op := Go.Op.alloc 32, type := 0, pos := "excell.go:76", after := #[], guard := none }) rfl (fun K hK => ?_) AllReadyH.nil)
        have J13 := hid J12.out.al7
        go_simp
        refine hK.out _ _ (HX.out _ J13.out.below) (fun hHeld => ?_)
        clear hK K J12
        generalize v12.alloc (.cells #[Value.slice none 0 0, .slice none 0 0] 32) = v13 at J13 hHeld ⊢
        refine wpAnyH_ready (rs := [13]) (by kernel_rfl) (by simp) (AllReadyH.cons (o := { dst := none, op := Go.Op.store 32 (Go.Operand.tmp 6) (Go.Operand.tmp 17), type := 0, pos := "excell.go:76", after := #[{ on := 11, ground := Go.Ground.data }, { on := 8, ground := Go.Ground.data }, { on := 6, ground := Go.Ground.chain }, { on := 0, ground := Go.Ground.phase }, { on := 1, ground := Go.Ground.phase }, { on := 2, ground := Go.Ground.phase }, { on := 3, ground := Go.Ground.phase }, { on := 4, ground := Go.Ground.phase }, { on := 5, ground := Go.Ground.phase }, { on := 6, ground := Go.Ground.phase }, { on := 7, ground := Go.Ground.phase }, { on := 8, ground := Go.Ground.phase }, { on := 9, ground := Go.Ground.textOnly Go.Departure.lateStores }, { on := 10, ground := Go.Ground.textOnly Go.Departure.lateStores }, { on := 11, ground := Go.Ground.phase }, { on := 12, ground := Go.Ground.phase }], guard := none }) rfl (fun K hK => ?_) AllReadyH.nil)
        have J14 := hid J13.out.st6
        have z := J13.out.zero6
        go_simp
        clear z
        refine hK.out _ _ (HX.out _ J14.out.below) (fun hHeld => ?_)
        clear hK K J13
        generalize (v13.setCell ⟨w9.heap.size, 0, none⟩ (.slice p1 n c1)).setCell ⟨w9.heap.size, 1, none⟩ (.slice p2 n c2) = v14 at J14 hHeld ⊢
        refine wpAnyH_ready (rs := [14]) (by kernel_rfl) (by simp) (AllReadyH.cons (o := { dst := none, op := Go.Op.store 32 (Go.Operand.tmp 7) (Go.Operand.tmp 18), type := 0, pos := "excell.go:76", after := #[{ on := 12, ground := Go.Ground.data }, { on := 9, ground := Go.Ground.data }, { on := 13, ground := Go.Ground.chain }, { on := 0, ground := Go.Ground.phase }, { on := 1, ground := Go.Ground.phase }, { on := 2, ground := Go.Ground.phase }, { on := 3, ground := Go.Ground.phase }, { on := 4, ground := Go.Ground.phase }, { on := 5, ground := Go.Ground.phase }, { on := 6, ground := Go.Ground.phase }, { on := 7, ground := Go.Ground.phase }, { on := 8, ground := Go.Ground.phase }, { on := 9, ground := Go.Ground.phase }, { on := 10, ground := Go.Ground.textOnly Go.Departure.lateStores }, { on := 11, ground := Go.Ground.phase }, { on := 12, ground := Go.Ground.phase }, { on := 13, ground := Go.Ground.phase }], guard := none }) rfl (fun K hK => ?_) AllReadyH.nil)
        have J15 := hid J14.out.st7
        have z := J14.out.zero7
        go_simp
        clear z
        refine hK.out _ _ (HX.out _ J15.out.below) (fun hHeld => ?_)
        clear hK K J14
        generalize (v14.setCell ⟨v12.heap.size, 0, none⟩ (.slice p3 n c3)).setCell ⟨v12.heap.size, 1, none⟩ (.slice p4 n c4) = v15 at J15 hHeld ⊢
        refine wpAnyH_ready (rs := [15]) (by kernel_rfl) (by simp) (AllReadyH.cons (o := { dst := some 8, op := Go.Op.assign (Go.Operand.tmp 19), type := 4, pos := "excell.go:76", after := #[{ on := 10, ground := Go.Ground.data }, { on := 14, ground := Go.Ground.chain }, { on := 0, ground := Go.Ground.phase }, { on := 1, ground := Go.Ground.phase }, { on := 2, ground := Go.Ground.phase }, { on := 3, ground := Go.Ground.phase }, { on := 4, ground := Go.Ground.phase }, { on := 5, ground := Go.Ground.phase }, { on := 6, ground := Go.Ground.phase }, { on := 7, ground := Go.Ground.phase }, { on := 8, ground := Go.Ground.phase }, { on := 9, ground := Go.Ground.phase }, { on := 10, ground := Go.Ground.phase }, { on := 11, ground := Go.Ground.phase }, { on := 12, ground := Go.Ground.phase }, { on := 13, ground := Go.Ground.phase }, { on := 14, ground := Go.Ground.phase }], guard := none }) rfl (fun K hK => ?_) AllReadyH.nil)
        have J16 := J15
        go_simp
        refine hK.out _ _ (HX.out _ J16.out.below) (fun hHeld => ?_)
        clear hK K J15
        refine wpAnyH_done (by kernel_rfl) ?_ _
        have HJ := hid J16.out.fin; clear J16
        go_wp2_with fail
        go_meet
        exact HJ.out
      ·
        have J17 := hid J7.out.al7
        go_simp
        refine hK.out _ _ (HX.out _ J17.out.below) (fun hHeld => ?_)
        clear hK K J7
        generalize w9.alloc (.cells #[Value.slice none 0 0, .slice none 0 0] 32) = v17 at J17 hHeld ⊢
        refine wpAnyH_ready (rs := [11]) (by kernel_rfl) (by simp) (AllReadyH.cons (o := { dst := some 6, op := Go.Op.alloc 32, type := 0, pos := "excell.go:76", after := #[], guard := none }) rfl (fun K hK => ?_) AllReadyH.nil)
        have J18 := hid J17.out.al6
        go_simp
        refine hK.out _ _ (HX.out _ J18.out.below) (fun hHeld => ?_)
        clear hK K J17
        generalize v17.alloc (.cells #[Value.slice none 0 0, .slice none 0 0] 32) = v18 at J18 hHeld ⊢
        refine wpAnyH_ready (rs := [13]) (by kernel_rfl) (by simp) (AllReadyH.cons (o := { dst := none, op := Go.Op.store 32 (Go.Operand.tmp 6) (Go.Operand.tmp 17), type := 0, pos := "excell.go:76", after := #[{ on := 11, ground := Go.Ground.data }, { on := 8, ground := Go.Ground.data }, { on := 6, ground := Go.Ground.chain }, { on := 0, ground := Go.Ground.phase }, { on := 1, ground := Go.Ground.phase }, { on := 2, ground := Go.Ground.phase }, { on := 3, ground := Go.Ground.phase }, { on := 4, ground := Go.Ground.phase }, { on := 5, ground := Go.Ground.phase }, { on := 6, ground := Go.Ground.phase }, { on := 7, ground := Go.Ground.phase }, { on := 8, ground := Go.Ground.phase }, { on := 9, ground := Go.Ground.textOnly Go.Departure.lateStores }, { on := 10, ground := Go.Ground.textOnly Go.Departure.lateStores }, { on := 11, ground := Go.Ground.phase }, { on := 12, ground := Go.Ground.phase }], guard := none }) rfl (fun K hK => ?_) AllReadyH.nil)
        have J19 := hid J18.out.st6
        have z := J18.out.zero6
        go_simp
        clear z
        refine hK.out _ _ (HX.out _ J19.out.below) (fun hHeld => ?_)
        clear hK K J18
        generalize (v18.setCell ⟨v17.heap.size, 0, none⟩ (.slice p1 n c1)).setCell ⟨v17.heap.size, 1, none⟩ (.slice p2 n c2) = v19 at J19 hHeld ⊢
        refine wpAnyH_ready (rs := [14]) (by kernel_rfl) (by simp) (AllReadyH.cons (o := { dst := none, op := Go.Op.store 32 (Go.Operand.tmp 7) (Go.Operand.tmp 18), type := 0, pos := "excell.go:76", after := #[{ on := 12, ground := Go.Ground.data }, { on := 9, ground := Go.Ground.data }, { on := 13, ground := Go.Ground.chain }, { on := 0, ground := Go.Ground.phase }, { on := 1, ground := Go.Ground.phase }, { on := 2, ground := Go.Ground.phase }, { on := 3, ground := Go.Ground.phase }, { on := 4, ground := Go.Ground.phase }, { on := 5, ground := Go.Ground.phase }, { on := 6, ground := Go.Ground.phase }, { on := 7, ground := Go.Ground.phase }, { on := 8, ground := Go.Ground.phase }, { on := 9, ground := Go.Ground.phase }, { on := 10, ground := Go.Ground.textOnly Go.Departure.lateStores }, { on := 11, ground := Go.Ground.phase }, { on := 12, ground := Go.Ground.phase }, { on := 13, ground := Go.Ground.phase }], guard := none }) rfl (fun K hK => ?_) AllReadyH.nil)
        have J20 := hid J19.out.st7
        have z := J19.out.zero7
        go_simp
        clear z
        refine hK.out _ _ (HX.out _ J20.out.below) (fun hHeld => ?_)
        clear hK K J19
        generalize (v19.setCell ⟨w9.heap.size, 0, none⟩ (.slice p3 n c3)).setCell ⟨w9.heap.size, 1, none⟩ (.slice p4 n c4) = v20 at J20 hHeld ⊢
        refine wpAnyH_ready (rs := [15]) (by kernel_rfl) (by simp) (AllReadyH.cons (o := { dst := some 8, op := Go.Op.assign (Go.Operand.tmp 19), type := 4, pos := "excell.go:76", after := #[{ on := 10, ground := Go.Ground.data }, { on := 14, ground := Go.Ground.chain }, { on := 0, ground := Go.Ground.phase }, { on := 1, ground := Go.Ground.phase }, { on := 2, ground := Go.Ground.phase }, { on := 3, ground := Go.Ground.phase }, { on := 4, ground := Go.Ground.phase }, { on := 5, ground := Go.Ground.phase }, { on := 6, ground := Go.Ground.phase }, { on := 7, ground := Go.Ground.phase }, { on := 8, ground := Go.Ground.phase }, { on := 9, ground := Go.Ground.phase }, { on := 10, ground := Go.Ground.phase }, { on := 11, ground := Go.Ground.phase }, { on := 12, ground := Go.Ground.phase }, { on := 13, ground := Go.Ground.phase }, { on := 14, ground := Go.Ground.phase }], guard := none }) rfl (fun K hK => ?_) AllReadyH.nil)
        have J21 := J20
        go_simp
        refine hK.out _ _ (HX.out _ J21.out.below) (fun hHeld => ?_)
        clear hK K J20
        refine wpAnyH_done (by kernel_rfl) ?_ _
        have HJ := hid J21.out.fin; clear J21
        go_wp2_with fail
        go_meet
        exact HJ.out
    ·
      have J22 := hid J0.out.al6
      go_simp
      refine hK.out _ _ (HX.out _ J22.out.below) (fun hHeld => ?_)
      clear hK K J0
      generalize v0.alloc (.cells #[Value.slice none 0 0, .slice none 0 0] 32) = v22 at J22 hHeld ⊢
      refine wpAnyH_ready (rs := [6, 12]) (by kernel_rfl) (by simp) (AllReadyH.cons (o := { dst := some 16, op := Go.Op.call { callee := Go.Callee.value (Go.Operand.func 56), args := #[Go.Operand.tmp 10, Go.Operand.tmp 15], argTypes := #[32, 3] }, type := 65, pos := "excell.go:76", after := #[{ on := 0, ground := Go.Ground.data }, { on := 5, ground := Go.Ground.data }], guard := none }) rfl (fun K hK => ?_) (AllReadyH.cons (o := { dst := some 7, op := Go.Op.alloc 32, type := 0, pos := "excell.go:76", after := #[], guard := none }) rfl (fun K hK => ?_) AllReadyH.nil))
      ·
        go_simp
        go_at_call 56
        refine (HH.out _ J22.out.below).mono ?_
        rintro e w9 ⟨p1, c1, p2, c2, p3, c3, p4, c4, rfl, g1, g2, g3, g4, hb⟩
        have J23 := hid (J22.out.call c1 c2 c3 c4 (fours_lt J22.out.le g1 g2 g3 g4) hb)
        clear g1 g2 g3 g4 hb J22
        refine hK.out _ _ (HX.out _ J23.out.below) (fun hHeld => ?_)
        clear hK K
        refine wpAnyH_take (i := 7) (oi := { dst := some 9, op := Go.Op.move (Go.Operand.tmp 16), type := 65, pos := "excell.go:76", after := #[{ on := 6, ground := Go.Ground.data }], guard := none }) (v := ?v24) rfl (by kernel_rfl) (by kernel_rfl) (by kernel_rfl) (fun _ _ _ h => h) (Or.inl ⟨by rfl, ?hy24⟩) (by assumption) ?rest24
        case hy24 => (intro w hSw; (try dsimp only at hSw); go_simp; (try with_reducible rfl))
        simp only [Act.put, List.setIfInBounds_toArray, List.set_cons_zero, List.set_cons_succ]
        refine wpAnyH_take (i := 8) (oi := { dst := some 17, op := Go.Op.extract (Go.Operand.tmp 9) 0, type := 32, pos := "excell.go:76", after := #[{ on := 7, ground := Go.Ground.data }], guard := none }) (v := ?v25) rfl (by kernel_rfl) (by kernel_rfl) (by kernel_rfl) (fun _ _ _ h => h) (Or.inl ⟨by rfl, ?hy25⟩) (by assumption) ?rest25
        case hy25 => (intro w hSw; (try dsimp only at hSw); go_simp; (try with_reducible rfl))
        simp only [Act.put, List.setIfInBounds_toArray, List.set_cons_zero, List.set_cons_succ]
        refine wpAnyH_take (i := 9) (oi := { dst := some 18, op := Go.Op.extract (Go.Operand.tmp 9) 1, type := 32, pos := "excell.go:76", after := #[{ on := 7, ground := Go.Ground.data }, { on := 13, ground := Go.Ground.gcOnly Go.Departure.lateStores }], guard := none }) (v := ?v26) rfl (by kernel_rfl) (by kernel_rfl) (by kernel_rfl) (fun _ _ _ h => h) (Or.inl ⟨by rfl, ?hy26⟩) (by assumption) ?rest26
        case hy26 => (intro w hSw; (try dsimp only at hSw); go_simp; (try with_reducible rfl))
        simp only [Act.put, List.setIfInBounds_toArray, List.set_cons_zero, List.set_cons_succ]
        refine wpAnyH_take (i := 10) (oi := { dst := some 19, op := Go.Op.extract (Go.Operand.tmp 9) 2, type := 4, pos := "excell.go:76", after := #[{ on := 7, ground := Go.Ground.data }, { on := 14, ground := Go.Ground.gcOnly Go.Departure.lateStores }], guard := none }) (v := ?v27) rfl (by kernel_rfl) (by kernel_rfl) (by kernel_rfl) (fun _ _ _ h => h) (Or.inl ⟨by rfl, ?hy27⟩) (by assumption) ?rest27
        case hy27 => (intro w hSw; (try dsimp only at hSw); go_simp; (try with_reducible rfl))
        simp only [Act.put, List.setIfInBounds_toArray, List.set_cons_zero, List.set_cons_succ]
        refine wpAnyH_ready (rs := [12]) (by kernel_rfl) (by simp) (AllReadyH.cons (o := { dst := some 7, op := Go.Op.alloc 32, type := 0, pos := "excell.go:76", after := #[], guard := none }) rfl (fun K hK => ?_) AllReadyH.nil)
        have J28 := hid J23.out.al7
        go_simp
        refine hK.out _ _ (HX.out _ J28.out.below) (fun hHeld => ?_)
        clear hK K J23
        generalize w9.alloc (.cells #[Value.slice none 0 0, .slice none 0 0] 32) = v28 at J28 hHeld ⊢
        refine wpAnyH_ready (rs := [13]) (by kernel_rfl) (by simp) (AllReadyH.cons (o := { dst := none, op := Go.Op.store 32 (Go.Operand.tmp 6) (Go.Operand.tmp 17), type := 0, pos := "excell.go:76", after := #[{ on := 11, ground := Go.Ground.data }, { on := 8, ground := Go.Ground.data }, { on := 6, ground := Go.Ground.chain }, { on := 0, ground := Go.Ground.phase }, { on := 1, ground := Go.Ground.phase }, { on := 2, ground := Go.Ground.phase }, { on := 3, ground := Go.Ground.phase }, { on := 4, ground := Go.Ground.phase }, { on := 5, ground := Go.Ground.phase }, { on := 6, ground := Go.Ground.phase }, { on := 7, ground := Go.Ground.phase }, { on := 8, ground := Go.Ground.phase }, { on := 9, ground := Go.Ground.textOnly Go.Departure.lateStores }, { on := 10, ground := Go.Ground.textOnly Go.Departure.lateStores }, { on := 11, ground := Go.Ground.phase }, { on := 12, ground := Go.Ground.phase }], guard := none }) rfl (fun K hK => ?_) AllReadyH.nil)
        have J29 := hid J28.out.st6
        have z := J28.out.zero6
        go_simp
        clear z
        refine hK.out _ _ (HX.out _ J29.out.below) (fun hHeld => ?_)
        clear hK K J28
        generalize (v28.setCell ⟨v0.heap.size, 0, none⟩ (.slice p1 n c1)).setCell ⟨v0.heap.size, 1, none⟩ (.slice p2 n c2) = v29 at J29 hHeld ⊢
        refine wpAnyH_ready (rs := [14]) (by kernel_rfl) (by simp) (AllReadyH.cons (o := { dst := none, op := Go.Op.store 32 (Go.Operand.tmp 7) (Go.Operand.tmp 18), type := 0, pos := "excell.go:76", after := #[{ on := 12, ground := Go.Ground.data }, { on := 9, ground := Go.Ground.data }, { on := 13, ground := Go.Ground.chain }, { on := 0, ground := Go.Ground.phase }, { on := 1, ground := Go.Ground.phase }, { on := 2, ground := Go.Ground.phase }, { on := 3, ground := Go.Ground.phase }, { on := 4, ground := Go.Ground.phase }, { on := 5, ground := Go.Ground.phase }, { on := 6, ground := Go.Ground.phase }, { on := 7, ground := Go.Ground.phase }, { on := 8, ground := Go.Ground.phase }, { on := 9, ground := Go.Ground.phase }, { on := 10, ground := Go.Ground.textOnly Go.Departure.lateStores }, { on := 11, ground := Go.Ground.phase }, { on := 12, ground := Go.Ground.phase }, { on := 13, ground := Go.Ground.phase }], guard := none }) rfl (fun K hK => ?_) AllReadyH.nil)
        have J30 := hid J29.out.st7
        have z := J29.out.zero7
        go_simp
        clear z
        refine hK.out _ _ (HX.out _ J30.out.below) (fun hHeld => ?_)
        clear hK K J29
        generalize (v29.setCell ⟨w9.heap.size, 0, none⟩ (.slice p3 n c3)).setCell ⟨w9.heap.size, 1, none⟩ (.slice p4 n c4) = v30 at J30 hHeld ⊢
        refine wpAnyH_ready (rs := [15]) (by kernel_rfl) (by simp) (AllReadyH.cons (o := { dst := some 8, op := Go.Op.assign (Go.Operand.tmp 19), type := 4, pos := "excell.go:76", after := #[{ on := 10, ground := Go.Ground.data }, { on := 14, ground := Go.Ground.chain }, { on := 0, ground := Go.Ground.phase }, { on := 1, ground := Go.Ground.phase }, { on := 2, ground := Go.Ground.phase }, { on := 3, ground := Go.Ground.phase }, { on := 4, ground := Go.Ground.phase }, { on := 5, ground := Go.Ground.phase }, { on := 6, ground := Go.Ground.phase }, { on := 7, ground := Go.Ground.phase }, { on := 8, ground := Go.Ground.phase }, { on := 9, ground := Go.Ground.phase }, { on := 10, ground := Go.Ground.phase }, { on := 11, ground := Go.Ground.phase }, { on := 12, ground := Go.Ground.phase }, { on := 13, ground := Go.Ground.phase }, { on := 14, ground := Go.Ground.phase }], guard := none }) rfl (fun K hK => ?_) AllReadyH.nil)
        have J31 := J30
        go_simp
        refine hK.out _ _ (HX.out _ J31.out.below) (fun hHeld => ?_)
        clear hK K J30
        refine wpAnyH_done (by kernel_rfl) ?_ _
        have HJ := hid J31.out.fin; clear J31
        go_wp2_with fail
        go_meet
        exact HJ.out
      ·
        have J32 := hid J22.out.al7
        go_simp
        refine hK.out _ _ (HX.out _ J32.out.below) (fun hHeld => ?_)
        clear hK K J22
        generalize v22.alloc (.cells #[Value.slice none 0 0, .slice none 0 0] 32) = v32 at J32 hHeld ⊢
        refine wpAnyH_ready (rs := [6]) (by kernel_rfl) (by simp) (AllReadyH.cons (o := { dst := some 16, op := Go.Op.call { callee := Go.Callee.value (Go.Operand.func 56), args := #[Go.Operand.tmp 10, Go.Operand.tmp 15], argTypes := #[32, 3] }, type := 65, pos := "excell.go:76", after := #[{ on := 0, ground := Go.Ground.data }, { on := 5, ground := Go.Ground.data }], guard := none }) rfl (fun K hK => ?_) AllReadyH.nil)
        go_simp
        go_at_call 56
        refine (HH.out _ J32.out.below).mono ?_
        rintro e w9 ⟨p1, c1, p2, c2, p3, c3, p4, c4, rfl, g1, g2, g3, g4, hb⟩
        have J33 := hid (J32.out.call c1 c2 c3 c4 (fours_lt J32.out.le g1 g2 g3 g4) hb)
        clear g1 g2 g3 g4 hb J32
        refine hK.out _ _ (HX.out _ J33.out.below) (fun hHeld => ?_)
        clear hK K
        refine wpAnyH_take (i := 7) (oi := { dst := some 9, op := Go.Op.move (Go.Operand.tmp 16), type := 65, pos := "excell.go:76", after := #[{ on := 6, ground := Go.Ground.data }], guard := none }) (v := ?v34) rfl (by kernel_rfl) (by kernel_rfl) (by kernel_rfl) (fun _ _ _ h => h) (Or.inl ⟨by rfl, ?hy34⟩) (by assumption) ?rest34
        case hy34 => (intro w hSw; (try dsimp only at hSw); go_simp; (try with_reducible rfl))
        simp only [Act.put, List.setIfInBounds_toArray, List.set_cons_zero, List.set_cons_succ]
        refine wpAnyH_take (i := 8) (oi := { dst := some 17, op := Go.Op.extract (Go.Operand.tmp 9) 0, type := 32, pos := "excell.go:76", after := #[{ on := 7, ground := Go.Ground.data }], guard := none }) (v := ?v35) rfl (by kernel_rfl) (by kernel_rfl) (by kernel_rfl) (fun _ _ _ h => h) (Or.inl ⟨by rfl, ?hy35⟩) (by assumption) ?rest35
        case hy35 => (intro w hSw; (try dsimp only at hSw); go_simp; (try with_reducible rfl))
        simp only [Act.put, List.setIfInBounds_toArray, List.set_cons_zero, List.set_cons_succ]
        refine wpAnyH_take (i := 9) (oi := { dst := some 18, op := Go.Op.extract (Go.Operand.tmp 9) 1, type := 32, pos := "excell.go:76", after := #[{ on := 7, ground := Go.Ground.data }, { on := 13, ground := Go.Ground.gcOnly Go.Departure.lateStores }], guard := none }) (v := ?v36) rfl (by kernel_rfl) (by kernel_rfl) (by kernel_rfl) (fun _ _ _ h => h) (Or.inl ⟨by rfl, ?hy36⟩) (by assumption) ?rest36
        case hy36 => (intro w hSw; (try dsimp only at hSw); go_simp; (try with_reducible rfl))
        simp only [Act.put, List.setIfInBounds_toArray, List.set_cons_zero, List.set_cons_succ]
        refine wpAnyH_take (i := 10) (oi := { dst := some 19, op := Go.Op.extract (Go.Operand.tmp 9) 2, type := 4, pos := "excell.go:76", after := #[{ on := 7, ground := Go.Ground.data }, { on := 14, ground := Go.Ground.gcOnly Go.Departure.lateStores }], guard := none }) (v := ?v37) rfl (by kernel_rfl) (by kernel_rfl) (by kernel_rfl) (fun _ _ _ h => h) (Or.inl ⟨by rfl, ?hy37⟩) (by assumption) ?rest37
        case hy37 => (intro w hSw; (try dsimp only at hSw); go_simp; (try with_reducible rfl))
        simp only [Act.put, List.setIfInBounds_toArray, List.set_cons_zero, List.set_cons_succ]
        refine wpAnyH_ready (rs := [13]) (by kernel_rfl) (by simp) (AllReadyH.cons (o := { dst := none, op := Go.Op.store 32 (Go.Operand.tmp 6) (Go.Operand.tmp 17), type := 0, pos := "excell.go:76", after := #[{ on := 11, ground := Go.Ground.data }, { on := 8, ground := Go.Ground.data }, { on := 6, ground := Go.Ground.chain }, { on := 0, ground := Go.Ground.phase }, { on := 1, ground := Go.Ground.phase }, { on := 2, ground := Go.Ground.phase }, { on := 3, ground := Go.Ground.phase }, { on := 4, ground := Go.Ground.phase }, { on := 5, ground := Go.Ground.phase }, { on := 6, ground := Go.Ground.phase }, { on := 7, ground := Go.Ground.phase }, { on := 8, ground := Go.Ground.phase }, { on := 9, ground := Go.Ground.textOnly Go.Departure.lateStores }, { on := 10, ground := Go.Ground.textOnly Go.Departure.lateStores }, { on := 11, ground := Go.Ground.phase }, { on := 12, ground := Go.Ground.phase }], guard := none }) rfl (fun K hK => ?_) AllReadyH.nil)
        have J38 := hid J33.out.st6
        have z := J33.out.zero6
        go_simp
        clear z
        refine hK.out _ _ (HX.out _ J38.out.below) (fun hHeld => ?_)
        clear hK K J33
        generalize (w9.setCell ⟨v0.heap.size, 0, none⟩ (.slice p1 n c1)).setCell ⟨v0.heap.size, 1, none⟩ (.slice p2 n c2) = v38 at J38 hHeld ⊢
        refine wpAnyH_ready (rs := [14]) (by kernel_rfl) (by simp) (AllReadyH.cons (o := { dst := none, op := Go.Op.store 32 (Go.Operand.tmp 7) (Go.Operand.tmp 18), type := 0, pos := "excell.go:76", after := #[{ on := 12, ground := Go.Ground.data }, { on := 9, ground := Go.Ground.data }, { on := 13, ground := Go.Ground.chain }, { on := 0, ground := Go.Ground.phase }, { on := 1, ground := Go.Ground.phase }, { on := 2, ground := Go.Ground.phase }, { on := 3, ground := Go.Ground.phase }, { on := 4, ground := Go.Ground.phase }, { on := 5, ground := Go.Ground.phase }, { on := 6, ground := Go.Ground.phase }, { on := 7, ground := Go.Ground.phase }, { on := 8, ground := Go.Ground.phase }, { on := 9, ground := Go.Ground.phase }, { on := 10, ground := Go.Ground.textOnly Go.Departure.lateStores }, { on := 11, ground := Go.Ground.phase }, { on := 12, ground := Go.Ground.phase }, { on := 13, ground := Go.Ground.phase }], guard := none }) rfl (fun K hK => ?_) AllReadyH.nil)
        have J39 := hid J38.out.st7
        have z := J38.out.zero7
        go_simp
        clear z
        refine hK.out _ _ (HX.out _ J39.out.below) (fun hHeld => ?_)
        clear hK K J38
        generalize (v38.setCell ⟨v22.heap.size, 0, none⟩ (.slice p3 n c3)).setCell ⟨v22.heap.size, 1, none⟩ (.slice p4 n c4) = v39 at J39 hHeld ⊢
        refine wpAnyH_ready (rs := [15]) (by kernel_rfl) (by simp) (AllReadyH.cons (o := { dst := some 8, op := Go.Op.assign (Go.Operand.tmp 19), type := 4, pos := "excell.go:76", after := #[{ on := 10, ground := Go.Ground.data }, { on := 14, ground := Go.Ground.chain }, { on := 0, ground := Go.Ground.phase }, { on := 1, ground := Go.Ground.phase }, { on := 2, ground := Go.Ground.phase }, { on := 3, ground := Go.Ground.phase }, { on := 4, ground := Go.Ground.phase }, { on := 5, ground := Go.Ground.phase }, { on := 6, ground := Go.Ground.phase }, { on := 7, ground := Go.Ground.phase }, { on := 8, ground := Go.Ground.phase }, { on := 9, ground := Go.Ground.phase }, { on := 10, ground := Go.Ground.phase }, { on := 11, ground := Go.Ground.phase }, { on := 12, ground := Go.Ground.phase }, { on := 13, ground := Go.Ground.phase }, { on := 14, ground := Go.Ground.phase }], guard := none }) rfl (fun K hK => ?_) AllReadyH.nil)
        have J40 := J39
        go_simp
        refine hK.out _ _ (HX.out _ J40.out.below) (fun hHeld => ?_)
        clear hK K J39
        refine wpAnyH_done (by kernel_rfl) ?_ _
        have HJ := hid J40.out.fin; clear J40
        go_wp2_with fail
        go_meet
        exact HJ.out
    ·
      have J41 := hid J0.out.al7
      go_simp
      refine hK.out _ _ (HX.out _ J41.out.below) (fun hHeld => ?_)
      clear hK K J0
      generalize v0.alloc (.cells #[Value.slice none 0 0, .slice none 0 0] 32) = v41 at J41 hHeld ⊢
      refine wpAnyH_ready (rs := [6, 11]) (by kernel_rfl) (by simp) (AllReadyH.cons (o := { dst := some 16, op := Go.Op.call { callee := Go.Callee.value (Go.Operand.func 56), args := #[Go.Operand.tmp 10, Go.Operand.tmp 15], argTypes := #[32, 3] }, type := 65, pos := "excell.go:76", after := #[{ on := 0, ground := Go.Ground.data }, { on := 5, ground := Go.Ground.data }], guard := none }) rfl (fun K hK => ?_) (AllReadyH.cons (o := { dst := some 6, op := Go.Op.alloc 32, type := 0, pos := "excell.go:76", after := #[], guard := none }) rfl (fun K hK => ?_) AllReadyH.nil))
      ·
        go_simp
        go_at_call 56
        refine (HH.out _ J41.out.below).mono ?_
        rintro e w9 ⟨p1, c1, p2, c2, p3, c3, p4, c4, rfl, g1, g2, g3, g4, hb⟩
        have J42 := hid (J41.out.call c1 c2 c3 c4 (fours_lt J41.out.le g1 g2 g3 g4) hb)
        clear g1 g2 g3 g4 hb J41
        refine hK.out _ _ (HX.out _ J42.out.below) (fun hHeld => ?_)
        clear hK K
        refine wpAnyH_take (i := 7) (oi := { dst := some 9, op := Go.Op.move (Go.Operand.tmp 16), type := 65, pos := "excell.go:76", after := #[{ on := 6, ground := Go.Ground.data }], guard := none }) (v := ?v43) rfl (by kernel_rfl) (by kernel_rfl) (by kernel_rfl) (fun _ _ _ h => h) (Or.inl ⟨by rfl, ?hy43⟩) (by assumption) ?rest43
        case hy43 => (intro w hSw; (try dsimp only at hSw); go_simp; (try with_reducible rfl))
        simp only [Act.put, List.setIfInBounds_toArray, List.set_cons_zero, List.set_cons_succ]
        refine wpAnyH_take (i := 8) (oi := { dst := some 17, op := Go.Op.extract (Go.Operand.tmp 9) 0, type := 32, pos := "excell.go:76", after := #[{ on := 7, ground := Go.Ground.data }], guard := none }) (v := ?v44) rfl (by kernel_rfl) (by kernel_rfl) (by kernel_rfl) (fun _ _ _ h => h) (Or.inl ⟨by rfl, ?hy44⟩) (by assumption) ?rest44
        case hy44 => (intro w hSw; (try dsimp only at hSw); go_simp; (try with_reducible rfl))
        simp only [Act.put, List.setIfInBounds_toArray, List.set_cons_zero, List.set_cons_succ]
        refine wpAnyH_take (i := 9) (oi := { dst := some 18, op := Go.Op.extract (Go.Operand.tmp 9) 1, type := 32, pos := "excell.go:76", after := #[{ on := 7, ground := Go.Ground.data }, { on := 13, ground := Go.Ground.gcOnly Go.Departure.lateStores }], guard := none }) (v := ?v45) rfl (by kernel_rfl) (by kernel_rfl) (by kernel_rfl) (fun _ _ _ h => h) (Or.inl ⟨by rfl, ?hy45⟩) (by assumption) ?rest45
        case hy45 => (intro w hSw; (try dsimp only at hSw); go_simp; (try with_reducible rfl))
        simp only [Act.put, List.setIfInBounds_toArray, List.set_cons_zero, List.set_cons_succ]
        refine wpAnyH_take (i := 10) (oi := { dst := some 19, op := Go.Op.extract (Go.Operand.tmp 9) 2, type := 4, pos := "excell.go:76", after := #[{ on := 7, ground := Go.Ground.data }, { on := 14, ground := Go.Ground.gcOnly Go.Departure.lateStores }], guard := none }) (v := ?v46) rfl (by kernel_rfl) (by kernel_rfl) (by kernel_rfl) (fun _ _ _ h => h) (Or.inl ⟨by rfl, ?hy46⟩) (by assumption) ?rest46
        case hy46 => (intro w hSw; (try dsimp only at hSw); go_simp; (try with_reducible rfl))
        simp only [Act.put, List.setIfInBounds_toArray, List.set_cons_zero, List.set_cons_succ]
        refine wpAnyH_ready (rs := [11]) (by kernel_rfl) (by simp) (AllReadyH.cons (o := { dst := some 6, op := Go.Op.alloc 32, type := 0, pos := "excell.go:76", after := #[], guard := none }) rfl (fun K hK => ?_) AllReadyH.nil)
        have J47 := hid J42.out.al6
        go_simp
        refine hK.out _ _ (HX.out _ J47.out.below) (fun hHeld => ?_)
        clear hK K J42
        generalize w9.alloc (.cells #[Value.slice none 0 0, .slice none 0 0] 32) = v47 at J47 hHeld ⊢
        refine wpAnyH_ready (rs := [13]) (by kernel_rfl) (by simp) (AllReadyH.cons (o := { dst := none, op := Go.Op.store 32 (Go.Operand.tmp 6) (Go.Operand.tmp 17), type := 0, pos := "excell.go:76", after := #[{ on := 11, ground := Go.Ground.data }, { on := 8, ground := Go.Ground.data }, { on := 6, ground := Go.Ground.chain }, { on := 0, ground := Go.Ground.phase }, { on := 1, ground := Go.Ground.phase }, { on := 2, ground := Go.Ground.phase }, { on := 3, ground := Go.Ground.phase }, { on := 4, ground := Go.Ground.phase }, { on := 5, ground := Go.Ground.phase }, { on := 6, ground := Go.Ground.phase }, { on := 7, ground := Go.Ground.phase }, { on := 8, ground := Go.Ground.phase }, { on := 9, ground := Go.Ground.textOnly Go.Departure.lateStores }, { on := 10, ground := Go.Ground.textOnly Go.Departure.lateStores }, { on := 11, ground := Go.Ground.phase }, { on := 12, ground := Go.Ground.phase }], guard := none }) rfl (fun K hK => ?_) AllReadyH.nil)
        have J48 := hid J47.out.st6
        have z := J47.out.zero6
        go_simp
        clear z
        refine hK.out _ _ (HX.out _ J48.out.below) (fun hHeld => ?_)
        clear hK K J47
        generalize (v47.setCell ⟨w9.heap.size, 0, none⟩ (.slice p1 n c1)).setCell ⟨w9.heap.size, 1, none⟩ (.slice p2 n c2) = v48 at J48 hHeld ⊢
        refine wpAnyH_ready (rs := [14]) (by kernel_rfl) (by simp) (AllReadyH.cons (o := { dst := none, op := Go.Op.store 32 (Go.Operand.tmp 7) (Go.Operand.tmp 18), type := 0, pos := "excell.go:76", after := #[{ on := 12, ground := Go.Ground.data }, { on := 9, ground := Go.Ground.data }, { on := 13, ground := Go.Ground.chain }, { on := 0, ground := Go.Ground.phase }, { on := 1, ground := Go.Ground.phase }, { on := 2, ground := Go.Ground.phase }, { on := 3, ground := Go.Ground.phase }, { on := 4, ground := Go.Ground.phase }, { on := 5, ground := Go.Ground.phase }, { on := 6, ground := Go.Ground.phase }, { on := 7, ground := Go.Ground.phase }, { on := 8, ground := Go.Ground.phase }, { on := 9, ground := Go.Ground.phase }, { on := 10, ground := Go.Ground.textOnly Go.Departure.lateStores }, { on := 11, ground := Go.Ground.phase }, { on := 12, ground := Go.Ground.phase }, { on := 13, ground := Go.Ground.phase }], guard := none }) rfl (fun K hK => ?_) AllReadyH.nil)
        have J49 := hid J48.out.st7
        have z := J48.out.zero7
        go_simp
        clear z
        refine hK.out _ _ (HX.out _ J49.out.below) (fun hHeld => ?_)
        clear hK K J48
        generalize (v48.setCell ⟨v0.heap.size, 0, none⟩ (.slice p3 n c3)).setCell ⟨v0.heap.size, 1, none⟩ (.slice p4 n c4) = v49 at J49 hHeld ⊢
        refine wpAnyH_ready (rs := [15]) (by kernel_rfl) (by simp) (AllReadyH.cons (o := { dst := some 8, op := Go.Op.assign (Go.Operand.tmp 19), type := 4, pos := "excell.go:76", after := #[{ on := 10, ground := Go.Ground.data }, { on := 14, ground := Go.Ground.chain }, { on := 0, ground := Go.Ground.phase }, { on := 1, ground := Go.Ground.phase }, { on := 2, ground := Go.Ground.phase }, { on := 3, ground := Go.Ground.phase }, { on := 4, ground := Go.Ground.phase }, { on := 5, ground := Go.Ground.phase }, { on := 6, ground := Go.Ground.phase }, { on := 7, ground := Go.Ground.phase }, { on := 8, ground := Go.Ground.phase }, { on := 9, ground := Go.Ground.phase }, { on := 10, ground := Go.Ground.phase }, { on := 11, ground := Go.Ground.phase }, { on := 12, ground := Go.Ground.phase }, { on := 13, ground := Go.Ground.phase }, { on := 14, ground := Go.Ground.phase }], guard := none }) rfl (fun K hK => ?_) AllReadyH.nil)
        have J50 := J49
        go_simp
        refine hK.out _ _ (HX.out _ J50.out.below) (fun hHeld => ?_)
        clear hK K J49
        refine wpAnyH_done (by kernel_rfl) ?_ _
        have HJ := hid J50.out.fin; clear J50
        go_wp2_with fail
        go_meet
        exact HJ.out
      ·
        have J51 := hid J41.out.al6
        go_simp
        refine hK.out _ _ (HX.out _ J51.out.below) (fun hHeld => ?_)
        clear hK K J41
        generalize v41.alloc (.cells #[Value.slice none 0 0, .slice none 0 0] 32) = v51 at J51 hHeld ⊢
        refine wpAnyH_ready (rs := [6]) (by kernel_rfl) (by simp) (AllReadyH.cons (o := { dst := some 16, op := Go.Op.call { callee := Go.Callee.value (Go.Operand.func 56), args := #[Go.Operand.tmp 10, Go.Operand.tmp 15], argTypes := #[32, 3] }, type := 65, pos := "excell.go:76", after := #[{ on := 0, ground := Go.Ground.data }, { on := 5, ground := Go.Ground.data }], guard := none }) rfl (fun K hK => ?_) AllReadyH.nil)
        go_simp
        go_at_call 56
        refine (HH.out _ J51.out.below).mono ?_
        rintro e w9 ⟨p1, c1, p2, c2, p3, c3, p4, c4, rfl, g1, g2, g3, g4, hb⟩
        have J52 := hid (J51.out.call c1 c2 c3 c4 (fours_lt J51.out.le g1 g2 g3 g4) hb)
        clear g1 g2 g3 g4 hb J51
        refine hK.out _ _ (HX.out _ J52.out.below) (fun hHeld => ?_)
        clear hK K
        refine wpAnyH_take (i := 7) (oi := { dst := some 9, op := Go.Op.move (Go.Operand.tmp 16), type := 65, pos := "excell.go:76", after := #[{ on := 6, ground := Go.Ground.data }], guard := none }) (v := ?v53) rfl (by kernel_rfl) (by kernel_rfl) (by kernel_rfl) (fun _ _ _ h => h) (Or.inl ⟨by rfl, ?hy53⟩) (by assumption) ?rest53
        case hy53 => (intro w hSw; (try dsimp only at hSw); go_simp; (try with_reducible rfl))
        simp only [Act.put, List.setIfInBounds_toArray, List.set_cons_zero, List.set_cons_succ]
        refine wpAnyH_take (i := 8) (oi := { dst := some 17, op := Go.Op.extract (Go.Operand.tmp 9) 0, type := 32, pos := "excell.go:76", after := #[{ on := 7, ground := Go.Ground.data }], guard := none }) (v := ?v54) rfl (by kernel_rfl) (by kernel_rfl) (by kernel_rfl) (fun _ _ _ h => h) (Or.inl ⟨by rfl, ?hy54⟩) (by assumption) ?rest54
        case hy54 => (intro w hSw; (try dsimp only at hSw); go_simp; (try with_reducible rfl))
        simp only [Act.put, List.setIfInBounds_toArray, List.set_cons_zero, List.set_cons_succ]
        refine wpAnyH_take (i := 9) (oi := { dst := some 18, op := Go.Op.extract (Go.Operand.tmp 9) 1, type := 32, pos := "excell.go:76", after := #[{ on := 7, ground := Go.Ground.data }, { on := 13, ground := Go.Ground.gcOnly Go.Departure.lateStores }], guard := none }) (v := ?v55) rfl (by kernel_rfl) (by kernel_rfl) (by kernel_rfl) (fun _ _ _ h => h) (Or.inl ⟨by rfl, ?hy55⟩) (by assumption) ?rest55
        case hy55 => (intro w hSw; (try dsimp only at hSw); go_simp; (try with_reducible rfl))
        simp only [Act.put, List.setIfInBounds_toArray, List.set_cons_zero, List.set_cons_succ]
        refine wpAnyH_take (i := 10) (oi := { dst := some 19, op := Go.Op.extract (Go.Operand.tmp 9) 2, type := 4, pos := "excell.go:76", after := #[{ on := 7, ground := Go.Ground.data }, { on := 14, ground := Go.Ground.gcOnly Go.Departure.lateStores }], guard := none }) (v := ?v56) rfl (by kernel_rfl) (by kernel_rfl) (by kernel_rfl) (fun _ _ _ h => h) (Or.inl ⟨by rfl, ?hy56⟩) (by assumption) ?rest56
        case hy56 => (intro w hSw; (try dsimp only at hSw); go_simp; (try with_reducible rfl))
        simp only [Act.put, List.setIfInBounds_toArray, List.set_cons_zero, List.set_cons_succ]
        refine wpAnyH_ready (rs := [13]) (by kernel_rfl) (by simp) (AllReadyH.cons (o := { dst := none, op := Go.Op.store 32 (Go.Operand.tmp 6) (Go.Operand.tmp 17), type := 0, pos := "excell.go:76", after := #[{ on := 11, ground := Go.Ground.data }, { on := 8, ground := Go.Ground.data }, { on := 6, ground := Go.Ground.chain }, { on := 0, ground := Go.Ground.phase }, { on := 1, ground := Go.Ground.phase }, { on := 2, ground := Go.Ground.phase }, { on := 3, ground := Go.Ground.phase }, { on := 4, ground := Go.Ground.phase }, { on := 5, ground := Go.Ground.phase }, { on := 6, ground := Go.Ground.phase }, { on := 7, ground := Go.Ground.phase }, { on := 8, ground := Go.Ground.phase }, { on := 9, ground := Go.Ground.textOnly Go.Departure.lateStores }, { on := 10, ground := Go.Ground.textOnly Go.Departure.lateStores }, { on := 11, ground := Go.Ground.phase }, { on := 12, ground := Go.Ground.phase }], guard := none }) rfl (fun K hK => ?_) AllReadyH.nil)
        have J57 := hid J52.out.st6
        have z := J52.out.zero6
        go_simp
        clear z
        refine hK.out _ _ (HX.out _ J57.out.below) (fun hHeld => ?_)
        clear hK K J52
        generalize (w9.setCell ⟨v41.heap.size, 0, none⟩ (.slice p1 n c1)).setCell ⟨v41.heap.size, 1, none⟩ (.slice p2 n c2) = v57 at J57 hHeld ⊢
        refine wpAnyH_ready (rs := [14]) (by kernel_rfl) (by simp) (AllReadyH.cons (o := { dst := none, op := Go.Op.store 32 (Go.Operand.tmp 7) (Go.Operand.tmp 18), type := 0, pos := "excell.go:76", after := #[{ on := 12, ground := Go.Ground.data }, { on := 9, ground := Go.Ground.data }, { on := 13, ground := Go.Ground.chain }, { on := 0, ground := Go.Ground.phase }, { on := 1, ground := Go.Ground.phase }, { on := 2, ground := Go.Ground.phase }, { on := 3, ground := Go.Ground.phase }, { on := 4, ground := Go.Ground.phase }, { on := 5, ground := Go.Ground.phase }, { on := 6, ground := Go.Ground.phase }, { on := 7, ground := Go.Ground.phase }, { on := 8, ground := Go.Ground.phase }, { on := 9, ground := Go.Ground.phase }, { on := 10, ground := Go.Ground.textOnly Go.Departure.lateStores }, { on := 11, ground := Go.Ground.phase }, { on := 12, ground := Go.Ground.phase }, { on := 13, ground := Go.Ground.phase }], guard := none }) rfl (fun K hK => ?_) AllReadyH.nil)
        have J58 := hid J57.out.st7
        have z := J57.out.zero7
        go_simp
        clear z
        refine hK.out _ _ (HX.out _ J58.out.below) (fun hHeld => ?_)
        clear hK K J57
        generalize (v57.setCell ⟨v0.heap.size, 0, none⟩ (.slice p3 n c3)).setCell ⟨v0.heap.size, 1, none⟩ (.slice p4 n c4) = v58 at J58 hHeld ⊢
        refine wpAnyH_ready (rs := [15]) (by kernel_rfl) (by simp) (AllReadyH.cons (o := { dst := some 8, op := Go.Op.assign (Go.Operand.tmp 19), type := 4, pos := "excell.go:76", after := #[{ on := 10, ground := Go.Ground.data }, { on := 14, ground := Go.Ground.chain }, { on := 0, ground := Go.Ground.phase }, { on := 1, ground := Go.Ground.phase }, { on := 2, ground := Go.Ground.phase }, { on := 3, ground := Go.Ground.phase }, { on := 4, ground := Go.Ground.phase }, { on := 5, ground := Go.Ground.phase }, { on := 6, ground := Go.Ground.phase }, { on := 7, ground := Go.Ground.phase }, { on := 8, ground := Go.Ground.phase }, { on := 9, ground := Go.Ground.phase }, { on := 10, ground := Go.Ground.phase }, { on := 11, ground := Go.Ground.phase }, { on := 12, ground := Go.Ground.phase }, { on := 13, ground := Go.Ground.phase }, { on := 14, ground := Go.Ground.phase }], guard := none }) rfl (fun K hK => ?_) AllReadyH.nil)
        have J59 := J58
        go_simp
        refine hK.out _ _ (HX.out _ J59.out.below) (fun hHeld => ?_)
        clear hK K J58
        refine wpAnyH_done (by kernel_rfl) ?_ _
        have HJ := hid J59.out.fin; clear J59
        go_wp2_with fail
        go_meet
        exact HJ.out
  case rest =>
    obtain ⟨g, g', p1, c1, p2, c2, p3, c3, p4, c4, rfl, rfl, hg, hg', ⟨hN, hN'⟩, hf, hb⟩ := hcut
    have HF := hid hf
    have HBW := hid hb
    have HSZ := hid HQ.out.size
    have x1 := two_cells hg
    have x2 := two_cells hg'
    have yo := HQ.out.outs hb
    have far : ∀ (u v : Value) (o : Nat), ((wc.setCell ⟨w.heap.size + 1, 0, none⟩ u).setCell ⟨w.heap.size + 1, 1, none⟩ v).cell? ⟨g', o, none⟩ = wc.cell? ⟨g', o, none⟩ := fun u v o => by
      have h3 := HSZ.out
      rw [World.cell?_setCell_other _ _ _ _ (fun e => by injection e; omega), World.cell?_setCell_other _ _ _ _ (fun e => by injection e; omega)]
    have zf0 := (far (.slice p1 n c1) (.slice p2 n c2) 0).trans x2.1
    have zf1 := (far (.slice p1 n c1) (.slice p2 n c2) 1).trans x2.2.1
    clear far x0 hg hg' hN hN' hf hb
    go_wp2_with fail
    go_region
    all_goals
      go_wp2_with fail
      have y2 := HQ.out.stored HBW.out (.slice p1 n c1) (.slice p2 n c2) (.slice p3 n c3) (.slice p4 n c4) rfl
      refine bodyPost_ret (v := .tuple #[.agg #[.slice p1 n c1, .slice p2 n c2], .agg #[.slice p3 n c3, .slice p4 n c4]]) (by simp [results, Try.results43, go_sem, y2.1]) rfl ?_
      have hk : Keep (fun k => k < w.heap.size + 3) wc _ := ⟨y2.2.2.size, y2.2.2.block⟩
      have h3 := HSZ.out
      have mv : ∀ {pp : Option Addr} {l : List Nat}, PtD (fun k => k < W.heap.size) wc pp l → PtD (fun k => k < w.heap.size) _ pp l := fun h => ((h.less (D' := fun k => k < w.heap.size + 3) (fun b _ hb => by have : b < w.heap.size + 3 := hb; show b < W.heap.size; omega)).keep hk).less (fun b _ hb => by have : b < w.heap.size := hb; show b < w.heap.size + 3; omega)
      exact ⟨p1, c1, p2, c2, p3, c3, p4, c4, rfl, ptd_drew (mv HF.out.1), ptd_drew (mv HF.out.2.1), ptd_drew (mv HF.out.2.2.1), ptd_drew (mv HF.out.2.2.2), y2.2.1.drew⟩
end Go.Proofs.Ytalohakibpjmmaa.Ex
