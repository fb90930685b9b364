/- The law's own examples of scale. -/
import Derived.Test.YtmhjoeegghnlhaaScLvM
import Derived.Test.YtmhjoeegghnlhaaExInts
import Derived.Test.YtmhjoeegghnlhaaKyWhole
namespace Go.Proofs.Ytmhjoeegghnlhaa.Sc
open Go.RowKit
open Go.Lib (hid)
open Go.Proofs.Ytmhjoeegghnlhaa.Ky Go.Proofs.Ytmhjoeegghnlhaa.Bk
open Go.Proofs.Ytmhjoeegghnlhaa

/-- what Find, Box and Decode gave: memory from T on, below Z -/
structure Lv (T Z : Nat) (V : World) (gc gd gl gh bx Rx Nx : Nat) (vx : List Value) : Prop where
  c : V.heap[gc]? = some (.cells (ci [1, 0]).toArray 3 (0, 0))
  d : V.heap[gd]? = some (.cells #[.slice (some ⟨gl, 0, none⟩) 2 2, .slice (some ⟨gh, 0, none⟩) 2 2] 34 (0, 0))
  l : Own V gl [5, 0]
  h : Own V gh [8, 4294967295]
  x : Sc Nx V bx Rx vx [[5, 9], []]
  t : T ≤ gc ∧ T ≤ gd ∧ T ≤ gl ∧ T ≤ gh ∧ T ≤ Nx
  z : gc < Z ∧ gd < Z ∧ gl < Z ∧ gh < Z ∧ ∀ k, FS bx Rx vx k → k < Z
theorem Lv.up {T Z gc gd gl gh bx Rx Nx : Nat} {V V' : World} {vx : List Value} (h : Lv T Z V gc gd gl gh bx Rx Nx vx) (u : ∀ k, T ≤ k → k < Z → V'.heap[k]? = V.heap[k]?) : Lv T Z V' gc gd gl gh bx Rx Nx vx :=
  ⟨(u gc h.t.1 h.z.1).trans h.c, (u gd h.t.2.1 h.z.2.1).trans h.d, (u gl h.t.2.2.1 h.z.2.2.1).trans h.l, (u gh h.t.2.2.2.1 h.z.2.2.2.1).trans h.h, h.x.keep fun k hk => u k (Nat.le_trans h.t.2.2.2.2 (h.x.ge k hk)) (h.z.2.2.2.2 k hk), h.t, h.z⟩
theorem Lv.below {T Z gc gd gl gh bx Rx Nx : Nat} {V V' : World} {vx : List Value} (h : Lv T Z V gc gd gl gh bx Rx Nx vx) (hZ : Z ≤ V.heap.size) (hb : Below V.heap.size V V') : Lv T Z V' gc gd gl gh bx Rx Nx vx :=
  h.up fun k _ hk => hb.block k (Nat.lt_of_lt_of_le hk hZ)
theorem lvN (V : World) : Calls Try.prog 9 #[.int .i64 2] V fun e w' => e = .returned (.tuple #[.pointer (some ⟨V.heap.size + 1, 0, none⟩), .int .i64 0]) ∧ (∃ vs, Sc V.heap.size w' (V.heap.size + 1) V.heap.size vs [[], []]) ∧ Below V.heap.size V w' := by
  have h := new_ok 2 V (by omega)
  refine h.mono fun e w' hh => ?_
  obtain ⟨h1, h2⟩ := hh
  subst h2
  exact ⟨h1, ⟨_, sc_new 2 V V.heap.size (Nat.le_refl _) (by omega)⟩, (below_alloc _ _).alloc (below_alloc _ _).size _⟩
theorem lvI {N b R : Nat} {vs : List Value} {bs bs' : List (List Nat)} {V : World} (a : Int) (t : Nat) (v e0 : Int) (h : Sc N V b R vs bs) (hu : upS bs) (hN : N ≤ V.heap.size) (ht : t < 4294967296) (hx : insB bs a t = bs' ∧ insV bs a t = v ∧ insE bs a t = e0) :
    Calls Try.prog 15 #[.pointer (some ⟨b, 0, none⟩), .int .i64 a, .int .u32 (t : Int)] V fun e w' => e = .returned (.tuple #[.int .i64 v, .int .i64 e0]) ∧ (∃ vs', Sc N w' b R vs' bs') ∧ Below N V w' := by
  have hi := insert_ok N b R vs bs a t V h hN hu ht
  rw [hx.1, hx.2.1, hx.2.2] at hi
  refine hi.mono fun e w' hh => ?_
  obtain ⟨h1, vs', h2, h3, _⟩ := hh
  exact ⟨h1, ⟨vs', h2⟩, h3.below hN h.ge⟩
theorem remL {N b R : Nat} {vs : List Value} {bs bs' : List (List Nat)} {V : World} (a i e0 : Int) (h : Sc N V b R vs bs) (hN : N ≤ V.heap.size) (hx : remS bs a i = bs' ∧ err (remB bs a i) = e0) :
    Calls Try.prog 17 #[.pointer (some ⟨b, 0, none⟩), .int .i64 a, .int .i64 i] V fun e w' => e = .returned (.int .i64 e0) ∧ (∃ vs', Sc N w' b R vs' bs' ∧ ∀ j, j < V.heap.size → FS b R vs' j → FS b R vs j) ∧ Onl (FS b R vs) V w' ∧ Below N V w' := by
  have hi := remove_ok N b R vs bs a i V h
  rw [hx.1, hx.2] at hi
  refine hi.mono fun e w' hh => ?_
  obtain ⟨h1, vs', h2, h3, h4⟩ := hh
  exact ⟨h1, ⟨vs', h2, h4⟩, h3, h3.below hN h.ge⟩
theorem lvF {N b R : Nat} {vs : List Value} {V : World} {q : Option Addr} (h : Sc N V b R vs [[5, 9], []]) (hq : Pt V q [7, 7]) :
    Calls Try.prog 19 #[.pointer (some ⟨b, 0, none⟩), .slice q 2 2] V fun e w' => ∃ g, e = .returned (.tuple #[.slice (some ⟨g, 0, none⟩) 2 2, .int .i64 0]) ∧ w'.heap[g]? = some (.cells (ci [1, 0]).toArray 3 (0, 0)) ∧ V.heap.size ≤ g ∧ Below V.heap.size V w' := by
  refine (find_any N b R vs [[5, 9], []] [7, 7] q 2 V h m_up.1 hq).mono fun e w' hh => ?_
  obtain ⟨p, m, h1, h2, h3⟩ := hh
  rw [if_pos (by decide)] at h2
  obtain ⟨rfl, g, rfl, hg, hs⟩ := h2
  rw [m_cell] at hg
  exact ⟨g, h1, hg, hs, h3⟩
theorem is_two {V : World} {g : Nat} (h : V.heap[g]? = some (.cells (ci [1, 0]).toArray 3 (0, 0))) : Is V (some ⟨g, 0, none⟩) [1, 0] := by
  refine ⟨fun j hj => ⟨g, 0, rfl, lt_of h, ?_⟩, fun j hj => ?_⟩
  · rw [cell_of_row _ _ _ _ _ _ h, Nat.zero_add]
    match j, hj with
    | 0, _ => rfl
    | 1, _ => rfl
  · match j, hj with
    | 0, _ => simp
    | 1, _ => simp
theorem lvB {N b R g : Nat} {vs : List Value} {V : World} (h : Sc N V b R vs [[5, 9], []]) (hg : V.heap[g]? = some (.cells (ci [1, 0]).toArray 3 (0, 0))) :
    Calls Try.prog 22 #[.pointer (some ⟨b, 0, none⟩), .slice (some ⟨g, 0, none⟩) 2 2, .slice (some ⟨g, 0, none⟩) 2 2] V (BoxR V [5, 0] [8, 4294967295] 2) := by
  have hb := box_yes N b R vs [[5, 9], []] [1, 0] [1, 0] _ _ 2 2 2 V h m_up.1 (is_two hg) (is_two hg) rfl rfl rfl m_rise
  rw [m_box.1, m_box.2] at hb
  exact hb
theorem lvE {N b R : Nat} {vs : List Value} {V : World} (h : Sc N V b R vs [[5, 9], []]) :
    Calls Try.prog 27 #[.pointer (some ⟨b, 0, none⟩)] V fun e w' => e = .returned (.string ⟨#[2, 0, 0, 0, 5, 0, 0, 0, 9, 0]⟩) ∧ Below V.heap.size V w' := by
  have he := encode_ok N b R vs [[5, 9], []] V h
  rw [m_enc] at he
  exact he
theorem lvD (V : World) : Calls Try.prog 30 #[.int .i64 2, .string ⟨#[2, 0, 0, 0, 5, 0, 0, 0, 9, 0]⟩] V fun e w' => (∃ bx Rx vx, e = .returned (.tuple #[.pointer (some ⟨bx, 0, none⟩), .int .i64 0]) ∧ Sc V.heap.size w' bx Rx vx [[5, 9], []]) ∧ Below V.heap.size V w' := by
  refine (decode_ok 2 ⟨#[2, 0, 0, 0, 5, 0, 0, 0, 9, 0]⟩ V (by omega) (by decide)).mono fun e w' hh => ?_
  unfold DecPost at hh
  rw [m_dec] at hh
  have h2 := hh.2
  change (if _ then _ else _) at h2
  rw [if_pos ⟨rfl, m_may⟩] at h2
  obtain ⟨bx, Rx, vx, h3, h4⟩ := h2
  exact ⟨⟨bx, Rx, vx, h3, h4⟩, hh.1⟩
theorem lvM {N b R : Nat} {vs : List Value} {V : World} {q r : Option Addr} {c c' : Nat} (h : Sc N V b R vs [[9], []]) (hq : Pt V q [0, 0]) (hr : Pt V r [4294967295, 4294967295]) :
    Calls Try.prog 25 #[.pointer (some ⟨b, 0, none⟩), .agg #[.slice q 2 c, .slice r 2 c']] V (TwoInts V [0, 0] [1, 0] 0) := by
  have hm := meet_yes N b R vs [[9], []] [0, 0] [4294967295, 4294967295] q r c c' V h m_up.2.1 hq hr (by decide)
  rw [m_meet.1, m_meet.2] at hm
  exact hm
theorem cells_ci {V : World} {g : Nat} (x y : Nat) (h : V.heap[g]? = some (.cells (ci [x, y]).toArray 3 (0, 0))) : Ex.CellsAt V (some ⟨g, 0, none⟩) (Ex.iv [(x : Int), (y : Int)]) := fun j hj => by
  refine ⟨g, 0, rfl, ?_⟩
  rw [cell_of_row _ _ _ _ _ _ h, Nat.zero_add]
  match j, hj with
  | 0, _ => rfl
  | 1, _ => rfl
theorem ints2 (x y : Nat) {V : World} {g g' : Nat} (h : V.heap[g]? = some (.cells (ci [x, y]).toArray 3 (0, 0))) (h' : V.heap[g']? = some (.cells (ci [x, y]).toArray 3 (0, 0))) :
    Calls Try.prog 21 #[.slice (some ⟨g, 0, none⟩) 2 2, .slice (some ⟨g', 0, none⟩) 2 2] V fun e w' => e = .returned (.bool true) ∧ Below V.heap.size V w' := by
  refine (Ex.ints_ok [(x : Int), (y : Int)] [(x : Int), (y : Int)] _ _ 2 2 V (cells_ci x y h) (cells_ci x y h') (by simp)).mono fun e w' hh => ?_
  obtain ⟨h1, m, rfl⟩ := hh
  exact ⟨by rw [h1]; simp, below_drewN (Below.refl _ _) m⟩
end Go.Proofs.Ytmhjoeegghnlhaa.Sc
