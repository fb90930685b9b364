/- A slab in memory; the small calls of slab: dimensions, has. -/
import Derived.Test.YtnmhdlincgefeaaRows
import Derived.WalkKit
import Derived.WalkSmall
import Derived.Lib.Hide
import Derived.LoopTactic
import Derived.RegionTactic
import Derived.Deep.QuietTactic
import Derived.BigQuiet
import Derived.ChangeAlike
import Derived.Below
import Derived.Laws.OwnMore
import Derived.Laws.AppendOwn
import Derived.WalkLawsBesides
import Derived.WalkSpells
import Derived.IntWalk
import Derived.Deep.RegionLaw
import Derived.Deep.RegionHeld3
import Derived.StillTailTactics
namespace Go.Proofs.Ytnmhdlincgefeaa.Sl
open Go.RowKit
open Go.Lib (hid)

theorem below_drewN {B : Nat} {w w' : World} (h : Below B w w') (n : Nat) : Below B w (w'.drewN n) := ⟨h.os, h.tape, h.output, h.size, h.block⟩
theorem below_alloc (w : World) (o : Obj) : Below w.heap.size w (w.alloc o) := (Below.refl _ _).alloc (Nat.le_refl _) _
/-- a slice's cells, whatever it begins at -/
def CellsAt (w : World) (p : Option Addr) (l : List Value) : Prop := ∀ j, (hj : j < l.length) → ∃ b off, p = some ⟨b, off, none⟩ ∧ b < w.heap.size ∧ w.cell? ⟨b, off + j, none⟩ = some l[j]
theorem CellsAt.below {w w' : World} {p : Option Addr} {l : List Value} (h : CellsAt w p l) (hb : Below w.heap.size w w') : CellsAt w' p l := fun j hj => by
  obtain ⟨b, off, e, hlt, hc⟩ := h j hj
  exact ⟨b, off, e, Nat.lt_of_lt_of_le hlt hb.size, (hb.cell hlt).trans hc⟩
/-- numbers as cells -/
def iv (l : List Int) : List Value := l.map fun x => .int .i64 x
theorem iv_length (l : List Int) : (iv l).length = l.length := by simp [iv]
/-- a slab at b: its sizes and its contents, whatever they stand in -/
structure Sb (w : World) (b : Nat) (p q : Option Addr) (k m : Nat) (S C : List Int) : Prop where
  head : w.heap[b]? = some (.cells #[.slice p S.length k, .slice q C.length m] 60 (0, 0))
  sz : CellsAt w p (iv S)
  co : CellsAt w q (iv C)
section
variable {w w' : World} {b : Nat} {p q : Option Addr} {k m : Nat} {S C : List Int}
theorem Sb.lt (h : Sb w b p q k m S C) : b < w.heap.size := (Array.getElem?_eq_some_iff.1 h.head).1
theorem Sb.below (h : Sb w b p q k m S C) (hb : Below w.heap.size w w') : Sb w' b p q k m S C :=
  ⟨(hb.block b h.lt).trans h.head, h.sz.below hb, h.co.below hb⟩
theorem Sb.cell0 (h : Sb w b p q k m S C) : w.cell? ⟨b, 0, none⟩ = some (.slice p S.length k) := by
  rw [cell_of_row _ _ _ _ _ _ h.head]; rfl
theorem Sb.cell1 (h : Sb w b p q k m S C) : w.cell? ⟨b, 1, none⟩ = some (.slice q C.length m) := by
  rw [cell_of_row _ _ _ _ _ _ h.head]; rfl
end
set_option maxRecDepth 100000 in
set_option maxHeartbeats 1000000 in
theorem dims_ok (b : Nat) (p q : Option Addr) (k m : Nat) (S C : List Int) (w : World) (h : Sb w b p q k m S C) : Calls Try.prog 62 #[.pointer (some ⟨b, 0, none⟩)] w fun e w' => e = .returned (.int .i64 S.length) ∧ w' = w := by
  have y0 := h.cell0
  clear h
  go_enter Try.func62, Try.ntmps62
  go_wp2_with fail
  go_ret
  exact ⟨rfl, rfl⟩
set_option maxRecDepth 100000 in
set_option maxHeartbeats 1000000 in
theorem dims_none (w : World) : Calls Try.prog 62 #[.pointer none] w fun e w' => e = .returned (.int .i64 0) ∧ w' = w := by
  go_enter Try.func62, Try.ntmps62
  go_wp2_with fail
  go_ret
  exact ⟨rfl, rfl⟩
/-- is there a dimension of that number, with cells of that number there? -/
def hasB (S : List Int) (d i : Int) : Bool := decide (0 ≤ d) && decide (d < (S.length : Int)) && decide (0 ≤ i) && decide (i < S.getD d.toNat 0)
set_option maxRecDepth 100000 in
set_option maxHeartbeats 1000000 in
theorem has_none (d i : Int) (w : World) : Calls Try.prog 63 #[.pointer none, .int .i64 d, .int .i64 i] w fun e w' => e = .returned (.bool false) ∧ ∃ n, w' = w.drewN n := by
  have HD := hid fun (V : World) => dims_none V
  by_cases h1 : 0 ≤ d
  · have e1 : decide ((0 : Int) ≤ d) = true := decide_eq_true h1
    have e2 : decide (d < (0 : Int)) = false := decide_eq_false (by omega)
    clear h1
    go_enter Try.func63, Try.ntmps63
    go_wp2_with fail
    refine (HD.out _).mono ?_
    rintro e w1 ⟨rfl, rfl⟩
    go_wp2_with fail
    go_ret
    exact ⟨rfl, 0, rfl⟩
  · have e1 : decide ((0 : Int) ≤ d) = false := decide_eq_false h1
    clear h1
    go_enter Try.func63, Try.ntmps63
    go_wp2_with fail
    go_ret
    exact ⟨rfl, 0, rfl⟩
set_option maxRecDepth 100000 in
set_option maxHeartbeats 2000000 in
theorem has_ok (b : Nat) (p q : Option Addr) (k m : Nat) (S C : List Int) (w : World) (h : Sb w b p q k m S C) (d i : Int) : Calls Try.prog 63 #[.pointer (some ⟨b, 0, none⟩), .int .i64 d, .int .i64 i] w fun e w' => e = .returned (.bool (hasB S d i)) ∧ ∃ n, w' = w.drewN n := by
  have HD := hid fun (V : World) (hV : Sb V b p q k m S C) => dims_ok b p q k m S C V hV
  have HS := hid h
  unfold hasB
  by_cases h1 : 0 ≤ d
  · have e1 : decide ((0 : Int) ≤ d) = true := decide_eq_true h1
    by_cases h2 : d < (S.length : Int)
    · have e2 : decide (d < (S.length : Int)) = true := decide_eq_true h2
      by_cases h3 : 0 ≤ i
      · have e3 : decide ((0 : Int) ≤ i) = true := decide_eq_true h3
        obtain ⟨D, rfl⟩ : ∃ D : Nat, d = (D : Int) := ⟨d.toNat, by omega⟩
        have hD : D < S.length := by omega
        have HE := hid (show S.getD (D : Int).toNat 0 = S[D] by rw [Int.toNat_natCast, List.getD_eq_getElem?_getD, List.getElem?_eq_getElem hD]; rfl)
        obtain ⟨b1, o1, hp, lt1, c1⟩ := h.sz D (by rw [iv_length]; exact hD)
        have d1 : w.cell? ⟨b1, o1 + D, none⟩ = some (.int .i64 S[D]) := by have := c1; simp [iv] at this; exact this
        clear c1
        subst hp
        have y0 := h.cell0
        rw [HE.out, e1, e2, e3]
        generalize S[D] = z at d1 HE
        clear h h1 h2 h3
        go_enter Try.func63, Try.ntmps63
        go_wp2_with fail
        refine (HD.out _ HS.out).mono ?_
        rintro e w1 ⟨rfl, rfl⟩
        go_wp2_with fail
        go_ret
        exact ⟨by simp, 0, rfl⟩
      · have e3 : decide ((0 : Int) ≤ i) = false := decide_eq_false h3
        rw [e1, e2, e3]
        clear h h1 h2 h3
        go_enter Try.func63, Try.ntmps63
        go_wp2_with fail
        refine (HD.out _ HS.out).mono ?_
        rintro e w1 ⟨rfl, rfl⟩
        go_wp2_with fail
        go_ret
        exact ⟨by simp, 0, rfl⟩
    · have e2 : decide (d < (S.length : Int)) = false := decide_eq_false h2
      rw [e1, e2]
      clear h h1 h2
      go_enter Try.func63, Try.ntmps63
      go_wp2_with fail
      refine (HD.out _ HS.out).mono ?_
      rintro e w1 ⟨rfl, rfl⟩
      go_wp2_with fail
      go_ret
      exact ⟨by simp, 0, rfl⟩
  · have e1 : decide ((0 : Int) ≤ d) = false := decide_eq_false h1
    rw [e1]
    clear h h1
    go_enter Try.func63, Try.ntmps63
    go_wp2_with fail
    go_ret
    exact ⟨by simp, 0, rfl⟩
theorem Sb.drewN {w : World} {b : Nat} {p q : Option Addr} {k m : Nat} {S C : List Int} (h : Sb w b p q k m S C) (n : Nat) : Sb (w.drewN n) b p q k m S C := h.below (below_drewN (Below.refl _ _) n)
theorem CellsAt.drewN {w : World} {p : Option Addr} {l : List Value} (h : CellsAt w p l) (n : Nat) : CellsAt (w.drewN n) p l := h.below (below_drewN (Below.refl _ _) n)
/-- is it a cell? -/
def cellB (S c : List Int) : Bool := decide (c.length = S.length) && decide (S.length ≠ 0) && (List.range c.length).all fun j => hasB S (j : Int) (c.getD j 0)
theorem all_more (n : Nat) (f : Nat → Bool) : (List.range (n + 1)).all f = ((List.range n).all f && f n) := by
  rw [List.range_succ, List.all_append]; simp
theorem all_stop (N n : Nat) (f : Nat → Bool) (h : n < N) (hf : f n = false) : (List.range N).all f = false := by
  rw [List.all_eq_false]; exact ⟨n, List.mem_range.2 h, by simp [hf]⟩
set_option maxRecDepth 100000 in
set_option maxHeartbeats 2000000 in
theorem cell_ok (b : Nat) (p q : Option Addr) (k m : Nat) (S C : List Int) (w : World) (h : Sb w b p q k m S C) (c : List Int) (r : Option Addr) (cc : Nat) (hr : CellsAt w r (iv c)) (hl : c.length ≤ 1000000) :
    Calls Try.prog 53 #[.pointer (some ⟨b, 0, none⟩), .slice r c.length cc] w fun e w' => e = .returned (.bool (cellB S c)) ∧ ∃ n, w' = w.drewN n := by
  have HD := hid fun (V : World) (hV : Sb V b p q k m S C) => dims_ok b p q k m S C V hV
  have HH := hid fun (V : World) (hV : Sb V b p q k m S C) => has_ok b p q k m S C V hV
  have HS := hid h
  have HR := hid hr
  by_cases h1 : S.length = 0
  · have e1 : ((S.length : Int) == (0 : Int)) = true := by simp [h1]
    have HE : Hid (cellB S c = false) := hid (by unfold cellB; simp [h1])
    clear h hr h1
    go_enter Try.func53, Try.ntmps53
    go_wp2_with fail
    refine (HD.out _ HS.out).mono ?_
    rintro e w1 ⟨rfl, rfl⟩
    go_wp2_with fail
    go_ret
    exact ⟨by rw [HE.out]; rfl, 0, rfl⟩
  · have e1 : ((S.length : Int) == (0 : Int)) = false := beq_eq_false_iff_ne.2 (by omega)
    by_cases h2 : c.length = S.length
    · have e2 : ((c.length : Int) != (S.length : Int)) = false := by simp [h2]
      have HC : Hid (cellB S c = (List.range c.length).all fun j => hasB S (j : Int) (c.getD j 0)) := hid (by unfold cellB; simp [h1, h2])
      clear h hr h1 h2
      go_enter Try.func53, Try.ntmps53
      go_wp2_with fail
      refine (HD.out _ HS.out).mono ?_
      rintro e w1 ⟨rfl, rfl⟩
      go_wp2_with fail
      refine (HD.out _ HS.out).mono ?_
      rintro e w1 ⟨rfl, rfl⟩
      go_wp2_with fail
      clear e1 e2
      go_loopw [19] (fun i wr => ∃ k : Nat, k ≤ c.length ∧ i = .int .i64 k ∧ ((List.range k).all fun j => hasB S (j : Int) (c.getD j 0)) = true ∧ ∃ n, wr = w1.drewN n) (fun i _ => c.length - (intOf i).toNat)
      case atStart => exact ⟨0, by omega, rfl, rfl, 0, rfl⟩
      case round =>
        obtain ⟨K, hk, rfl, htk, n, rfl⟩ := hrel
        have HTK := hid htk; clear htk
        by_cases hlt : K < c.length
        · obtain ⟨b1, o1, rfl, lt1, c1⟩ := HR.out K (by rw [iv_length]; exact hlt)
          have d1 : w1.cell? ⟨b1, o1 + K, none⟩ = some (.int .i64 c[K]) := by have := c1; simp [iv] at this; exact this
          clear c1
          have HG := hid (show c.getD K 0 = c[K] by rw [List.getD_eq_getElem?_getD, List.getElem?_eq_getElem hlt]; rfl)
          generalize c[K] = z at d1 HG
          cases hb : hasB S (K : Int) z with
          | true =>
            have HB := hid hb
            clear hb
            go_wp2_with fail
            refine (HH.out _ (HS.out.drewN _) _ _).mono ?_
            rintro e w2 ⟨rfl, n2, rfl⟩
            rw [HB.out]
            go_wp2_with fail
            go_roundw
            case rel => exact ⟨K + 1, by omega, by go_num, by rw [all_more, HTK.out, HG.out, HB.out]; rfl, _, rfl⟩
            case measure => simp [intOf]; omega
          | false =>
            have HB := hid hb
            have HF := hid (all_stop c.length K (fun j => hasB S (j : Int) (c.getD j 0)) hlt (by show hasB S (K : Int) (c.getD K 0) = false; rw [HG.out]; exact hb))
            clear hb
            go_wp2_with fail
            refine (HH.out _ (HS.out.drewN _) _ _).mono ?_
            rintro e w2 ⟨rfl, n2, rfl⟩
            rw [HB.out]
            go_wp2_with fail
            go_ret
            exact ⟨by rw [HC.out, HF.out]; rfl, _, rfl⟩
        · obtain rfl : K = c.length := by omega
          go_wp2_with fail
          go_ret
          exact ⟨by rw [HC.out, HTK.out]; rfl, n, rfl⟩
    · have e2 : ((c.length : Int) != (S.length : Int)) = true := by simp; omega
      have HE : Hid (cellB S c = false) := hid (by unfold cellB; simp [h2])
      clear h hr h1 h2
      go_enter Try.func53, Try.ntmps53
      go_wp2_with fail
      refine (HD.out _ HS.out).mono ?_
      rintro e w1 ⟨rfl, rfl⟩
      go_wp2_with fail
      refine (HD.out _ HS.out).mono ?_
      rintro e w1 ⟨rfl, rfl⟩
      go_wp2_with fail
      go_ret
      exact ⟨by rw [HE.out]; rfl, 0, rfl⟩
end Go.Proofs.Ytnmhdlincgefeaa.Sl
