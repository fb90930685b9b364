/- Points in memory; the small calls of key. -/
import Derived.Test.YtnmhdlincgefeaaRows
import Derived.Test.YtnmhdlincgefeaaKyMath
import Derived.WalkKit
import Derived.WalkSmall
import Derived.Lib.Hide
import Derived.LoopTactic
import Derived.RegionTactic
import Derived.Deep.QuietTactic
import Derived.BigQuiet
import Derived.ChangeAlike
import Derived.Below
import Derived.Laws.OwnMore
import Derived.Laws.AppendOwn
import Derived.WalkLawsBesides
import Derived.WalkSpells
import Derived.IntWalk
import Derived.Deep.RegionLaw
import Derived.Deep.RegionHeld3
import Derived.StillTailTactics
namespace Go.Proofs.Ytnmhdlincgefeaa.Ky
open Go.RowKit
open Go.Lib (hid)

/-- a point that came in, or was made: its cells, whatever it begins at, and that its coordinates fit -/
structure Pt (w : World) (p : Option Addr) (l : List Nat) : Prop where
  cells : ∀ j, (hj : j < l.length) → ∃ b off, p = some ⟨b, off, none⟩ ∧ b < w.heap.size ∧ w.cell? ⟨b, off + j, none⟩ = some (.int .u32 (l[j] : Int))
  fit : ∀ j, (hj : j < l.length) → l[j] < 4294967296
theorem Pt.below {w w' : World} {p : Option Addr} {l : List Nat} (h : Pt w p l) (hb : Below w.heap.size w w') : Pt w' p l :=
  ⟨fun j hj => by
    obtain ⟨b, off, e, hlt, hc⟩ := h.cells j hj
    exact ⟨b, off, e, Nat.lt_of_lt_of_le hlt hb.size, (hb.cell hlt).trans hc⟩, h.fit⟩
theorem Pt.drew {w : World} {p : Option Addr} {l : List Nat} (h : Pt w p l) : Pt w.drew p l := ⟨h.cells, h.fit⟩
theorem Pt.drewN {w : World} {p : Option Addr} {l : List Nat} (h : Pt w p l) (n : Nat) : Pt (w.drewN n) p l := ⟨h.cells, h.fit⟩
theorem Pt.nil (w : World) (p : Option Addr) : Pt w p [] := ⟨fun j hj => absurd hj (by simp), fun j hj => absurd hj (by simp)⟩
theorem below_alloc (w : World) (o : Obj) : Below w.heap.size w (w.alloc o) := (Below.refl _ _).alloc (Nat.le_refl _) _
theorem Pt.alloc {w : World} {p : Option Addr} {l : List Nat} (h : Pt w p l) (o : Obj) : Pt (w.alloc o) p l := h.below (below_alloc w o)

theorem below_drewN {B : Nat} {w w' : World} (h : Below B w w') (n : Nat) : Below B w (w'.drewN n) := ⟨h.os, h.tape, h.output, h.size, h.block⟩
def mayB (d : Int) : Bool := decide (1 ≤ d) && decide (d ≤ 6)
/-- 0, or BadRequest -/
def err (b : Bool) : Int := if b then 0 else 1
def checkB (n : Nat) (d : Int) : Bool := mayB d && decide ((n : Int) = d)
theorem mayB_nat (n : Nat) : mayB (n : Int) = mayN n := by
  unfold mayB mayN; rw [Bool.eq_iff_iff]; simp; omega

theorem err_true (b : Bool) (h : b = true) : err b = 0 := by subst h; rfl
theorem err_false (b : Bool) (h : b = false) : err b = 1 := by subst h; rfl
set_option maxHeartbeats 400000 in
theorem may_ok (d : Int) (w : World) : Calls Try.prog 61 #[.int .i64 d] w fun e w' => e = .returned (.bool (mayB d)) ∧ w = w' := by
  by_cases h : 1 ≤ d
  · have e : mayB d = decide (d ≤ 6) := by simp [mayB, h]
    rw [e]
    clear e
    go_enter Try.func61, Try.ntmps61
    go_wp2_with fail
    go_ret
    exact ⟨rfl, rfl⟩
  · have e : mayB d = false := by simp [mayB, h]
    have h1 : decide (1 ≤ d) = false := by simpa using h
    rw [e]
    clear e h
    go_enter Try.func61, Try.ntmps61
    go_wp2_with fail
    go_ret
    exact ⟨rfl, rfl⟩
set_option maxHeartbeats 400000 in
theorem check_ok (p : Option Addr) (n c : Nat) (d : Int) (w : World) : Calls Try.prog 46 #[.slice p n c, .int .i64 d] w fun e w' => e = .returned (.int .i64 (err (checkB n d))) ∧ w = w' := by
  have HM := may_ok d
  generalize hm : mayB d = b at HM
  have HH := hid HM
  clear HM
  cases b with
  | false =>
    have e : err (checkB n d) = 1 := by simp [checkB, hm, err]
    rw [e]
    clear e hm
    go_enter Try.func46, Try.ntmps46
    go_wp2_with (go_at_call 61; refine (HH.out _).mono ?_; rintro e w' ⟨rfl, rfl⟩)
    go_ret
    exact ⟨rfl, rfl⟩
  | true =>
    by_cases hn : (n : Int) = d
    · have e : err (checkB n d) = 0 := by simp [checkB, hm, err, hn]
      have e1 : ((n : Int) != d) = false := by simpa using hn
      rw [e]
      clear e hm hn
      go_enter Try.func46, Try.ntmps46
      go_wp2_with (go_at_call 61; refine (HH.out _).mono ?_; rintro e w' ⟨rfl, rfl⟩)
      go_ret
      exact ⟨rfl, rfl⟩
    · have e : err (checkB n d) = 1 := by simp [checkB, hm, err, hn]
      have e1 : ((n : Int) != d) = true := by simpa using hn
      rw [e]
      clear e hm hn
      go_enter Try.func46, Try.ntmps46
      go_wp2_with (go_at_call 61; refine (HH.out _).mono ?_; rintro e w' ⟨rfl, rfl⟩)
      go_ret
      exact ⟨rfl, rfl⟩
set_option maxHeartbeats 400000 in
theorem refCheck_ok (p : Option Addr) (n c : Nat) (d : Int) (w : World) : Calls Try.prog 52 #[.slice p n c, .int .i64 d] w fun e w' => e = .returned (.int .i64 (err (checkB n d))) ∧ w = w' := by
  by_cases h1 : d < 1
  · have e : err (checkB n d) = 1 := by simp [checkB, mayB, err]; omega
    rw [e]; clear e
    go_enter Try.func52, Try.ntmps52
    go_wp2_with fail
    go_ret
    exact ⟨rfl, rfl⟩
  · have e1 : decide (d < 1) = false := by simpa using h1
    by_cases h2 : 6 < d
    · have e : err (checkB n d) = 1 := by simp [checkB, mayB, err]; omega
      rw [e]; clear e h1
      go_enter Try.func52, Try.ntmps52
      go_wp2_with fail
      go_ret
      exact ⟨rfl, rfl⟩
    · have e2 : decide (6 < d) = false := by simpa using h2
      by_cases hn : (n : Int) = d
      · have e : err (checkB n d) = 0 := by simp [checkB, mayB, err]; omega
        have e3 : ((n : Int) != d) = false := by simpa using hn
        rw [e]; clear e h1 h2 hn
        go_enter Try.func52, Try.ntmps52
        go_wp2_with fail
        go_ret
        exact ⟨rfl, rfl⟩
      · have e : err (checkB n d) = 1 := by simp [checkB, mayB, err, hn]
        have e3 : ((n : Int) != d) = true := by simpa using hn
        rw [e]; clear e h1 h2 hn
        go_enter Try.func52, Try.ntmps52
        go_wp2_with fail
        go_ret
        exact ⟨rfl, rfl⟩
theorem ret_int {k : IntKind} {a b : Int} (h : a = b) : Ending.returned (.int k a) = .returned (.int k b) := by rw [h]
def cmp1 (a b : Nat) : Int := if a < b then -1 else if b < a then 1 else 0
end Go.Proofs.Ytnmhdlincgefeaa.Ky
