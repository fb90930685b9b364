/- Requests: what they are, and what may be asked, plainly; the code's small calls. -/
import Derived.Test.YtolnbamdddiifaaKyPart
import Derived.Test.YtolnbamdddiifaaKyRPart
import Derived.Test.YtolnbamdddiifaaBkSmall
namespace Go.Proofs.Ytolnbamdddiifaa.Rq
open Go.RowKit
open Go.Lib (hid)
open Go.Proofs.Ytolnbamdddiifaa.Ky
open Go.Proofs.Ytolnbamdddiifaa.Bk
/-- a request -/
structure Rq where
  what : Int
  kp : Option Addr
  kl : List Nat
  kc : Nat
  data : ByteArray
  lp : Option Addr
  lo : List Nat
  lc : Nat
  hp : Option Addr
  hi : List Nat
  hc : Nat
  ap : Option Addr
  at_ : List Int
  ac : Nat
  most : Int
  rp : Option Addr
  rs : List Rec
  rc : Nat
def Rq.cells (r : Rq) : Array Value := #[.int .i64 r.what, .slice r.kp r.kl.length r.kc, .string r.data, .slice r.lp r.lo.length r.lc, .slice r.hp r.hi.length r.hc, .slice r.ap r.at_.length r.ac, .int .i64 r.most, .slice r.rp r.rs.length r.rc]
/-- it stands there -/
structure Rq.At (r : Rq) (w : World) : Prop where
  k : Pt w r.kp r.kl
  l : Pt w r.lp r.lo
  h : Pt w r.hp r.hi
  a : Is w r.ap r.at_
  s : Rs (fun _ => False) w r.rp r.rs
  big : bigR r.rs
  na : r.at_.length ≤ 1000000
  nl : r.lo.length ≤ 1000000
  nh : r.hi.length ≤ 1000000
theorem Rq.At.below {r : Rq} {w w' : World} (h : r.At w) (hb : Below w.heap.size w w') : r.At w' := ⟨h.k.below hb, h.l.below hb, h.h.below hb, h.a.below hb, h.s.below hb, h.big, h.na, h.nl, h.nh⟩
/-- what must be so of each kind -/
def Rq.must (r : Rq) (d : Int) (inside : Bool) : Bool :=
  if r.what = 1 then checkB r.kl.length d && decide (r.data.size ≤ 40)
  else if r.what = 2 ∨ r.what = 3 then checkB r.kl.length d
  else if r.what = 4 ∨ r.what = 6 then boxB r.lo r.hi d
  else if r.what = 5 then partOk d r.at_ r.kl
  else if r.what = 7 then checkB r.kl.length d && (decide (0 ≤ r.most) && decide (r.most ≤ 1000))
  else if r.what = 8 then decide (r.rs.length ≤ 1000) && mayAll r.rs d
  else if r.what = 9 then !inside
  else if r.what = 10 ∨ r.what = 11 then inside
  else decide (r.what = 12)
def Rq.may (r : Rq) (d : Int) (isOpen inside : Bool) : Bool := isOpen && (mayB d && r.must d inside)
section
variable (r : Rq) (d : Int) (inside : Bool) (w : World)
abbrev Bl (w : World) (b : Bool) (e : Ending) (w' : World) : Prop := e = .returned (.bool b) ∧ Below w.heap.size w w'
set_option maxHeartbeats 1000000 in
theorem recorded_ok : Calls Try.prog 26 #[.agg r.cells, .int .i64 d, .bool inside] w (Bl w (checkB r.kl.length d && decide (r.data.size ≤ 40))) := by
  obtain ⟨what, kp, kl, kc, data, lp, lo, lc, hp, hi, hc, ap, at_, ac, most, rp, rs, rc⟩ := r
  dsimp only [Rq.cells]
  have HB0 := hid (below_alloc w (.cells #[.int .i64 what, .slice kp kl.length kc, .string data, .slice lp lo.length lc, .slice hp hi.length hc, .slice ap at_.length ac, .int .i64 most, .slice rp rs.length rc] 37))
  have HC := hid fun V => atlasCheck_ok kp kl.length kc data d V
  generalize (checkB kl.length d && decide (data.size ≤ 40)) = b at *
  cases b
  all_goals
    first | rw [err_true true rfl] at HC | rw [err_false false rfl] at HC
    go_enter Try.func26, Try.ntmps26
    go_wp2_with (go_at_call 37; refine (HC.out _).mono ?_; rintro e w2 ⟨rfl, hb⟩; have HB := hid (HB0.out.trans (hb.mono HB0.out.size)); clear hb)
    go_ret
    exact ⟨rfl, HB.out⟩
set_option maxHeartbeats 1000000 in
theorem pointed_ok : Calls Try.prog 27 #[.agg r.cells, .int .i64 d, .bool inside] w (Bl w (checkB r.kl.length d)) := by
  obtain ⟨what, kp, kl, kc, data, lp, lo, lc, hp, hi, hc, ap, at_, ac, most, rp, rs, rc⟩ := r
  dsimp only [Rq.cells]
  have HB0 := hid (below_alloc w (.cells #[.int .i64 what, .slice kp kl.length kc, .string data, .slice lp lo.length lc, .slice hp hi.length hc, .slice ap at_.length ac, .int .i64 most, .slice rp rs.length rc] 37))
  have HC := hid fun V => check_ok kp kl.length kc d V
  generalize checkB kl.length d = b at *
  cases b
  all_goals
    first | rw [err_true true rfl] at HC | rw [err_false false rfl] at HC
    go_enter Try.func27, Try.ntmps27
    go_wp2_with (go_at_call 38; refine (HC.out _).mono ?_; rintro e w2 ⟨rfl, rfl⟩)
    go_ret
    exact ⟨rfl, HB0.out⟩
set_option maxHeartbeats 1000000 in
theorem boxed_ok (h : r.At w) : Calls Try.prog 28 #[.agg r.cells, .int .i64 d, .bool inside] w (Bl w (boxB r.lo r.hi d)) := by
  obtain ⟨what, kp, kl, kc, data, lp, lo, lc, hp, hi, hc, ap, at_, ac, most, rp, rs, rc⟩ := r
  dsimp only [Rq.cells] at h ⊢
  have HB0 := hid (below_alloc w (.cells #[.int .i64 what, .slice kp kl.length kc, .string data, .slice lp lo.length lc, .slice hp hi.length hc, .slice ap at_.length ac, .int .i64 most, .slice rp rs.length rc] 37))
  have HC := hid fun (V : World) (hV : Below w.heap.size w V) => checkBox_ok lo hi lp hp lc hc d V (h.l.below hV) (h.h.below hV) (by have := h.nl; dsimp only at this; omega)
  clear h
  generalize boxB lo hi d = b at *
  cases b
  all_goals
    first | rw [err_true true rfl] at HC | rw [err_false false rfl] at HC
    go_enter Try.func28, Try.ntmps28
    go_wp2_with (go_at_call 39; refine (HC.out _ HB0.out).mono ?_; rintro e w2 ⟨rfl, hb⟩; have HB := hid (HB0.out.trans (hb.mono HB0.out.size)); clear hb)
    go_ret
    exact ⟨rfl, HB.out⟩
end
end Go.Proofs.Ytolnbamdddiifaa.Rq
