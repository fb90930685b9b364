/- The law's own examples. -/
import Derived.Test.YtefnofipcjjfpaaRfDec
namespace Go.Proofs.Ytefnofipcjjfpaa.Fr
open Go.RowKit
open Go.Lib (hid)

theorem on_below {w wr w' : World} (h : Hid (Below w.heap.size w wr)) (hb : Below wr.heap.size wr w') : Hid (Below w.heap.size w w') := hid (h.out.trans (hb.mono h.out.size))
theorem on_drewN {w wr : World} (h : Hid (Below w.heap.size w wr)) (m : Nat) : Hid (Below w.heap.size w (wr.drewN m)) := hid ⟨h.out.os, h.out.tape, h.out.output, h.out.size, h.out.block⟩
theorem on_only {w wr w' : World} {b : Nat} (h : Hid (Below w.heap.size w wr)) (hb : Only b wr w') (hx : w.heap.size ≤ b) : Hid (Below w.heap.size w w') := hid (h.out.trans (hb.to_below h.out.size hx))
def ex0 : List Bool := frontB 10 2
def ex1 : List Bool := turnB ex0 2
def ex2 : List Bool := turnB ex1 9
def ex3 : List Bool := turnB ex2 0
def exS : ByteArray := ⟨#[96, 64]⟩
def exT : ByteArray := ⟨#[0, 1]⟩
theorem ex_take : takeN ex0 = 2 := by decide
theorem ex_len0 : ex0.length = 10 := by decide
theorem ex_len1 : ex1.length = 10 := by decide
theorem ex_len2 : ex2.length = 10 := by decide
theorem ex_len3 : ex3.length = 10 := by decide
theorem ex_enc : encB ex3 = [96, 64] := by decide
theorem ex_left : leftN ex3 = 7 := by decide
theorem ex_dec : decB 10 exS = ex3 := by decide
theorem ex_no : encB (decB 10 exT) ≠ exT.data.toList := by decide
theorem ex_yes : encB (decB 10 exS) = exS.data.toList := by rw [ex_dec, ex_enc]; rfl
theorem ex_b19 : bitAt ex1 9 = false := by decide
theorem ex_b29 : bitAt ex2 9 = true := by decide
theorem ex_b20 : bitAt ex2 0 = true := by decide
theorem ex_b35 : bitAt ex3 5 = false := by decide
theorem ex_b39 : bitAt ex3 9 = true := by decide
theorem ex_b30 : bitAt ex3 0 = false := by decide
/-- the examples' map behind each call -/
theorem ex_take_ok (d : Ptrs) (w : World) (h : Mp w d ex0) :
    Calls Try.prog 12 #[.pointer (some ⟨d.M, 0, none⟩)] w fun e w' => e = .returned (.tuple #[.int .i64 2, .int .i64 0]) ∧ Mp w' d ex1 ∧ Only d.W w w' := by
  have := take_ok d ex0 w h (by rw [ex_take, ex_len0]; decide)
  rw [ex_take] at this
  exact this
theorem ex_encode (d : Ptrs) (w : World) (h : Mp w d ex3) :
    Calls Try.prog 18 #[.pointer (some ⟨d.M, 0, none⟩)] w fun e w' => e = .returned (.string ⟨#[96, 64]⟩) ∧ Below w.heap.size w w' := by
  have := encode_ok d ex3 w h
  rw [ex_enc] at this
  exact this
theorem ex_decode (w : World) :
    Calls Try.prog 24 #[.int .i64 10, .string ⟨#[96, 64]⟩] w fun e w' => ∃ d : Ptrs, e = .returned (.tuple #[.pointer (some ⟨d.M, 0, none⟩), .int .i64 0]) ∧ Mp w' d ex3 ∧ Below w.heap.size w w' ∧ w.heap.size ≤ d.M ∧ w.heap.size ≤ d.W := by
  have := decode_yes 10 exS w (by decide) (by decide) (by decide) ex_yes
  rw [ex_dec] at this
  exact this
theorem ex_decode_no (w : World) :
    Calls Try.prog 24 #[.int .i64 10, .string ⟨#[0, 1]⟩] w fun e w' => e = .returned (.tuple #[.pointer none, .int .i64 6]) ∧ Below w.heap.size w w' :=
  decode_no 10 exT w (by decide) (by decide) (by decide) ex_no
theorem ex_new (w : World) :
    Calls Try.prog 8 #[.int .i64 10, .int .i64 2] w fun e w' => ∃ d : Ptrs, e = .returned (.tuple #[.pointer (some ⟨d.M, 0, none⟩), .int .i64 0]) ∧ Mp w' d ex0 ∧ Below w.heap.size w w' ∧ w.heap.size ≤ d.M ∧ w.heap.size ≤ d.W :=
  new_ok 10 2 w (by decide) (by decide) (by decide)
theorem ex_left_ok (d : Ptrs) (w : World) (h : Mp w d ex3) :
    Calls Try.prog 19 #[.pointer (some ⟨d.M, 0, none⟩)] w fun e w' => e = .returned (.int .i64 7) ∧ w = w' := by
  have := left_ok d ex3 w h
  rw [ex_left] at this
  exact this
set_option maxRecDepth 100000 in
set_option maxHeartbeats 2000000 in
theorem live_any (w : World) :
    Calls Try.prog 23 #[] w fun e w' => e = .returned (.bool true) ∧ Below w.heap.size w w' := by
  go_enter Try.func23, Try.ntmps23
  go_wp2_with fail
  refine (ex_new _).mono ?_; rintro e w1 ⟨d, rfl, hm, hb, hd1, hd2⟩; have HM := hid hm; have HB := hid hb; have HD := hid (And.intro hd1 hd2); clear hm hb hd1 hd2
  go_wp2_with fail
  refine (new_bad 10 11 _ (by decide)).mono ?_; rintro e w' ⟨rfl, rfl⟩
  go_wp2_with fail
  refine (ex_take_ok d _ HM.out).mono ?_; rintro e w2 ⟨rfl, hm, ho⟩; replace HM := hid hm; replace HB := on_only HB ho HD.out.2; clear hm ho
  go_wp2_with fail
  refine (mark_ok d ex1 9 _ HM.out (by rw [ex_len1]; decide) ex_b19).mono ?_; rintro e w3 ⟨rfl, hm, ho⟩; replace HM := hid hm; replace HB := on_only HB ho HD.out.2; clear hm ho
  go_wp2_with fail
  refine (mark_taken d ex2 9 _ HM.out (by rw [ex_len2]; decide) ex_b29).mono ?_; rintro e w' ⟨rfl, m, rfl⟩; replace HM := hid (HM.out.drewN m); replace HB := on_drewN HB m
  go_wp2_with fail
  refine (give_ok d ex2 0 _ HM.out (by rw [ex_len2]; decide) ex_b20).mono ?_; rintro e w4 ⟨rfl, hm, ho⟩; replace HM := hid hm; replace HB := on_only HB ho HD.out.2; clear hm ho
  go_wp2_with fail
  refine (give_free d ex3 5 _ HM.out (by rw [ex_len3]; decide) ex_b35).mono ?_; rintro e w' ⟨rfl, m2, rfl⟩; replace HM := hid (HM.out.drewN m2); replace HB := on_drewN HB m2
  go_wp2_with fail
  refine (ex_encode d _ HM.out).mono ?_; rintro e w5 ⟨rfl, hb⟩; replace HM := hid (HM.out.below hb); replace HB := on_below HB hb; clear hb
  go_wp2_with fail
  refine (ex_decode _).mono ?_; rintro e w6 ⟨x, rfl, hm, hb, hd1, hd2⟩; have HX := hid hm; replace HM := hid (HM.out.below hb); replace HB := on_below HB hb; clear hb hm hd1 hd2
  go_wp2_with fail
  refine (ex_decode_no _).mono ?_; rintro e w7 ⟨rfl, hb⟩; replace HX := hid (HX.out.below hb); replace HM := hid (HM.out.below hb); replace HB := on_below HB hb; clear hb
  go_wp2_with fail
  refine (ex_encode x _ HX.out).mono ?_; rintro e w8 ⟨rfl, hb⟩; replace HM := hid (HM.out.below hb); replace HB := on_below HB hb; clear hb
  go_wp2_with fail
  refine (ex_left_ok d _ HM.out).mono ?_; rintro e w' ⟨rfl, rfl⟩
  go_wp2_with fail
  refine (is_val d ex3 9 true _ HM.out (by rw [ex_len3]; decide) ex_b39).mono ?_; rintro e w' ⟨rfl, m3, rfl⟩; replace HM := hid (HM.out.drewN m3); replace HB := on_drewN HB m3
  go_wp2_with fail
  refine (is_val d ex3 0 false _ HM.out (by rw [ex_len3]; decide) ex_b30).mono ?_; rintro e w' ⟨rfl, m4, rfl⟩; replace HM := hid (HM.out.drewN m4); replace HB := on_drewN HB m4
  go_wp2_with fail
  go_ret
  exact ⟨rfl, HB.out.os, HB.out.tape, HB.out.output, HB.out.size, HB.out.block⟩
end Go.Proofs.Ytefnofipcjjfpaa.Fr
