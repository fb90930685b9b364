/- The examples that each law of field asks besides: they hold. -/
import Derived.Test.YtkcfkcdmmllpjaaOf
namespace Go.Proofs.Ytkcfkcdmmllpjaa
open Go.RowKit
open Go.Lib

theorem lit1 : putAt (List.replicate 4 0) 1 (be 2 258) = [0, 1, 2, 0] := by decide +kernel
theorem lit2 : num (getAt [0, 1, 2, 0] 1 2) = 258 := by decide +kernel
theorem lit3 : putAt [0, 1, 2, 0] 0 (getAt [0, 1, 2, 0] 1 3) = [1, 2, 0, 0] := by decide +kernel
theorem lit4 : getAt [1, 2, 0, 0] 0 2 = [1, 2] := by decide +kernel

theorem get_lit {A B : Nat} {l : List UInt8} {o wd r : Nat} {w : World} (ha : Area 60 w A B l) (hw : wd = 1 ∨ wd = 2 ∨ wd = 4) (h : o + wd ≤ l.length) (hr : num (getAt l o wd) = r) :
    Calls Try.prog 13 #[.pointer (some ⟨A, 0, none⟩), .int .i64 (o : Int), .int .i64 (wd : Int)] w fun e w' => e = .returned (.tuple #[.int .u32 (r : Int), .int .i64 0]) ∧ w = w' := by
  rw [← hr]; exact get_ok A B l o wd w ha hw h
theorem getText_lit {A B : Nat} {l : List UInt8} {o n : Nat} {w : World} (t : List UInt8) (ha : Area 60 w A B l) (h : o + n ≤ l.length) (hr : getAt l o n = t) :
    Calls Try.prog 17 #[.pointer (some ⟨A, 0, none⟩), .int .i64 (o : Int), .int .i64 (n : Int)] w fun e w' => e = .returned (.tuple #[.string ⟨t.toArray⟩, .int .i64 0]) ∧ w = w' := by
  rw [← hr]; exact getText_ok A B l o n w ha h

set_option maxHeartbeats 800000 in
theorem live_any (w : World) :
    Calls Try.prog 10 #[] w fun e w' => e = .returned (.bool true) ∧ Below w.heap.size w w' := by
  have HA := hid (madeArea_area 60 4 w (by omega))
  have HB := hid (madeArea_below 60 4 w)
  go_enter Try.func10, Try.ntmps10
  go_wp2_with fail
  refine (new_ok 4 _ (by omega)).mono ?_; rintro e w1 ⟨rfl, rfl⟩
  go_wp2_with fail
  refine (new_no 4097 _ (by omega)).mono ?_; rintro e w1 ⟨rfl, rfl⟩
  go_wp2_with fail
  refine (put_2 _ _ _ 1 258 _ HA.out (by simp) (by omega)).mono ?_; rintro e w1 ⟨rfl, hU⟩
  rw [lit1] at hU
  have HA1 := hid (HA.out.upd hU rfl)
  replace HB := on_upd HB hU (Nat.le_refl _); clear hU
  go_wp2_with fail
  refine (put_bad _ _ _ _ _ (number_no _ _ _ 3 2 _ HA1.out (by decide) (by omega) (by omega))).mono ?_; rintro e w2 ⟨rfl, rfl⟩
  go_wp2_with fail
  refine (put_great _ _ _ 0 1 256 _ HA1.out (by omega) (by simp) (by omega)).mono ?_; rintro e w2 ⟨rfl, rfl⟩
  go_wp2_with fail
  refine (get_lit (o := 1) (wd := 2) HA1.out (by omega) (by simp) lit2).mono ?_; rintro e w2 ⟨rfl, rfl⟩
  go_wp2_with fail
  refine (move_ok _ _ _ 0 1 3 _ HA1.out (by simp) (by simp)).mono ?_; rintro e w3 ⟨rfl, hU⟩
  rw [lit3] at hU
  have HA2 := hid (HA1.out.upd hU rfl)
  replace HB := on_upd HB hU (Nat.le_refl _); clear hU
  go_wp2_with fail
  refine (getText_lit (o := 0) (n := 2) [1, 2] HA2.out (by simp) lit4).mono ?_; rintro e w4 ⟨rfl, rfl⟩
  go_wp2_with fail
  refine (bytes_ok _ _ _ _ HA2.out).mono ?_; rintro e w4 ⟨rfl, rfl⟩
  go_wp2_with fail
  refine (size_ok _ _ _ _ HA2.out).mono ?_; rintro e w4 ⟨rfl, rfl⟩
  go_wp2_with fail
  go_ret
  exact ⟨rfl, HB.out⟩
end Go.Proofs.Ytkcfkcdmmllpjaa
