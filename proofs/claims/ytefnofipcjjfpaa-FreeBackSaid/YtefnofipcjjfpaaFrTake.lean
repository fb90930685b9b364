/- Mark and Give of free. -/
import Derived.Test.YtefnofipcjjfpaaFrSmall
namespace Go.Proofs.Ytefnofipcjjfpaa.Fr
open Go.RowKit
open Go.Lib (hid)

/-- Is, whatever page -/
theorem is_val (d : Ptrs) (B : List Bool) (n : Nat) (b : Bool) (w : World) (h : Mp w d B) (hn : n < B.length) (hb : bitAt B n = b) :
    Calls Try.prog 21 #[.pointer (some ⟨d.M, 0, none⟩), .int .i64 (n : Int)] w fun e w' => e = .returned (.bool b) ∧ ∃ m, w' = w.drewN m := by
  subst hb; exact is_ok d B n w h hn
set_option maxHeartbeats 400000 in
theorem mark_out (d : Ptrs) (B : List Bool) (n : Int) (w : World) (h : Mp w d B) (hn : n < 0 ∨ B.length ≤ n) :
    Calls Try.prog 14 #[.pointer (some ⟨d.M, 0, none⟩), .int .i64 n] w fun e w' => e = .returned (.int .i64 1) ∧ ∃ m, w' = w.drewN m := by
  have H := hid h; have HN := hid hn; clear h hn
  go_enter Try.func14, Try.ntmps14
  go_wp2_with (first
    | (go_at_call 28; refine (has_out d B n _ H.out HN.out).mono ?_; rintro e w' ⟨rfl, rfl⟩))
  go_ret
  exact ⟨rfl, 0, rfl⟩
set_option maxHeartbeats 400000 in
theorem mark_taken (d : Ptrs) (B : List Bool) (n : Nat) (w : World) (h : Mp w d B) (hn : n < B.length) (hb : bitAt B n = true) :
    Calls Try.prog 14 #[.pointer (some ⟨d.M, 0, none⟩), .int .i64 (n : Int)] w fun e w' => e = .returned (.int .i64 1) ∧ ∃ m, w' = w.drewN m := by
  have H := hid h; have HN := hid hn; have HB := hid hb; clear h hn hb
  go_enter Try.func14, Try.ntmps14
  go_wp2_with (first
    | (go_at_call 28; refine (has_in d B n _ H.out HN.out).mono ?_; rintro e w' ⟨rfl, rfl⟩)
    | (go_at_call 21; refine (is_val d B n true _ H.out HN.out HB.out).mono ?_; rintro e w' ⟨rfl, m, rfl⟩))
  go_ret
  exact ⟨rfl, m, rfl⟩
set_option maxHeartbeats 400000 in
theorem mark_nil (n : Int) (w : World) :
    Calls Try.prog 14 #[.pointer none, .int .i64 n] w fun e w' => e = .returned (.int .i64 1) ∧ w = w' := by
  go_enter Try.func14, Try.ntmps14
  go_wp2_with (first
    | (go_at_call 28; refine (has_nil n _).mono ?_; rintro e w' ⟨rfl, rfl⟩))
  go_ret
  exact ⟨rfl, rfl⟩
theorem Only.of_drewN {b : Nat} {w w' : World} {m : Nat} (h : Only b (w.drewN m) w') : Only b w w' := ⟨h.os, h.tape, h.output, h.size, h.block⟩
set_option maxHeartbeats 400000 in
theorem give_ok (d : Ptrs) (B : List Bool) (n : Nat) (w : World) (h : Mp w d B) (hn : n < B.length) (hb : bitAt B n = true) :
    Calls Try.prog 16 #[.pointer (some ⟨d.M, 0, none⟩), .int .i64 (n : Int)] w fun e w' => e = .returned (.int .i64 0) ∧ Mp w' d (turnB B n) ∧ Only d.W w w' := by
  have H := hid h; have HN := hid hn; have HB := hid hb; clear h hn hb
  go_enter Try.func16, Try.ntmps16
  go_wp2_with (first
    | (go_at_call 21; refine (is_val d B n true _ H.out HN.out HB.out).mono ?_; rintro e w' ⟨rfl, m, rfl⟩)
    | (go_at_call 26; refine (turn_ok d B n _ (H.out.drewN m) HN.out).mono ?_; rintro e w3 ⟨rfl, hm, ho⟩; have HM := hid (And.intro hm ho); clear hm ho))
  go_ret
  exact ⟨rfl, HM.out.1, HM.out.2.of_drewN⟩
set_option maxHeartbeats 400000 in
theorem give_out (d : Ptrs) (B : List Bool) (n : Int) (w : World) (h : Mp w d B) (hn : n < 0 ∨ B.length ≤ n) :
    Calls Try.prog 16 #[.pointer (some ⟨d.M, 0, none⟩), .int .i64 n] w fun e w' => e = .returned (.int .i64 1) ∧ ∃ m, w' = w.drewN m := by
  have H := hid h; have HN := hid hn; clear h hn
  go_enter Try.func16, Try.ntmps16
  go_wp2_with (first
    | (go_at_call 21; refine (is_out d B n _ H.out HN.out).mono ?_; rintro e w' ⟨rfl, m, rfl⟩))
  go_ret
  exact ⟨rfl, m, rfl⟩
set_option maxHeartbeats 400000 in
theorem give_free (d : Ptrs) (B : List Bool) (n : Nat) (w : World) (h : Mp w d B) (hn : n < B.length) (hb : bitAt B n = false) :
    Calls Try.prog 16 #[.pointer (some ⟨d.M, 0, none⟩), .int .i64 (n : Int)] w fun e w' => e = .returned (.int .i64 1) ∧ ∃ m, w' = w.drewN m := by
  have H := hid h; have HN := hid hn; have HB := hid hb; clear h hn hb
  go_enter Try.func16, Try.ntmps16
  go_wp2_with (first
    | (go_at_call 21; refine (is_val d B n false _ H.out HN.out HB.out).mono ?_; rintro e w' ⟨rfl, m, rfl⟩))
  go_ret
  exact ⟨rfl, m, rfl⟩
set_option maxHeartbeats 400000 in
theorem give_nil (n : Int) (w : World) :
    Calls Try.prog 16 #[.pointer none, .int .i64 n] w fun e w' => e = .returned (.int .i64 1) ∧ ∃ m, w' = w.drewN m := by
  go_enter Try.func16, Try.ntmps16
  go_wp2_with (first
    | (go_at_call 21; refine (is_nil n _).mono ?_; rintro e w' ⟨rfl, m, rfl⟩))
  go_ret
  exact ⟨rfl, m, rfl⟩

end Go.Proofs.Ytefnofipcjjfpaa.Fr
