/- Merged out of EnRef, EnRefC, EnGet. -/
import Derived.Test.YtaonifdfhlbaiaaGreatDoorS08
/- Check of the document's answer for entry: case by case. -/
namespace Go.Proofs.YtaonifdfhlbaiaaGreatDoor.En
open Go.RowKit
open Go.Lib (hid)
set_option maxHeartbeats 1000000 in
theorem rc_lo1 (tx ix pk pn ct sm : Int) (b : ByteArray) (w : World) (e : tx < 1) :
    Calls Tryz.prog 37 #[.agg #[.int .i64 1, .int .i64 tx, .int .i64 ix, .int .i64 pk, .int .i64 pn, .string b, .int .i64 ct, .int .u32 sm]] w fun e w' => e = .returned (.int .i64 1) ∧ Below w.heap.size w w' := by
  have e1 : decide (1 ≤ tx) = false := by simp; omega
  clear e
  go_enter Tryz.func37, Tryz.ntmps37
  go_wp2_with fail
  go_ret
  exact ⟨rfl, ((Below.refl _ _).alloc (Nat.le_refl _) _).alloc (by simp) _⟩
set_option maxHeartbeats 1000000 in
theorem rc_lo2 (tx ix pk pn ct sm : Int) (b : ByteArray) (w : World) (e : tx < 1) :
    Calls Tryz.prog 37 #[.agg #[.int .i64 2, .int .i64 tx, .int .i64 ix, .int .i64 pk, .int .i64 pn, .string b, .int .i64 ct, .int .u32 sm]] w fun e w' => e = .returned (.int .i64 1) ∧ Below w.heap.size w w' := by
  have e1 : decide (1 ≤ tx) = false := by simp; omega
  clear e
  go_enter Tryz.func37, Tryz.ntmps37
  go_wp2_with fail
  go_ret
  exact ⟨rfl, ((Below.refl _ _).alloc (Nat.le_refl _) _).alloc (by simp) _⟩
set_option maxHeartbeats 1000000 in
theorem rc_lo3 (tx ix pk pn ct sm : Int) (b : ByteArray) (w : World) (e : tx < 1) :
    Calls Tryz.prog 37 #[.agg #[.int .i64 3, .int .i64 tx, .int .i64 ix, .int .i64 pk, .int .i64 pn, .string b, .int .i64 ct, .int .u32 sm]] w fun e w' => e = .returned (.int .i64 1) ∧ Below w.heap.size w w' := by
  have e1 : decide (1 ≤ tx) = false := by simp; omega
  clear e
  go_enter Tryz.func37, Tryz.ntmps37
  go_wp2_with fail
  go_ret
  exact ⟨rfl, ((Below.refl _ _).alloc (Nat.le_refl _) _).alloc (by simp) _⟩
set_option maxHeartbeats 1000000 in
theorem rc_lo0 (kd tx ix pk pn ct sm : Int) (b : ByteArray) (w : World) (h1 : kd ≠ 1) (h2 : kd ≠ 2) (h3 : kd ≠ 3) (e : tx < 1) :
    Calls Tryz.prog 37 #[.agg #[.int .i64 kd, .int .i64 tx, .int .i64 ix, .int .i64 pk, .int .i64 pn, .string b, .int .i64 ct, .int .u32 sm]] w fun e w' => e = .returned (.int .i64 1) ∧ Below w.heap.size w w' := by
  have k1 : (kd == 1) = false := by simpa using h1
  have k2 : (kd == 2) = false := by simpa using h2
  have k3 : (kd == 3) = false := by simpa using h3
  clear h1 h2 h3
  have e1 : decide (1 ≤ tx) = false := by simp; omega
  clear e
  go_enter Tryz.func37, Tryz.ntmps37
  go_wp2_with fail
  go_ret
  exact ⟨rfl, ((Below.refl _ _).alloc (Nat.le_refl _) _).alloc (by simp) _⟩
set_option maxHeartbeats 1000000 in
theorem rc_hi1 (tx ix pk pn ct sm : Int) (b : ByteArray) (w : World) (e : 4294967295 < tx) :
    Calls Tryz.prog 37 #[.agg #[.int .i64 1, .int .i64 tx, .int .i64 ix, .int .i64 pk, .int .i64 pn, .string b, .int .i64 ct, .int .u32 sm]] w fun e w' => e = .returned (.int .i64 1) ∧ Below w.heap.size w w' := by
  have e1 : decide (1 ≤ tx) = true := by simp; omega
  have e2 : decide (tx ≤ 4294967295) = false := by simp; omega
  clear e
  go_enter Tryz.func37, Tryz.ntmps37
  go_wp2_with fail
  go_ret
  exact ⟨rfl, ((Below.refl _ _).alloc (Nat.le_refl _) _).alloc (by simp) _⟩
set_option maxHeartbeats 1000000 in
theorem rc_hi2 (tx ix pk pn ct sm : Int) (b : ByteArray) (w : World) (e : 4294967295 < tx) :
    Calls Tryz.prog 37 #[.agg #[.int .i64 2, .int .i64 tx, .int .i64 ix, .int .i64 pk, .int .i64 pn, .string b, .int .i64 ct, .int .u32 sm]] w fun e w' => e = .returned (.int .i64 1) ∧ Below w.heap.size w w' := by
  have e1 : decide (1 ≤ tx) = true := by simp; omega
  have e2 : decide (tx ≤ 4294967295) = false := by simp; omega
  clear e
  go_enter Tryz.func37, Tryz.ntmps37
  go_wp2_with fail
  go_ret
  exact ⟨rfl, ((Below.refl _ _).alloc (Nat.le_refl _) _).alloc (by simp) _⟩
set_option maxHeartbeats 1000000 in
theorem rc_hi3 (tx ix pk pn ct sm : Int) (b : ByteArray) (w : World) (e : 4294967295 < tx) :
    Calls Tryz.prog 37 #[.agg #[.int .i64 3, .int .i64 tx, .int .i64 ix, .int .i64 pk, .int .i64 pn, .string b, .int .i64 ct, .int .u32 sm]] w fun e w' => e = .returned (.int .i64 1) ∧ Below w.heap.size w w' := by
  have e1 : decide (1 ≤ tx) = true := by simp; omega
  have e2 : decide (tx ≤ 4294967295) = false := by simp; omega
  clear e
  go_enter Tryz.func37, Tryz.ntmps37
  go_wp2_with fail
  go_ret
  exact ⟨rfl, ((Below.refl _ _).alloc (Nat.le_refl _) _).alloc (by simp) _⟩
set_option maxHeartbeats 1000000 in
theorem rc_hi0 (kd tx ix pk pn ct sm : Int) (b : ByteArray) (w : World) (h1 : kd ≠ 1) (h2 : kd ≠ 2) (h3 : kd ≠ 3) (e : 4294967295 < tx) :
    Calls Tryz.prog 37 #[.agg #[.int .i64 kd, .int .i64 tx, .int .i64 ix, .int .i64 pk, .int .i64 pn, .string b, .int .i64 ct, .int .u32 sm]] w fun e w' => e = .returned (.int .i64 1) ∧ Below w.heap.size w w' := by
  have k1 : (kd == 1) = false := by simpa using h1
  have k2 : (kd == 2) = false := by simpa using h2
  have k3 : (kd == 3) = false := by simpa using h3
  clear h1 h2 h3
  have e1 : decide (1 ≤ tx) = true := by simp; omega
  have e2 : decide (tx ≤ 4294967295) = false := by simp; omega
  clear e
  go_enter Tryz.func37, Tryz.ntmps37
  go_wp2_with fail
  go_ret
  exact ⟨rfl, ((Below.refl _ _).alloc (Nat.le_refl _) _).alloc (by simp) _⟩
set_option maxHeartbeats 1000000 in
theorem rc_il1 (tx ix pk pn ct sm : Int) (b : ByteArray) (w : World) (e : 1 ≤ tx) (e' : tx ≤ 4294967295) (i : ix < 0) :
    Calls Tryz.prog 37 #[.agg #[.int .i64 1, .int .i64 tx, .int .i64 ix, .int .i64 pk, .int .i64 pn, .string b, .int .i64 ct, .int .u32 sm]] w fun e w' => e = .returned (.int .i64 1) ∧ Below w.heap.size w w' := by
  have e1 : decide (1 ≤ tx) = true := by simpa using e
  have e2 : decide (tx ≤ 4294967295) = true := by simpa using e'
  have e3 : decide (0 ≤ ix) = false := by simp; omega
  clear e e' i
  go_enter Tryz.func37, Tryz.ntmps37
  go_wp2_with fail
  go_ret
  exact ⟨rfl, ((Below.refl _ _).alloc (Nat.le_refl _) _).alloc (by simp) _⟩
set_option maxHeartbeats 1000000 in
theorem rc_il2 (tx ix pk pn ct sm : Int) (b : ByteArray) (w : World) (e : 1 ≤ tx) (e' : tx ≤ 4294967295) (i : ix < 0) :
    Calls Tryz.prog 37 #[.agg #[.int .i64 2, .int .i64 tx, .int .i64 ix, .int .i64 pk, .int .i64 pn, .string b, .int .i64 ct, .int .u32 sm]] w fun e w' => e = .returned (.int .i64 1) ∧ Below w.heap.size w w' := by
  have e1 : decide (1 ≤ tx) = true := by simpa using e
  have e2 : decide (tx ≤ 4294967295) = true := by simpa using e'
  have e3 : decide (0 ≤ ix) = false := by simp; omega
  clear e e' i
  go_enter Tryz.func37, Tryz.ntmps37
  go_wp2_with fail
  go_ret
  exact ⟨rfl, ((Below.refl _ _).alloc (Nat.le_refl _) _).alloc (by simp) _⟩
set_option maxHeartbeats 1000000 in
theorem rc_il3 (tx ix pk pn ct sm : Int) (b : ByteArray) (w : World) (e : 1 ≤ tx) (e' : tx ≤ 4294967295) (i : ix < 0) :
    Calls Tryz.prog 37 #[.agg #[.int .i64 3, .int .i64 tx, .int .i64 ix, .int .i64 pk, .int .i64 pn, .string b, .int .i64 ct, .int .u32 sm]] w fun e w' => e = .returned (.int .i64 1) ∧ Below w.heap.size w w' := by
  have e1 : decide (1 ≤ tx) = true := by simpa using e
  have e2 : decide (tx ≤ 4294967295) = true := by simpa using e'
  have e3 : decide (0 ≤ ix) = false := by simp; omega
  clear e e' i
  go_enter Tryz.func37, Tryz.ntmps37
  go_wp2_with fail
  go_ret
  exact ⟨rfl, ((Below.refl _ _).alloc (Nat.le_refl _) _).alloc (by simp) _⟩
set_option maxHeartbeats 1000000 in
theorem rc_il0 (kd tx ix pk pn ct sm : Int) (b : ByteArray) (w : World) (h1 : kd ≠ 1) (h2 : kd ≠ 2) (h3 : kd ≠ 3) (e : 1 ≤ tx) (e' : tx ≤ 4294967295) (i : ix < 0) :
    Calls Tryz.prog 37 #[.agg #[.int .i64 kd, .int .i64 tx, .int .i64 ix, .int .i64 pk, .int .i64 pn, .string b, .int .i64 ct, .int .u32 sm]] w fun e w' => e = .returned (.int .i64 1) ∧ Below w.heap.size w w' := by
  have k1 : (kd == 1) = false := by simpa using h1
  have k2 : (kd == 2) = false := by simpa using h2
  have k3 : (kd == 3) = false := by simpa using h3
  clear h1 h2 h3
  have e1 : decide (1 ≤ tx) = true := by simpa using e
  have e2 : decide (tx ≤ 4294967295) = true := by simpa using e'
  have e3 : decide (0 ≤ ix) = false := by simp; omega
  clear e e' i
  go_enter Tryz.func37, Tryz.ntmps37
  go_wp2_with fail
  go_ret
  exact ⟨rfl, ((Below.refl _ _).alloc (Nat.le_refl _) _).alloc (by simp) _⟩
set_option maxHeartbeats 1000000 in
theorem rc_ih1 (tx ix pk pn ct sm : Int) (b : ByteArray) (w : World) (e : 1 ≤ tx) (e' : tx ≤ 4294967295) (i : 999 < ix) :
    Calls Tryz.prog 37 #[.agg #[.int .i64 1, .int .i64 tx, .int .i64 ix, .int .i64 pk, .int .i64 pn, .string b, .int .i64 ct, .int .u32 sm]] w fun e w' => e = .returned (.int .i64 1) ∧ Below w.heap.size w w' := by
  have e1 : decide (1 ≤ tx) = true := by simpa using e
  have e2 : decide (tx ≤ 4294967295) = true := by simpa using e'
  have e3 : decide (0 ≤ ix) = true := by simp; omega
  have e4 : decide (ix ≤ 999) = false := by simp; omega
  clear e e' i
  go_enter Tryz.func37, Tryz.ntmps37
  go_wp2_with fail
  go_ret
  exact ⟨rfl, ((Below.refl _ _).alloc (Nat.le_refl _) _).alloc (by simp) _⟩
set_option maxHeartbeats 1000000 in
theorem rc_ih2 (tx ix pk pn ct sm : Int) (b : ByteArray) (w : World) (e : 1 ≤ tx) (e' : tx ≤ 4294967295) (i : 999 < ix) :
    Calls Tryz.prog 37 #[.agg #[.int .i64 2, .int .i64 tx, .int .i64 ix, .int .i64 pk, .int .i64 pn, .string b, .int .i64 ct, .int .u32 sm]] w fun e w' => e = .returned (.int .i64 1) ∧ Below w.heap.size w w' := by
  have e1 : decide (1 ≤ tx) = true := by simpa using e
  have e2 : decide (tx ≤ 4294967295) = true := by simpa using e'
  have e3 : decide (0 ≤ ix) = true := by simp; omega
  have e4 : decide (ix ≤ 999) = false := by simp; omega
  clear e e' i
  go_enter Tryz.func37, Tryz.ntmps37
  go_wp2_with fail
  go_ret
  exact ⟨rfl, ((Below.refl _ _).alloc (Nat.le_refl _) _).alloc (by simp) _⟩
set_option maxHeartbeats 1000000 in
theorem rc_ih3 (tx ix pk pn ct sm : Int) (b : ByteArray) (w : World) (e : 1 ≤ tx) (e' : tx ≤ 4294967295) (i : 999 < ix) :
    Calls Tryz.prog 37 #[.agg #[.int .i64 3, .int .i64 tx, .int .i64 ix, .int .i64 pk, .int .i64 pn, .string b, .int .i64 ct, .int .u32 sm]] w fun e w' => e = .returned (.int .i64 1) ∧ Below w.heap.size w w' := by
  have e1 : decide (1 ≤ tx) = true := by simpa using e
  have e2 : decide (tx ≤ 4294967295) = true := by simpa using e'
  have e3 : decide (0 ≤ ix) = true := by simp; omega
  have e4 : decide (ix ≤ 999) = false := by simp; omega
  clear e e' i
  go_enter Tryz.func37, Tryz.ntmps37
  go_wp2_with fail
  go_ret
  exact ⟨rfl, ((Below.refl _ _).alloc (Nat.le_refl _) _).alloc (by simp) _⟩
set_option maxHeartbeats 1000000 in
theorem rc_ih0 (kd tx ix pk pn ct sm : Int) (b : ByteArray) (w : World) (h1 : kd ≠ 1) (h2 : kd ≠ 2) (h3 : kd ≠ 3) (e : 1 ≤ tx) (e' : tx ≤ 4294967295) (i : 999 < ix) :
    Calls Tryz.prog 37 #[.agg #[.int .i64 kd, .int .i64 tx, .int .i64 ix, .int .i64 pk, .int .i64 pn, .string b, .int .i64 ct, .int .u32 sm]] w fun e w' => e = .returned (.int .i64 1) ∧ Below w.heap.size w w' := by
  have k1 : (kd == 1) = false := by simpa using h1
  have k2 : (kd == 2) = false := by simpa using h2
  have k3 : (kd == 3) = false := by simpa using h3
  clear h1 h2 h3
  have e1 : decide (1 ≤ tx) = true := by simpa using e
  have e2 : decide (tx ≤ 4294967295) = true := by simpa using e'
  have e3 : decide (0 ≤ ix) = true := by simp; omega
  have e4 : decide (ix ≤ 999) = false := by simp; omega
  clear e e' i
  go_enter Tryz.func37, Tryz.ntmps37
  go_wp2_with fail
  go_ret
  exact ⟨rfl, ((Below.refl _ _).alloc (Nat.le_refl _) _).alloc (by simp) _⟩
set_option maxHeartbeats 1000000 in
theorem rc_0 (kd tx ix pk pn ct sm : Int) (b : ByteArray) (w : World) (h1 : kd ≠ 1) (h2 : kd ≠ 2) (h3 : kd ≠ 3) (a1 : 1 ≤ tx) (a2 : tx ≤ 4294967295) (a3 : 0 ≤ ix) (a4 : ix ≤ 999)  :
    Calls Tryz.prog 37 #[.agg #[.int .i64 kd, .int .i64 tx, .int .i64 ix, .int .i64 pk, .int .i64 pn, .string b, .int .i64 ct, .int .u32 sm]] w fun e w' => e = .returned (.int .i64 1) ∧ Below w.heap.size w w' := by
  have k1 : (kd == 1) = false := by simpa using h1
  have k2 : (kd == 2) = false := by simpa using h2
  have k3 : (kd == 3) = false := by simpa using h3
  clear h1 h2 h3
  have b1 : decide (1 ≤ tx) = true := by simpa using a1
  have b2 : decide (tx ≤ 4294967295) = true := by simpa using a2
  have b3 : decide (0 ≤ ix) = true := by simpa using a3
  have b4 : decide (ix ≤ 999) = true := by simpa using a4
  go_enter Tryz.func37, Tryz.ntmps37
  go_wp2_with fail
  go_ret
  exact ⟨rfl, ((Below.refl _ _).alloc (Nat.le_refl _) _).alloc (by simp) _⟩
set_option maxHeartbeats 1000000 in
theorem rc1_p (tx ix pk pn ct sm : Int) (b : ByteArray) (w : World) (a1 : 1 ≤ tx) (a2 : tx ≤ 4294967295) (a3 : 0 ≤ ix) (a4 : ix ≤ 999) (c0 : ¬ 0 ≤ pk) :
    Calls Tryz.prog 37 #[.agg #[.int .i64 1, .int .i64 tx, .int .i64 ix, .int .i64 pk, .int .i64 pn, .string b, .int .i64 ct, .int .u32 sm]] w fun e w' => e = .returned (.int .i64 1) ∧ Below w.heap.size w w' := by
  have b1 : decide (1 ≤ tx) = true := by simpa using a1
  have b2 : decide (tx ≤ 4294967295) = true := by simpa using a2
  have b3 : decide (0 ≤ ix) = true := by simpa using a3
  have b4 : decide (ix ≤ 999) = true := by simpa using a4
  have d0 : decide (0 ≤ pk) = false := by simpa using c0
  clear c0
  go_enter Tryz.func37, Tryz.ntmps37
  go_wp2_with fail
  go_ret
  exact ⟨rfl, ((Below.refl _ _).alloc (Nat.le_refl _) _).alloc (by simp) _⟩
set_option maxHeartbeats 1000000 in
theorem rc1_q (tx ix pk pn ct sm : Int) (b : ByteArray) (w : World) (a1 : 1 ≤ tx) (a2 : tx ≤ 4294967295) (a3 : 0 ≤ ix) (a4 : ix ≤ 999) (c0 : 0 ≤ pk) (c1 : ¬ pk ≤ 4) :
    Calls Tryz.prog 37 #[.agg #[.int .i64 1, .int .i64 tx, .int .i64 ix, .int .i64 pk, .int .i64 pn, .string b, .int .i64 ct, .int .u32 sm]] w fun e w' => e = .returned (.int .i64 1) ∧ Below w.heap.size w w' := by
  have b1 : decide (1 ≤ tx) = true := by simpa using a1
  have b2 : decide (tx ≤ 4294967295) = true := by simpa using a2
  have b3 : decide (0 ≤ ix) = true := by simpa using a3
  have b4 : decide (ix ≤ 999) = true := by simpa using a4
  have d0 : decide (0 ≤ pk) = true := by simpa using c0
  have d1 : decide (pk ≤ 4) = false := by simpa using c1
  clear c1
  go_enter Tryz.func37, Tryz.ntmps37
  go_wp2_with fail
  go_ret
  exact ⟨rfl, ((Below.refl _ _).alloc (Nat.le_refl _) _).alloc (by simp) _⟩
set_option maxHeartbeats 1000000 in
theorem rc1_r (tx ix pk pn ct sm : Int) (b : ByteArray) (w : World) (a1 : 1 ≤ tx) (a2 : tx ≤ 4294967295) (a3 : 0 ≤ ix) (a4 : ix ≤ 999) (c0 : 0 ≤ pk) (c1 : pk ≤ 4) (c2 : ¬ 0 ≤ pn) :
    Calls Tryz.prog 37 #[.agg #[.int .i64 1, .int .i64 tx, .int .i64 ix, .int .i64 pk, .int .i64 pn, .string b, .int .i64 ct, .int .u32 sm]] w fun e w' => e = .returned (.int .i64 1) ∧ Below w.heap.size w w' := by
  have b1 : decide (1 ≤ tx) = true := by simpa using a1
  have b2 : decide (tx ≤ 4294967295) = true := by simpa using a2
  have b3 : decide (0 ≤ ix) = true := by simpa using a3
  have b4 : decide (ix ≤ 999) = true := by simpa using a4
  have d0 : decide (0 ≤ pk) = true := by simpa using c0
  have d1 : decide (pk ≤ 4) = true := by simpa using c1
  have d2 : decide (0 ≤ pn) = false := by simpa using c2
  clear c2
  go_enter Tryz.func37, Tryz.ntmps37
  go_wp2_with fail
  go_ret
  exact ⟨rfl, ((Below.refl _ _).alloc (Nat.le_refl _) _).alloc (by simp) _⟩
set_option maxHeartbeats 1000000 in
theorem rc1_s (tx ix pk pn ct sm : Int) (b : ByteArray) (w : World) (a1 : 1 ≤ tx) (a2 : tx ≤ 4294967295) (a3 : 0 ≤ ix) (a4 : ix ≤ 999) (c0 : 0 ≤ pk) (c1 : pk ≤ 4) (c2 : 0 ≤ pn) (c3 : ¬ pn ≤ 999) :
    Calls Tryz.prog 37 #[.agg #[.int .i64 1, .int .i64 tx, .int .i64 ix, .int .i64 pk, .int .i64 pn, .string b, .int .i64 ct, .int .u32 sm]] w fun e w' => e = .returned (.int .i64 1) ∧ Below w.heap.size w w' := by
  have b1 : decide (1 ≤ tx) = true := by simpa using a1
  have b2 : decide (tx ≤ 4294967295) = true := by simpa using a2
  have b3 : decide (0 ≤ ix) = true := by simpa using a3
  have b4 : decide (ix ≤ 999) = true := by simpa using a4
  have d0 : decide (0 ≤ pk) = true := by simpa using c0
  have d1 : decide (pk ≤ 4) = true := by simpa using c1
  have d2 : decide (0 ≤ pn) = true := by simpa using c2
  have d3 : decide (pn ≤ 999) = false := by simpa using c3
  clear c3
  go_enter Tryz.func37, Tryz.ntmps37
  go_wp2_with fail
  go_ret
  exact ⟨rfl, ((Below.refl _ _).alloc (Nat.le_refl _) _).alloc (by simp) _⟩
set_option maxHeartbeats 1000000 in
theorem rc1_t (tx ix pk pn ct sm : Int) (b : ByteArray) (w : World) (a1 : 1 ≤ tx) (a2 : tx ≤ 4294967295) (a3 : 0 ≤ ix) (a4 : ix ≤ 999) (c0 : 0 ≤ pk) (c1 : pk ≤ 4) (c2 : 0 ≤ pn) (c3 : pn ≤ 999) (c4 : 230 < b.size) :
    Calls Tryz.prog 37 #[.agg #[.int .i64 1, .int .i64 tx, .int .i64 ix, .int .i64 pk, .int .i64 pn, .string b, .int .i64 ct, .int .u32 sm]] w fun e w' => e = .returned (.int .i64 1) ∧ Below w.heap.size w w' := by
  have b1 : decide (1 ≤ tx) = true := by simpa using a1
  have b2 : decide (tx ≤ 4294967295) = true := by simpa using a2
  have b3 : decide (0 ≤ ix) = true := by simpa using a3
  have b4 : decide (ix ≤ 999) = true := by simpa using a4
  have d0 : decide (0 ≤ pk) = true := by simpa using c0
  have d1 : decide (pk ≤ 4) = true := by simpa using c1
  have d2 : decide (0 ≤ pn) = true := by simpa using c2
  have d3 : decide (pn ≤ 999) = true := by simpa using c3
  have d4 : decide ((b.size : Int) ≤ 230) = false := by simp; omega
  clear c4
  go_enter Tryz.func37, Tryz.ntmps37
  go_wp2_with fail
  go_ret
  exact ⟨rfl, ((Below.refl _ _).alloc (Nat.le_refl _) _).alloc (by simp) _⟩
set_option maxHeartbeats 1000000 in
theorem rc1_u (tx ix pk pn ct sm : Int) (b : ByteArray) (w : World) (a1 : 1 ≤ tx) (a2 : tx ≤ 4294967295) (a3 : 0 ≤ ix) (a4 : ix ≤ 999) (c0 : 0 ≤ pk) (c1 : pk ≤ 4) (c2 : 0 ≤ pn) (c3 : pn ≤ 999) (c4 : b.size ≤ 230) (c5 : pk = 0) (c6 : b.toList.isEmpty = false) :
    Calls Tryz.prog 37 #[.agg #[.int .i64 1, .int .i64 tx, .int .i64 ix, .int .i64 pk, .int .i64 pn, .string b, .int .i64 ct, .int .u32 sm]] w fun e w' => e = .returned (.int .i64 1) ∧ Below w.heap.size w w' := by
  have b1 : decide (1 ≤ tx) = true := by simpa using a1
  have b2 : decide (tx ≤ 4294967295) = true := by simpa using a2
  have b3 : decide (0 ≤ ix) = true := by simpa using a3
  have b4 : decide (ix ≤ 999) = true := by simpa using a4
  have d0 : decide (0 ≤ pk) = true := by simpa using c0
  have d1 : decide (pk ≤ 4) = true := by simpa using c1
  have d2 : decide (0 ≤ pn) = true := by simpa using c2
  have d3 : decide (pn ≤ 999) = true := by simpa using c3
  have d4 : decide ((b.size : Int) ≤ 230) = true := by simp; omega
  subst c5
  go_enter Tryz.func37, Tryz.ntmps37
  go_wp2_with fail
  go_ret
  exact ⟨rfl, ((Below.refl _ _).alloc (Nat.le_refl _) _).alloc (by simp) _⟩
set_option maxHeartbeats 1000000 in
theorem rc1_cta (tx ix pk pn ct sm : Int) (b : ByteArray) (w : World) (a1 : 1 ≤ tx) (a2 : tx ≤ 4294967295) (a3 : 0 ≤ ix) (a4 : ix ≤ 999) (c0 : 0 ≤ pk) (c1 : pk ≤ 4) (c2 : 0 ≤ pn) (c3 : pn ≤ 999) (c4 : b.size ≤ 230) (c5 : 0 < pk) (z : ct ≠ 0) :
    Calls Tryz.prog 37 #[.agg #[.int .i64 1, .int .i64 tx, .int .i64 ix, .int .i64 pk, .int .i64 pn, .string b, .int .i64 ct, .int .u32 sm]] w fun e w' => e = .returned (.int .i64 1) ∧ Below w.heap.size w w' := by
  have b1 : decide (1 ≤ tx) = true := by simpa using a1
  have b2 : decide (tx ≤ 4294967295) = true := by simpa using a2
  have b3 : decide (0 ≤ ix) = true := by simpa using a3
  have b4 : decide (ix ≤ 999) = true := by simpa using a4
  have d0 : decide (0 ≤ pk) = true := by simpa using c0
  have d1 : decide (pk ≤ 4) = true := by simpa using c1
  have d2 : decide (0 ≤ pn) = true := by simpa using c2
  have d3 : decide (pn ≤ 999) = true := by simpa using c3
  have d4 : decide ((b.size : Int) ≤ 230) = true := by simp; omega
  have d5 : decide (0 < pk) = true := by simpa using c5
  have e0 : (ct == 0) = false := by simpa using z
  clear z
  go_enter Tryz.func37, Tryz.ntmps37
  go_wp2_with fail
  go_ret
  exact ⟨rfl, ((Below.refl _ _).alloc (Nat.le_refl _) _).alloc (by simp) _⟩
set_option maxHeartbeats 1000000 in
theorem rc1_sma (tx ix pk pn ct sm : Int) (b : ByteArray) (w : World) (a1 : 1 ≤ tx) (a2 : tx ≤ 4294967295) (a3 : 0 ≤ ix) (a4 : ix ≤ 999) (c0 : 0 ≤ pk) (c1 : pk ≤ 4) (c2 : 0 ≤ pn) (c3 : pn ≤ 999) (c4 : b.size ≤ 230) (c5 : 0 < pk) (z : ct = 0) (y : sm ≠ 0) :
    Calls Tryz.prog 37 #[.agg #[.int .i64 1, .int .i64 tx, .int .i64 ix, .int .i64 pk, .int .i64 pn, .string b, .int .i64 ct, .int .u32 sm]] w fun e w' => e = .returned (.int .i64 1) ∧ Below w.heap.size w w' := by
  have b1 : decide (1 ≤ tx) = true := by simpa using a1
  have b2 : decide (tx ≤ 4294967295) = true := by simpa using a2
  have b3 : decide (0 ≤ ix) = true := by simpa using a3
  have b4 : decide (ix ≤ 999) = true := by simpa using a4
  have d0 : decide (0 ≤ pk) = true := by simpa using c0
  have d1 : decide (pk ≤ 4) = true := by simpa using c1
  have d2 : decide (0 ≤ pn) = true := by simpa using c2
  have d3 : decide (pn ≤ 999) = true := by simpa using c3
  have d4 : decide ((b.size : Int) ≤ 230) = true := by simp; omega
  have d5 : decide (0 < pk) = true := by simpa using c5
  subst z
  have e0 : (sm == 0) = false := by simpa using y
  clear y
  go_enter Tryz.func37, Tryz.ntmps37
  go_wp2_with fail
  go_ret
  exact ⟨rfl, ((Below.refl _ _).alloc (Nat.le_refl _) _).alloc (by simp) _⟩
set_option maxHeartbeats 1000000 in
theorem rc1_yesa (tx ix pk pn ct sm : Int) (b : ByteArray) (w : World) (a1 : 1 ≤ tx) (a2 : tx ≤ 4294967295) (a3 : 0 ≤ ix) (a4 : ix ≤ 999) (c0 : 0 ≤ pk) (c1 : pk ≤ 4) (c2 : 0 ≤ pn) (c3 : pn ≤ 999) (c4 : b.size ≤ 230) (c5 : 0 < pk) (z : ct = 0) (y : sm = 0) :
    Calls Tryz.prog 37 #[.agg #[.int .i64 1, .int .i64 tx, .int .i64 ix, .int .i64 pk, .int .i64 pn, .string b, .int .i64 ct, .int .u32 sm]] w fun e w' => e = .returned (.int .i64 0) ∧ Below w.heap.size w w' := by
  have b1 : decide (1 ≤ tx) = true := by simpa using a1
  have b2 : decide (tx ≤ 4294967295) = true := by simpa using a2
  have b3 : decide (0 ≤ ix) = true := by simpa using a3
  have b4 : decide (ix ≤ 999) = true := by simpa using a4
  have d0 : decide (0 ≤ pk) = true := by simpa using c0
  have d1 : decide (pk ≤ 4) = true := by simpa using c1
  have d2 : decide (0 ≤ pn) = true := by simpa using c2
  have d3 : decide (pn ≤ 999) = true := by simpa using c3
  have d4 : decide ((b.size : Int) ≤ 230) = true := by simp; omega
  have d5 : decide (0 < pk) = true := by simpa using c5
  subst z y
  go_enter Tryz.func37, Tryz.ntmps37
  go_wp2_with fail
  go_ret
  exact ⟨rfl, ((Below.refl _ _).alloc (Nat.le_refl _) _).alloc (by simp) _⟩
set_option maxHeartbeats 1000000 in
theorem rc1_ctb (tx ix pk pn ct sm : Int) (b : ByteArray) (w : World) (a1 : 1 ≤ tx) (a2 : tx ≤ 4294967295) (a3 : 0 ≤ ix) (a4 : ix ≤ 999) (c0 : 0 ≤ pk) (c1 : pk ≤ 4) (c2 : 0 ≤ pn) (c3 : pn ≤ 999) (c4 : b.size ≤ 230) (c5 : pk = 0) (c6 : b.toList.isEmpty = true) (z : ct ≠ 0) :
    Calls Tryz.prog 37 #[.agg #[.int .i64 1, .int .i64 tx, .int .i64 ix, .int .i64 pk, .int .i64 pn, .string b, .int .i64 ct, .int .u32 sm]] w fun e w' => e = .returned (.int .i64 1) ∧ Below w.heap.size w w' := by
  have b1 : decide (1 ≤ tx) = true := by simpa using a1
  have b2 : decide (tx ≤ 4294967295) = true := by simpa using a2
  have b3 : decide (0 ≤ ix) = true := by simpa using a3
  have b4 : decide (ix ≤ 999) = true := by simpa using a4
  have d0 : decide (0 ≤ pk) = true := by simpa using c0
  have d1 : decide (pk ≤ 4) = true := by simpa using c1
  have d2 : decide (0 ≤ pn) = true := by simpa using c2
  have d3 : decide (pn ≤ 999) = true := by simpa using c3
  have d4 : decide ((b.size : Int) ≤ 230) = true := by simp; omega
  subst c5
  have e0 : (ct == 0) = false := by simpa using z
  clear z
  go_enter Tryz.func37, Tryz.ntmps37
  go_wp2_with fail
  go_ret
  exact ⟨rfl, ((Below.refl _ _).alloc (Nat.le_refl _) _).alloc (by simp) _⟩
set_option maxHeartbeats 1000000 in
theorem rc1_smb (tx ix pk pn ct sm : Int) (b : ByteArray) (w : World) (a1 : 1 ≤ tx) (a2 : tx ≤ 4294967295) (a3 : 0 ≤ ix) (a4 : ix ≤ 999) (c0 : 0 ≤ pk) (c1 : pk ≤ 4) (c2 : 0 ≤ pn) (c3 : pn ≤ 999) (c4 : b.size ≤ 230) (c5 : pk = 0) (c6 : b.toList.isEmpty = true) (z : ct = 0) (y : sm ≠ 0) :
    Calls Tryz.prog 37 #[.agg #[.int .i64 1, .int .i64 tx, .int .i64 ix, .int .i64 pk, .int .i64 pn, .string b, .int .i64 ct, .int .u32 sm]] w fun e w' => e = .returned (.int .i64 1) ∧ Below w.heap.size w w' := by
  have b1 : decide (1 ≤ tx) = true := by simpa using a1
  have b2 : decide (tx ≤ 4294967295) = true := by simpa using a2
  have b3 : decide (0 ≤ ix) = true := by simpa using a3
  have b4 : decide (ix ≤ 999) = true := by simpa using a4
  have d0 : decide (0 ≤ pk) = true := by simpa using c0
  have d1 : decide (pk ≤ 4) = true := by simpa using c1
  have d2 : decide (0 ≤ pn) = true := by simpa using c2
  have d3 : decide (pn ≤ 999) = true := by simpa using c3
  have d4 : decide ((b.size : Int) ≤ 230) = true := by simp; omega
  subst c5
  subst z
  have e0 : (sm == 0) = false := by simpa using y
  clear y
  go_enter Tryz.func37, Tryz.ntmps37
  go_wp2_with fail
  go_ret
  exact ⟨rfl, ((Below.refl _ _).alloc (Nat.le_refl _) _).alloc (by simp) _⟩
set_option maxHeartbeats 1000000 in
theorem rc1_yesb (tx ix pk pn ct sm : Int) (b : ByteArray) (w : World) (a1 : 1 ≤ tx) (a2 : tx ≤ 4294967295) (a3 : 0 ≤ ix) (a4 : ix ≤ 999) (c0 : 0 ≤ pk) (c1 : pk ≤ 4) (c2 : 0 ≤ pn) (c3 : pn ≤ 999) (c4 : b.size ≤ 230) (c5 : pk = 0) (c6 : b.toList.isEmpty = true) (z : ct = 0) (y : sm = 0) :
    Calls Tryz.prog 37 #[.agg #[.int .i64 1, .int .i64 tx, .int .i64 ix, .int .i64 pk, .int .i64 pn, .string b, .int .i64 ct, .int .u32 sm]] w fun e w' => e = .returned (.int .i64 0) ∧ Below w.heap.size w w' := by
  have b1 : decide (1 ≤ tx) = true := by simpa using a1
  have b2 : decide (tx ≤ 4294967295) = true := by simpa using a2
  have b3 : decide (0 ≤ ix) = true := by simpa using a3
  have b4 : decide (ix ≤ 999) = true := by simpa using a4
  have d0 : decide (0 ≤ pk) = true := by simpa using c0
  have d1 : decide (pk ≤ 4) = true := by simpa using c1
  have d2 : decide (0 ≤ pn) = true := by simpa using c2
  have d3 : decide (pn ≤ 999) = true := by simpa using c3
  have d4 : decide ((b.size : Int) ≤ 230) = true := by simp; omega
  subst c5
  subst z y
  go_enter Tryz.func37, Tryz.ntmps37
  go_wp2_with fail
  go_ret
  exact ⟨rfl, ((Below.refl _ _).alloc (Nat.le_refl _) _).alloc (by simp) _⟩
set_option maxHeartbeats 1000000 in
theorem rc2_lo (tx ix pk pn ct sm : Int) (b : ByteArray) (w : World) (a1 : 1 ≤ tx) (a2 : tx ≤ 4294967295) (a3 : 0 ≤ ix) (a4 : ix ≤ 999) (z : ¬ 1 ≤ ct) :
    Calls Tryz.prog 37 #[.agg #[.int .i64 2, .int .i64 tx, .int .i64 ix, .int .i64 pk, .int .i64 pn, .string b, .int .i64 ct, .int .u32 sm]] w fun e w' => e = .returned (.int .i64 1) ∧ Below w.heap.size w w' := by
  have b1 : decide (1 ≤ tx) = true := by simpa using a1
  have b2 : decide (tx ≤ 4294967295) = true := by simpa using a2
  have b3 : decide (0 ≤ ix) = true := by simpa using a3
  have b4 : decide (ix ≤ 999) = true := by simpa using a4
  have d0 : decide (1 ≤ ct) = false := by simpa using z
  clear z
  go_enter Tryz.func37, Tryz.ntmps37
  go_wp2_with fail
  go_ret
  exact ⟨rfl, ((Below.refl _ _).alloc (Nat.le_refl _) _).alloc (by simp) _⟩
set_option maxHeartbeats 1000000 in
theorem rc2_hi (tx ix pk pn ct sm : Int) (b : ByteArray) (w : World) (a1 : 1 ≤ tx) (a2 : tx ≤ 4294967295) (a3 : 0 ≤ ix) (a4 : ix ≤ 999) (z : 1 ≤ ct) (y : ¬ ct ≤ 999) :
    Calls Tryz.prog 37 #[.agg #[.int .i64 2, .int .i64 tx, .int .i64 ix, .int .i64 pk, .int .i64 pn, .string b, .int .i64 ct, .int .u32 sm]] w fun e w' => e = .returned (.int .i64 1) ∧ Below w.heap.size w w' := by
  have b1 : decide (1 ≤ tx) = true := by simpa using a1
  have b2 : decide (tx ≤ 4294967295) = true := by simpa using a2
  have b3 : decide (0 ≤ ix) = true := by simpa using a3
  have b4 : decide (ix ≤ 999) = true := by simpa using a4
  have d0 : decide (1 ≤ ct) = true := by simpa using z
  have d1 : decide (ct ≤ 999) = false := by simpa using y
  clear y
  go_enter Tryz.func37, Tryz.ntmps37
  go_wp2_with fail
  go_ret
  exact ⟨rfl, ((Below.refl _ _).alloc (Nat.le_refl _) _).alloc (by simp) _⟩
set_option maxHeartbeats 1000000 in
theorem rc2_ix (tx ix pk pn ct sm : Int) (b : ByteArray) (w : World) (a1 : 1 ≤ tx) (a2 : tx ≤ 4294967295) (a3 : 0 ≤ ix) (a4 : ix ≤ 999) (z : 1 ≤ ct) (y : ct ≤ 999) (x : ix ≠ ct) :
    Calls Tryz.prog 37 #[.agg #[.int .i64 2, .int .i64 tx, .int .i64 ix, .int .i64 pk, .int .i64 pn, .string b, .int .i64 ct, .int .u32 sm]] w fun e w' => e = .returned (.int .i64 1) ∧ Below w.heap.size w w' := by
  have b1 : decide (1 ≤ tx) = true := by simpa using a1
  have b2 : decide (tx ≤ 4294967295) = true := by simpa using a2
  have b3 : decide (0 ≤ ix) = true := by simpa using a3
  have b4 : decide (ix ≤ 999) = true := by simpa using a4
  have d0 : decide (1 ≤ ct) = true := by simpa using z
  have d1 : decide (ct ≤ 999) = true := by simpa using y
  have d2 : (ix == ct) = false := by simpa using x
  clear x
  go_enter Tryz.func37, Tryz.ntmps37
  go_wp2_with fail
  go_ret
  exact ⟨rfl, ((Below.refl _ _).alloc (Nat.le_refl _) _).alloc (by simp) _⟩
set_option maxHeartbeats 1000000 in
theorem rc2_np (tx ix pk pn ct sm : Int) (b : ByteArray) (w : World) (a1 : 1 ≤ tx) (a2 : tx ≤ 4294967295) (a3 : 0 ≤ ix) (a4 : ix ≤ 999) (z : 1 ≤ ct) (y : ct ≤ 999) (x : ix = ct) (h : noP pk pn b = false) :
    Calls Tryz.prog 37 #[.agg #[.int .i64 2, .int .i64 tx, .int .i64 ix, .int .i64 pk, .int .i64 pn, .string b, .int .i64 ct, .int .u32 sm]] w fun e w' => e = .returned (.int .i64 1) ∧ Below w.heap.size w w' := by
  have b1 : decide (1 ≤ tx) = true := by simpa using a1
  have b2 : decide (tx ≤ 4294967295) = true := by simpa using a2
  have b3 : decide (0 ≤ ix) = true := by simpa using a3
  have b4 : decide (ix ≤ 999) = true := by simpa using a4
  have d0 : decide (1 ≤ ct) = true := by simpa using z
  have d1 : decide (ct ≤ 999) = true := by simpa using y
  subst x
  have heq := eq23
  have hp : pageB pk pn 0 0 b ⟨#[]⟩ = false := h
  clear h
  go_enter Tryz.func37, Tryz.ntmps37
  go_wp2_with fail
  go_ret
  exact ⟨rfl, ((Below.refl _ _).alloc (Nat.le_refl _) _).alloc (by simp) _⟩
set_option maxHeartbeats 1000000 in
theorem rc2_yes (tx ix pk pn ct sm : Int) (b : ByteArray) (w : World) (a1 : 1 ≤ tx) (a2 : tx ≤ 4294967295) (a3 : 0 ≤ ix) (a4 : ix ≤ 999) (z : 1 ≤ ct) (y : ct ≤ 999) (x : ix = ct) (h : noP pk pn b = true) :
    Calls Tryz.prog 37 #[.agg #[.int .i64 2, .int .i64 tx, .int .i64 ix, .int .i64 pk, .int .i64 pn, .string b, .int .i64 ct, .int .u32 sm]] w fun e w' => e = .returned (.int .i64 0) ∧ Below w.heap.size w w' := by
  have b1 : decide (1 ≤ tx) = true := by simpa using a1
  have b2 : decide (tx ≤ 4294967295) = true := by simpa using a2
  have b3 : decide (0 ≤ ix) = true := by simpa using a3
  have b4 : decide (ix ≤ 999) = true := by simpa using a4
  have d0 : decide (1 ≤ ct) = true := by simpa using z
  have d1 : decide (ct ≤ 999) = true := by simpa using y
  subst x
  have heq := eq23
  have hp : pageB pk pn 0 0 b ⟨#[]⟩ = true := h
  clear h
  go_enter Tryz.func37, Tryz.ntmps37
  go_wp2_with fail
  go_ret
  exact ⟨rfl, ((Below.refl _ _).alloc (Nat.le_refl _) _).alloc (by simp) _⟩
set_option maxHeartbeats 1000000 in
theorem rc3_np (tx ix pk pn ct sm : Int) (b : ByteArray) (w : World) (a1 : 1 ≤ tx) (a2 : tx ≤ 4294967295) (a3 : 0 ≤ ix) (a4 : ix ≤ 999) (h : noP pk pn b = false) :
    Calls Tryz.prog 37 #[.agg #[.int .i64 3, .int .i64 tx, .int .i64 ix, .int .i64 pk, .int .i64 pn, .string b, .int .i64 ct, .int .u32 sm]] w fun e w' => e = .returned (.int .i64 1) ∧ Below w.heap.size w w' := by
  have b1 : decide (1 ≤ tx) = true := by simpa using a1
  have b2 : decide (tx ≤ 4294967295) = true := by simpa using a2
  have b3 : decide (0 ≤ ix) = true := by simpa using a3
  have b4 : decide (ix ≤ 999) = true := by simpa using a4
  have heq := eq23
  have hp : pageB pk pn 0 0 b ⟨#[]⟩ = false := h
  clear h
  go_enter Tryz.func37, Tryz.ntmps37
  go_wp2_with fail
  go_ret
  exact ⟨rfl, ((Below.refl _ _).alloc (Nat.le_refl _) _).alloc (by simp) _⟩
set_option maxHeartbeats 1000000 in
theorem rc3_ct (tx ix pk pn ct sm : Int) (b : ByteArray) (w : World) (a1 : 1 ≤ tx) (a2 : tx ≤ 4294967295) (a3 : 0 ≤ ix) (a4 : ix ≤ 999) (h : noP pk pn b = true) (z : ct ≠ 0) :
    Calls Tryz.prog 37 #[.agg #[.int .i64 3, .int .i64 tx, .int .i64 ix, .int .i64 pk, .int .i64 pn, .string b, .int .i64 ct, .int .u32 sm]] w fun e w' => e = .returned (.int .i64 1) ∧ Below w.heap.size w w' := by
  have b1 : decide (1 ≤ tx) = true := by simpa using a1
  have b2 : decide (tx ≤ 4294967295) = true := by simpa using a2
  have b3 : decide (0 ≤ ix) = true := by simpa using a3
  have b4 : decide (ix ≤ 999) = true := by simpa using a4
  have heq := eq23
  have hp : pageB pk pn 0 0 b ⟨#[]⟩ = true := h
  clear h
  have e0 : (ct == 0) = false := by simpa using z
  clear z
  go_enter Tryz.func37, Tryz.ntmps37
  go_wp2_with fail
  go_ret
  exact ⟨rfl, ((Below.refl _ _).alloc (Nat.le_refl _) _).alloc (by simp) _⟩
set_option maxHeartbeats 1000000 in
theorem rc3_sm (tx ix pk pn ct sm : Int) (b : ByteArray) (w : World) (a1 : 1 ≤ tx) (a2 : tx ≤ 4294967295) (a3 : 0 ≤ ix) (a4 : ix ≤ 999) (h : noP pk pn b = true) (z : ct = 0) (y : sm ≠ 0) :
    Calls Tryz.prog 37 #[.agg #[.int .i64 3, .int .i64 tx, .int .i64 ix, .int .i64 pk, .int .i64 pn, .string b, .int .i64 ct, .int .u32 sm]] w fun e w' => e = .returned (.int .i64 1) ∧ Below w.heap.size w w' := by
  have b1 : decide (1 ≤ tx) = true := by simpa using a1
  have b2 : decide (tx ≤ 4294967295) = true := by simpa using a2
  have b3 : decide (0 ≤ ix) = true := by simpa using a3
  have b4 : decide (ix ≤ 999) = true := by simpa using a4
  have heq := eq23
  have hp : pageB pk pn 0 0 b ⟨#[]⟩ = true := h
  clear h
  subst z
  have e0 : (sm == 0) = false := by simpa using y
  clear y
  go_enter Tryz.func37, Tryz.ntmps37
  go_wp2_with fail
  go_ret
  exact ⟨rfl, ((Below.refl _ _).alloc (Nat.le_refl _) _).alloc (by simp) _⟩
set_option maxHeartbeats 1000000 in
theorem rc3_yes (tx ix pk pn ct sm : Int) (b : ByteArray) (w : World) (a1 : 1 ≤ tx) (a2 : tx ≤ 4294967295) (a3 : 0 ≤ ix) (a4 : ix ≤ 999) (h : noP pk pn b = true) (z : ct = 0) (y : sm = 0) :
    Calls Tryz.prog 37 #[.agg #[.int .i64 3, .int .i64 tx, .int .i64 ix, .int .i64 pk, .int .i64 pn, .string b, .int .i64 ct, .int .u32 sm]] w fun e w' => e = .returned (.int .i64 0) ∧ Below w.heap.size w w' := by
  have b1 : decide (1 ≤ tx) = true := by simpa using a1
  have b2 : decide (tx ≤ 4294967295) = true := by simpa using a2
  have b3 : decide (0 ≤ ix) = true := by simpa using a3
  have b4 : decide (ix ≤ 999) = true := by simpa using a4
  have heq := eq23
  have hp : pageB pk pn 0 0 b ⟨#[]⟩ = true := h
  clear h
  subst z y
  go_enter Tryz.func37, Tryz.ntmps37
  go_wp2_with fail
  go_ret
  exact ⟨rfl, ((Below.refl _ _).alloc (Nat.le_refl _) _).alloc (by simp) _⟩
end Go.Proofs.YtaonifdfhlbaiaaGreatDoor.En

/- Check of the document's answer for entry, as one. -/
namespace Go.Proofs.YtaonifdfhlbaiaaGreatDoor.En
open Go.RowKit
open Go.Lib (hid)
theorem refcheck_yes (kd tx ix pk pn ct sm : Int) (b : ByteArray) (w : World) (h : mayE kd tx ix pk pn b ct sm) :
    Calls Tryz.prog 37 #[.agg #[.int .i64 kd, .int .i64 tx, .int .i64 ix, .int .i64 pk, .int .i64 pn, .string b, .int .i64 ct, .int .u32 sm]] w fun e w' => e = .returned (.int .i64 0) ∧ Below w.heap.size w w' := by
  obtain ⟨a1, a2, a3, a4, hr⟩ := h
  rcases hr with ⟨rfl, ⟨m1, m2, m3, m4, m5, m6⟩, hc, hs⟩ | ⟨rfl, hc, hi, hp⟩ | ⟨rfl, hp, hc, hs⟩
  · by_cases h0 : pk = 0
    · exact rc1_yesb tx ix pk pn ct sm b w a1 a2 a3 a4 m2 (by omega) m4 m5 m6 h0 (m1 h0) hc hs
    · exact rc1_yesa tx ix pk pn ct sm b w a1 a2 a3 a4 m2 (by omega) m4 m5 m6 (by omega) hc hs
  · exact rc2_yes tx ix pk pn ct sm b w a1 a2 a3 a4 hc (by omega) hi.symm hp
  · exact rc3_yes tx ix pk pn ct sm b w a1 a2 a3 a4 hp hc hs
theorem rc_lo (kd tx ix pk pn ct sm : Int) (b : ByteArray) (w : World) (e : tx < 1) :
    Calls Tryz.prog 37 #[.agg #[.int .i64 kd, .int .i64 tx, .int .i64 ix, .int .i64 pk, .int .i64 pn, .string b, .int .i64 ct, .int .u32 sm]] w fun e w' => e = .returned (.int .i64 1) ∧ Below w.heap.size w w' := by
  by_cases h1 : kd = 1
  · subst h1; exact rc_lo1 tx ix pk pn ct sm b w e
  · by_cases h2 : kd = 2
    · subst h2; exact rc_lo2 tx ix pk pn ct sm b w e
    · by_cases h3 : kd = 3
      · subst h3; exact rc_lo3 tx ix pk pn ct sm b w e
      · exact rc_lo0 kd tx ix pk pn ct sm b w h1 h2 h3 e
theorem rc_hi (kd tx ix pk pn ct sm : Int) (b : ByteArray) (w : World) (e : 4294967295 < tx) :
    Calls Tryz.prog 37 #[.agg #[.int .i64 kd, .int .i64 tx, .int .i64 ix, .int .i64 pk, .int .i64 pn, .string b, .int .i64 ct, .int .u32 sm]] w fun e w' => e = .returned (.int .i64 1) ∧ Below w.heap.size w w' := by
  by_cases h1 : kd = 1
  · subst h1; exact rc_hi1 tx ix pk pn ct sm b w e
  · by_cases h2 : kd = 2
    · subst h2; exact rc_hi2 tx ix pk pn ct sm b w e
    · by_cases h3 : kd = 3
      · subst h3; exact rc_hi3 tx ix pk pn ct sm b w e
      · exact rc_hi0 kd tx ix pk pn ct sm b w h1 h2 h3 e
theorem rc_il (kd tx ix pk pn ct sm : Int) (b : ByteArray) (w : World) (e : 1 ≤ tx) (e' : tx ≤ 4294967295) (i : ix < 0) :
    Calls Tryz.prog 37 #[.agg #[.int .i64 kd, .int .i64 tx, .int .i64 ix, .int .i64 pk, .int .i64 pn, .string b, .int .i64 ct, .int .u32 sm]] w fun e w' => e = .returned (.int .i64 1) ∧ Below w.heap.size w w' := by
  by_cases h1 : kd = 1
  · subst h1; exact rc_il1 tx ix pk pn ct sm b w e e' i
  · by_cases h2 : kd = 2
    · subst h2; exact rc_il2 tx ix pk pn ct sm b w e e' i
    · by_cases h3 : kd = 3
      · subst h3; exact rc_il3 tx ix pk pn ct sm b w e e' i
      · exact rc_il0 kd tx ix pk pn ct sm b w h1 h2 h3 e e' i
theorem rc_ih (kd tx ix pk pn ct sm : Int) (b : ByteArray) (w : World) (e : 1 ≤ tx) (e' : tx ≤ 4294967295) (i : 999 < ix) :
    Calls Tryz.prog 37 #[.agg #[.int .i64 kd, .int .i64 tx, .int .i64 ix, .int .i64 pk, .int .i64 pn, .string b, .int .i64 ct, .int .u32 sm]] w fun e w' => e = .returned (.int .i64 1) ∧ Below w.heap.size w w' := by
  by_cases h1 : kd = 1
  · subst h1; exact rc_ih1 tx ix pk pn ct sm b w e e' i
  · by_cases h2 : kd = 2
    · subst h2; exact rc_ih2 tx ix pk pn ct sm b w e e' i
    · by_cases h3 : kd = 3
      · subst h3; exact rc_ih3 tx ix pk pn ct sm b w e e' i
      · exact rc_ih0 kd tx ix pk pn ct sm b w h1 h2 h3 e e' i
theorem rc_one (tx ix pk pn ct sm : Int) (b : ByteArray) (w : World) (a1 : 1 ≤ tx) (a2 : tx ≤ 4294967295) (a3 : 0 ≤ ix) (a4 : ix ≤ 999) (h : ¬ (mayS pk pn b ∧ ct = 0 ∧ sm = 0)) :
    Calls Tryz.prog 37 #[.agg #[.int .i64 1, .int .i64 tx, .int .i64 ix, .int .i64 pk, .int .i64 pn, .string b, .int .i64 ct, .int .u32 sm]] w fun e w' => e = .returned (.int .i64 1) ∧ Below w.heap.size w w' := by
  by_cases c0 : 0 ≤ pk
  · by_cases c1 : pk ≤ 4
    · by_cases c2 : 0 ≤ pn
      · by_cases c3 : pn ≤ 999
        · by_cases c4 : b.size ≤ 230
          · by_cases c5 : pk = 0
            · cases c6 : b.toList.isEmpty with
              | false => exact rc1_u tx ix pk pn ct sm b w a1 a2 a3 a4 c0 c1 c2 c3 c4 c5 c6
              | true =>
                by_cases z : ct = 0
                · by_cases y : sm = 0
                  · exact absurd ⟨⟨fun _ => c6, c0, by omega, c2, c3, c4⟩, z, y⟩ h
                  · exact rc1_smb tx ix pk pn ct sm b w a1 a2 a3 a4 c0 c1 c2 c3 c4 c5 c6 z y
                · exact rc1_ctb tx ix pk pn ct sm b w a1 a2 a3 a4 c0 c1 c2 c3 c4 c5 c6 z
            · by_cases z : ct = 0
              · by_cases y : sm = 0
                · exact absurd ⟨⟨fun h0 => absurd h0 c5, c0, by omega, c2, c3, c4⟩, z, y⟩ h
                · exact rc1_sma tx ix pk pn ct sm b w a1 a2 a3 a4 c0 c1 c2 c3 c4 (by omega) z y
              · exact rc1_cta tx ix pk pn ct sm b w a1 a2 a3 a4 c0 c1 c2 c3 c4 (by omega) z
          · exact rc1_t tx ix pk pn ct sm b w a1 a2 a3 a4 c0 c1 c2 c3 (by omega)
        · exact rc1_s tx ix pk pn ct sm b w a1 a2 a3 a4 c0 c1 c2 c3
      · exact rc1_r tx ix pk pn ct sm b w a1 a2 a3 a4 c0 c1 c2
    · exact rc1_q tx ix pk pn ct sm b w a1 a2 a3 a4 c0 c1
  · exact rc1_p tx ix pk pn ct sm b w a1 a2 a3 a4 c0
theorem rc_two (tx ix pk pn ct sm : Int) (b : ByteArray) (w : World) (a1 : 1 ≤ tx) (a2 : tx ≤ 4294967295) (a3 : 0 ≤ ix) (a4 : ix ≤ 999) (h : ¬ (1 ≤ ct ∧ ct = ix ∧ noP pk pn b = true)) :
    Calls Tryz.prog 37 #[.agg #[.int .i64 2, .int .i64 tx, .int .i64 ix, .int .i64 pk, .int .i64 pn, .string b, .int .i64 ct, .int .u32 sm]] w fun e w' => e = .returned (.int .i64 1) ∧ Below w.heap.size w w' := by
  by_cases z : 1 ≤ ct
  · by_cases y : ct ≤ 999
    · by_cases x : ix = ct
      · cases hp : noP pk pn b with
        | true => exact absurd ⟨z, x.symm, hp⟩ h
        | false => exact rc2_np tx ix pk pn ct sm b w a1 a2 a3 a4 z y x hp
      · exact rc2_ix tx ix pk pn ct sm b w a1 a2 a3 a4 z y x
    · exact rc2_hi tx ix pk pn ct sm b w a1 a2 a3 a4 z y
  · exact rc2_lo tx ix pk pn ct sm b w a1 a2 a3 a4 z
theorem rc_three (tx ix pk pn ct sm : Int) (b : ByteArray) (w : World) (a1 : 1 ≤ tx) (a2 : tx ≤ 4294967295) (a3 : 0 ≤ ix) (a4 : ix ≤ 999) (h : ¬ (noP pk pn b = true ∧ ct = 0 ∧ sm = 0)) :
    Calls Tryz.prog 37 #[.agg #[.int .i64 3, .int .i64 tx, .int .i64 ix, .int .i64 pk, .int .i64 pn, .string b, .int .i64 ct, .int .u32 sm]] w fun e w' => e = .returned (.int .i64 1) ∧ Below w.heap.size w w' := by
  cases hp : noP pk pn b with
  | true =>
    by_cases z : ct = 0
    · by_cases y : sm = 0
      · exact absurd ⟨hp, z, y⟩ h
      · exact rc3_sm tx ix pk pn ct sm b w a1 a2 a3 a4 hp z y
    · exact rc3_ct tx ix pk pn ct sm b w a1 a2 a3 a4 hp z
  | false => exact rc3_np tx ix pk pn ct sm b w a1 a2 a3 a4 hp
theorem refcheck_no (kd tx ix pk pn ct sm : Int) (b : ByteArray) (w : World) (h : ¬ mayE kd tx ix pk pn b ct sm) :
    Calls Tryz.prog 37 #[.agg #[.int .i64 kd, .int .i64 tx, .int .i64 ix, .int .i64 pk, .int .i64 pn, .string b, .int .i64 ct, .int .u32 sm]] w fun e w' => e = .returned (.int .i64 1) ∧ Below w.heap.size w w' := by
  by_cases a1 : 1 ≤ tx
  · by_cases a2 : tx ≤ 4294967295
    · by_cases a3 : 0 ≤ ix
      · by_cases a4 : ix ≤ 999
        · have hr : ¬ restP kd ix pk pn b ct sm := fun hr => h ⟨a1, a2, a3, a4, hr⟩
          by_cases h1 : kd = 1
          · subst h1; exact rc_one tx ix pk pn ct sm b w a1 a2 a3 a4 (fun ⟨h2, h3, h4⟩ => hr (Or.inl ⟨rfl, h2, h3, h4⟩))
          · by_cases h2 : kd = 2
            · subst h2; exact rc_two tx ix pk pn ct sm b w a1 a2 a3 a4 (fun ⟨h3, h4, h5⟩ => hr (Or.inr (Or.inl ⟨rfl, h3, h4, h5⟩)))
            · by_cases h3 : kd = 3
              · subst h3; exact rc_three tx ix pk pn ct sm b w a1 a2 a3 a4 (fun ⟨h4, h5, h6⟩ => hr (Or.inr (Or.inr ⟨rfl, h4, h5, h6⟩)))
              · exact rc_0 kd tx ix pk pn ct sm b w h1 h2 h3 a1 a2 a3 a4
        · exact rc_ih kd tx ix pk pn ct sm b w a1 a2 (by omega)
      · exact rc_il kd tx ix pk pn ct sm b w a1 a2 (by omega)
    · exact rc_hi kd tx ix pk pn ct sm b w (by omega)
  · exact rc_lo kd tx ix pk pn ct sm b w (by omega)
end Go.Proofs.YtaonifdfhlbaiaaGreatDoor.En

/- A number of an area, or none; the closure that read asks. -/
namespace Go.Proofs.YtaonifdfhlbaiaaGreatDoor.En
open Go.RowKit
open Go.Lib (hid)
open Go.Proofs.YtaonifdfhlbaiaaGreatDoor.Fd (Area Row be be_length num getAt putAt num_lt getAt_length isRange)

/-- a number, where the area has it -/
def getOr (l : List UInt8) (o wd : Nat) : Nat := if o + wd ≤ l.length then num (getAt l o wd) else 0
theorem getOr_lt (l : List UInt8) (o wd : Nat) (h : wd ≤ 4) : getOr l o wd < 4294967296 := by
  unfold getOr
  split
  · rename_i hl
    have h1 := num_lt (getAt l o wd)
    rw [getAt_length l o wd hl] at h1
    exact Nat.lt_of_lt_of_le h1 (Nat.pow_le_pow_right (by decide) h)
  · decide
theorem get_any (A B : Nat) (l : List UInt8) (o wd : Nat) (w : World) (ha : Area 153 w A B l) (hw : wd = 1 ∨ wd = 2 ∨ wd = 4) (ho : o ≤ 1000000) :
    Calls Tryz.prog 94 #[.pointer (some ⟨A, 0, none⟩), .int .i64 (o : Int), .int .i64 (wd : Int)] w fun e w' => (∃ x : Int, e = .returned (.tuple #[.int .u32 (getOr l o wd : Int), .int .i64 x])) ∧ w = w' := by
  unfold getOr
  by_cases h : o + wd ≤ l.length
  · rw [if_pos h]
    exact (Fd.get_ok A B l o wd w ha hw h).mono fun e w' ⟨h1, h2⟩ => ⟨⟨0, h1⟩, h2⟩
  · rw [if_neg h]
    exact (Fd.get_bad _ o wd w (Fd.number_no A B l o wd w ha (by unfold isRange; omega) (by omega) (by omega))).mono fun e w' ⟨h1, h2⟩ => ⟨⟨1, h1⟩, h2⟩
set_option maxRecDepth 100000 in
set_option maxHeartbeats 1000000 in
theorem read1_ok (A B G : Nat) (l : List UInt8) (o wd : Nat) (w : World) (ha : Area 153 w A B l) (hG : w.cell? ⟨G, 0, none⟩ = some (.pointer (some ⟨A, 0, none⟩))) (hw : wd = 1 ∨ wd = 2 ∨ wd = 4) (ho : o ≤ 1000000) (o' wd' : Int) (e1 : o' = o) (e2 : wd' = wd) :
    Calls Tryz.prog 108 #[.int .i64 o', .int .i64 wd', .pointer (some ⟨G, 0, none⟩)] w fun e w' => e = .returned (.int .i64 (getOr l o wd : Int)) ∧ w = w' := by
  subst e1 e2
  have HG := hid (get_any A B l o wd w ha hw ho)
  have hlt := getOr_lt l o wd (by omega)
  generalize getOr l o wd = x at *
  clear ha hw
  go_enter Tryz.func108, Tryz.ntmps108
  go_wp2_with fail
  refine HG.out.mono ?_
  rintro e w1 ⟨⟨y, rfl⟩, rfl⟩
  go_wp2_with fail
  go_ret
  exact ⟨rfl, rfl⟩
end Go.Proofs.YtaonifdfhlbaiaaGreatDoor.En
