/- Check of the document's answer for entry: case by case. -/
import Derived.Test.YtigaddpjmgncmaaDoorEnCheck
namespace Go.Proofs.YtigaddpjmgncmaaDoor.En
open Go.RowKit
open Go.Lib (hid)
set_option maxHeartbeats 1000000 in
theorem rc_lo1 (tx ix pk pn ct sm : Int) (b : ByteArray) (w : World) (e : tx < 1) :
    Calls Tryd.prog 13 #[.agg #[.int .i64 1, .int .i64 tx, .int .i64 ix, .int .i64 pk, .int .i64 pn, .string b, .int .i64 ct, .int .u32 sm]] w fun e w' => e = .returned (.int .i64 1) ∧ Below w.heap.size w w' := by
  have e1 : decide (1 ≤ tx) = false := by simp; omega
  clear e
  go_enter Tryd.func13, Tryd.ntmps13
  go_wp2_with fail
  go_ret
  exact ⟨rfl, ((Below.refl _ _).alloc (Nat.le_refl _) _).alloc (by simp) _⟩
set_option maxHeartbeats 1000000 in
theorem rc_lo2 (tx ix pk pn ct sm : Int) (b : ByteArray) (w : World) (e : tx < 1) :
    Calls Tryd.prog 13 #[.agg #[.int .i64 2, .int .i64 tx, .int .i64 ix, .int .i64 pk, .int .i64 pn, .string b, .int .i64 ct, .int .u32 sm]] w fun e w' => e = .returned (.int .i64 1) ∧ Below w.heap.size w w' := by
  have e1 : decide (1 ≤ tx) = false := by simp; omega
  clear e
  go_enter Tryd.func13, Tryd.ntmps13
  go_wp2_with fail
  go_ret
  exact ⟨rfl, ((Below.refl _ _).alloc (Nat.le_refl _) _).alloc (by simp) _⟩
set_option maxHeartbeats 1000000 in
theorem rc_lo3 (tx ix pk pn ct sm : Int) (b : ByteArray) (w : World) (e : tx < 1) :
    Calls Tryd.prog 13 #[.agg #[.int .i64 3, .int .i64 tx, .int .i64 ix, .int .i64 pk, .int .i64 pn, .string b, .int .i64 ct, .int .u32 sm]] w fun e w' => e = .returned (.int .i64 1) ∧ Below w.heap.size w w' := by
  have e1 : decide (1 ≤ tx) = false := by simp; omega
  clear e
  go_enter Tryd.func13, Tryd.ntmps13
  go_wp2_with fail
  go_ret
  exact ⟨rfl, ((Below.refl _ _).alloc (Nat.le_refl _) _).alloc (by simp) _⟩
set_option maxHeartbeats 1000000 in
theorem rc_lo0 (kd tx ix pk pn ct sm : Int) (b : ByteArray) (w : World) (h1 : kd ≠ 1) (h2 : kd ≠ 2) (h3 : kd ≠ 3) (e : tx < 1) :
    Calls Tryd.prog 13 #[.agg #[.int .i64 kd, .int .i64 tx, .int .i64 ix, .int .i64 pk, .int .i64 pn, .string b, .int .i64 ct, .int .u32 sm]] w fun e w' => e = .returned (.int .i64 1) ∧ Below w.heap.size w w' := by
  have k1 : (kd == 1) = false := by simpa using h1
  have k2 : (kd == 2) = false := by simpa using h2
  have k3 : (kd == 3) = false := by simpa using h3
  clear h1 h2 h3
  have e1 : decide (1 ≤ tx) = false := by simp; omega
  clear e
  go_enter Tryd.func13, Tryd.ntmps13
  go_wp2_with fail
  go_ret
  exact ⟨rfl, ((Below.refl _ _).alloc (Nat.le_refl _) _).alloc (by simp) _⟩
set_option maxHeartbeats 1000000 in
theorem rc_hi1 (tx ix pk pn ct sm : Int) (b : ByteArray) (w : World) (e : 4294967295 < tx) :
    Calls Tryd.prog 13 #[.agg #[.int .i64 1, .int .i64 tx, .int .i64 ix, .int .i64 pk, .int .i64 pn, .string b, .int .i64 ct, .int .u32 sm]] w fun e w' => e = .returned (.int .i64 1) ∧ Below w.heap.size w w' := by
  have e1 : decide (1 ≤ tx) = true := by simp; omega
  have e2 : decide (tx ≤ 4294967295) = false := by simp; omega
  clear e
  go_enter Tryd.func13, Tryd.ntmps13
  go_wp2_with fail
  go_ret
  exact ⟨rfl, ((Below.refl _ _).alloc (Nat.le_refl _) _).alloc (by simp) _⟩
set_option maxHeartbeats 1000000 in
theorem rc_hi2 (tx ix pk pn ct sm : Int) (b : ByteArray) (w : World) (e : 4294967295 < tx) :
    Calls Tryd.prog 13 #[.agg #[.int .i64 2, .int .i64 tx, .int .i64 ix, .int .i64 pk, .int .i64 pn, .string b, .int .i64 ct, .int .u32 sm]] w fun e w' => e = .returned (.int .i64 1) ∧ Below w.heap.size w w' := by
  have e1 : decide (1 ≤ tx) = true := by simp; omega
  have e2 : decide (tx ≤ 4294967295) = false := by simp; omega
  clear e
  go_enter Tryd.func13, Tryd.ntmps13
  go_wp2_with fail
  go_ret
  exact ⟨rfl, ((Below.refl _ _).alloc (Nat.le_refl _) _).alloc (by simp) _⟩
set_option maxHeartbeats 1000000 in
theorem rc_hi3 (tx ix pk pn ct sm : Int) (b : ByteArray) (w : World) (e : 4294967295 < tx) :
    Calls Tryd.prog 13 #[.agg #[.int .i64 3, .int .i64 tx, .int .i64 ix, .int .i64 pk, .int .i64 pn, .string b, .int .i64 ct, .int .u32 sm]] w fun e w' => e = .returned (.int .i64 1) ∧ Below w.heap.size w w' := by
  have e1 : decide (1 ≤ tx) = true := by simp; omega
  have e2 : decide (tx ≤ 4294967295) = false := by simp; omega
  clear e
  go_enter Tryd.func13, Tryd.ntmps13
  go_wp2_with fail
  go_ret
  exact ⟨rfl, ((Below.refl _ _).alloc (Nat.le_refl _) _).alloc (by simp) _⟩
set_option maxHeartbeats 1000000 in
theorem rc_hi0 (kd tx ix pk pn ct sm : Int) (b : ByteArray) (w : World) (h1 : kd ≠ 1) (h2 : kd ≠ 2) (h3 : kd ≠ 3) (e : 4294967295 < tx) :
    Calls Tryd.prog 13 #[.agg #[.int .i64 kd, .int .i64 tx, .int .i64 ix, .int .i64 pk, .int .i64 pn, .string b, .int .i64 ct, .int .u32 sm]] w fun e w' => e = .returned (.int .i64 1) ∧ Below w.heap.size w w' := by
  have k1 : (kd == 1) = false := by simpa using h1
  have k2 : (kd == 2) = false := by simpa using h2
  have k3 : (kd == 3) = false := by simpa using h3
  clear h1 h2 h3
  have e1 : decide (1 ≤ tx) = true := by simp; omega
  have e2 : decide (tx ≤ 4294967295) = false := by simp; omega
  clear e
  go_enter Tryd.func13, Tryd.ntmps13
  go_wp2_with fail
  go_ret
  exact ⟨rfl, ((Below.refl _ _).alloc (Nat.le_refl _) _).alloc (by simp) _⟩
set_option maxHeartbeats 1000000 in
theorem rc_il1 (tx ix pk pn ct sm : Int) (b : ByteArray) (w : World) (e : 1 ≤ tx) (e' : tx ≤ 4294967295) (i : ix < 0) :
    Calls Tryd.prog 13 #[.agg #[.int .i64 1, .int .i64 tx, .int .i64 ix, .int .i64 pk, .int .i64 pn, .string b, .int .i64 ct, .int .u32 sm]] w fun e w' => e = .returned (.int .i64 1) ∧ Below w.heap.size w w' := by
  have e1 : decide (1 ≤ tx) = true := by simpa using e
  have e2 : decide (tx ≤ 4294967295) = true := by simpa using e'
  have e3 : decide (0 ≤ ix) = false := by simp; omega
  clear e e' i
  go_enter Tryd.func13, Tryd.ntmps13
  go_wp2_with fail
  go_ret
  exact ⟨rfl, ((Below.refl _ _).alloc (Nat.le_refl _) _).alloc (by simp) _⟩
set_option maxHeartbeats 1000000 in
theorem rc_il2 (tx ix pk pn ct sm : Int) (b : ByteArray) (w : World) (e : 1 ≤ tx) (e' : tx ≤ 4294967295) (i : ix < 0) :
    Calls Tryd.prog 13 #[.agg #[.int .i64 2, .int .i64 tx, .int .i64 ix, .int .i64 pk, .int .i64 pn, .string b, .int .i64 ct, .int .u32 sm]] w fun e w' => e = .returned (.int .i64 1) ∧ Below w.heap.size w w' := by
  have e1 : decide (1 ≤ tx) = true := by simpa using e
  have e2 : decide (tx ≤ 4294967295) = true := by simpa using e'
  have e3 : decide (0 ≤ ix) = false := by simp; omega
  clear e e' i
  go_enter Tryd.func13, Tryd.ntmps13
  go_wp2_with fail
  go_ret
  exact ⟨rfl, ((Below.refl _ _).alloc (Nat.le_refl _) _).alloc (by simp) _⟩
set_option maxHeartbeats 1000000 in
theorem rc_il3 (tx ix pk pn ct sm : Int) (b : ByteArray) (w : World) (e : 1 ≤ tx) (e' : tx ≤ 4294967295) (i : ix < 0) :
    Calls Tryd.prog 13 #[.agg #[.int .i64 3, .int .i64 tx, .int .i64 ix, .int .i64 pk, .int .i64 pn, .string b, .int .i64 ct, .int .u32 sm]] w fun e w' => e = .returned (.int .i64 1) ∧ Below w.heap.size w w' := by
  have e1 : decide (1 ≤ tx) = true := by simpa using e
  have e2 : decide (tx ≤ 4294967295) = true := by simpa using e'
  have e3 : decide (0 ≤ ix) = false := by simp; omega
  clear e e' i
  go_enter Tryd.func13, Tryd.ntmps13
  go_wp2_with fail
  go_ret
  exact ⟨rfl, ((Below.refl _ _).alloc (Nat.le_refl _) _).alloc (by simp) _⟩
set_option maxHeartbeats 1000000 in
theorem rc_il0 (kd tx ix pk pn ct sm : Int) (b : ByteArray) (w : World) (h1 : kd ≠ 1) (h2 : kd ≠ 2) (h3 : kd ≠ 3) (e : 1 ≤ tx) (e' : tx ≤ 4294967295) (i : ix < 0) :
    Calls Tryd.prog 13 #[.agg #[.int .i64 kd, .int .i64 tx, .int .i64 ix, .int .i64 pk, .int .i64 pn, .string b, .int .i64 ct, .int .u32 sm]] w fun e w' => e = .returned (.int .i64 1) ∧ Below w.heap.size w w' := by
  have k1 : (kd == 1) = false := by simpa using h1
  have k2 : (kd == 2) = false := by simpa using h2
  have k3 : (kd == 3) = false := by simpa using h3
  clear h1 h2 h3
  have e1 : decide (1 ≤ tx) = true := by simpa using e
  have e2 : decide (tx ≤ 4294967295) = true := by simpa using e'
  have e3 : decide (0 ≤ ix) = false := by simp; omega
  clear e e' i
  go_enter Tryd.func13, Tryd.ntmps13
  go_wp2_with fail
  go_ret
  exact ⟨rfl, ((Below.refl _ _).alloc (Nat.le_refl _) _).alloc (by simp) _⟩
set_option maxHeartbeats 1000000 in
theorem rc_ih1 (tx ix pk pn ct sm : Int) (b : ByteArray) (w : World) (e : 1 ≤ tx) (e' : tx ≤ 4294967295) (i : 999 < ix) :
    Calls Tryd.prog 13 #[.agg #[.int .i64 1, .int .i64 tx, .int .i64 ix, .int .i64 pk, .int .i64 pn, .string b, .int .i64 ct, .int .u32 sm]] w fun e w' => e = .returned (.int .i64 1) ∧ Below w.heap.size w w' := by
  have e1 : decide (1 ≤ tx) = true := by simpa using e
  have e2 : decide (tx ≤ 4294967295) = true := by simpa using e'
  have e3 : decide (0 ≤ ix) = true := by simp; omega
  have e4 : decide (ix ≤ 999) = false := by simp; omega
  clear e e' i
  go_enter Tryd.func13, Tryd.ntmps13
  go_wp2_with fail
  go_ret
  exact ⟨rfl, ((Below.refl _ _).alloc (Nat.le_refl _) _).alloc (by simp) _⟩
set_option maxHeartbeats 1000000 in
theorem rc_ih2 (tx ix pk pn ct sm : Int) (b : ByteArray) (w : World) (e : 1 ≤ tx) (e' : tx ≤ 4294967295) (i : 999 < ix) :
    Calls Tryd.prog 13 #[.agg #[.int .i64 2, .int .i64 tx, .int .i64 ix, .int .i64 pk, .int .i64 pn, .string b, .int .i64 ct, .int .u32 sm]] w fun e w' => e = .returned (.int .i64 1) ∧ Below w.heap.size w w' := by
  have e1 : decide (1 ≤ tx) = true := by simpa using e
  have e2 : decide (tx ≤ 4294967295) = true := by simpa using e'
  have e3 : decide (0 ≤ ix) = true := by simp; omega
  have e4 : decide (ix ≤ 999) = false := by simp; omega
  clear e e' i
  go_enter Tryd.func13, Tryd.ntmps13
  go_wp2_with fail
  go_ret
  exact ⟨rfl, ((Below.refl _ _).alloc (Nat.le_refl _) _).alloc (by simp) _⟩
set_option maxHeartbeats 1000000 in
theorem rc_ih3 (tx ix pk pn ct sm : Int) (b : ByteArray) (w : World) (e : 1 ≤ tx) (e' : tx ≤ 4294967295) (i : 999 < ix) :
    Calls Tryd.prog 13 #[.agg #[.int .i64 3, .int .i64 tx, .int .i64 ix, .int .i64 pk, .int .i64 pn, .string b, .int .i64 ct, .int .u32 sm]] w fun e w' => e = .returned (.int .i64 1) ∧ Below w.heap.size w w' := by
  have e1 : decide (1 ≤ tx) = true := by simpa using e
  have e2 : decide (tx ≤ 4294967295) = true := by simpa using e'
  have e3 : decide (0 ≤ ix) = true := by simp; omega
  have e4 : decide (ix ≤ 999) = false := by simp; omega
  clear e e' i
  go_enter Tryd.func13, Tryd.ntmps13
  go_wp2_with fail
  go_ret
  exact ⟨rfl, ((Below.refl _ _).alloc (Nat.le_refl _) _).alloc (by simp) _⟩
set_option maxHeartbeats 1000000 in
theorem rc_ih0 (kd tx ix pk pn ct sm : Int) (b : ByteArray) (w : World) (h1 : kd ≠ 1) (h2 : kd ≠ 2) (h3 : kd ≠ 3) (e : 1 ≤ tx) (e' : tx ≤ 4294967295) (i : 999 < ix) :
    Calls Tryd.prog 13 #[.agg #[.int .i64 kd, .int .i64 tx, .int .i64 ix, .int .i64 pk, .int .i64 pn, .string b, .int .i64 ct, .int .u32 sm]] w fun e w' => e = .returned (.int .i64 1) ∧ Below w.heap.size w w' := by
  have k1 : (kd == 1) = false := by simpa using h1
  have k2 : (kd == 2) = false := by simpa using h2
  have k3 : (kd == 3) = false := by simpa using h3
  clear h1 h2 h3
  have e1 : decide (1 ≤ tx) = true := by simpa using e
  have e2 : decide (tx ≤ 4294967295) = true := by simpa using e'
  have e3 : decide (0 ≤ ix) = true := by simp; omega
  have e4 : decide (ix ≤ 999) = false := by simp; omega
  clear e e' i
  go_enter Tryd.func13, Tryd.ntmps13
  go_wp2_with fail
  go_ret
  exact ⟨rfl, ((Below.refl _ _).alloc (Nat.le_refl _) _).alloc (by simp) _⟩
set_option maxHeartbeats 1000000 in
theorem rc_0 (kd tx ix pk pn ct sm : Int) (b : ByteArray) (w : World) (h1 : kd ≠ 1) (h2 : kd ≠ 2) (h3 : kd ≠ 3) (a1 : 1 ≤ tx) (a2 : tx ≤ 4294967295) (a3 : 0 ≤ ix) (a4 : ix ≤ 999)  :
    Calls Tryd.prog 13 #[.agg #[.int .i64 kd, .int .i64 tx, .int .i64 ix, .int .i64 pk, .int .i64 pn, .string b, .int .i64 ct, .int .u32 sm]] w fun e w' => e = .returned (.int .i64 1) ∧ Below w.heap.size w w' := by
  have k1 : (kd == 1) = false := by simpa using h1
  have k2 : (kd == 2) = false := by simpa using h2
  have k3 : (kd == 3) = false := by simpa using h3
  clear h1 h2 h3
  have b1 : decide (1 ≤ tx) = true := by simpa using a1
  have b2 : decide (tx ≤ 4294967295) = true := by simpa using a2
  have b3 : decide (0 ≤ ix) = true := by simpa using a3
  have b4 : decide (ix ≤ 999) = true := by simpa using a4
  go_enter Tryd.func13, Tryd.ntmps13
  go_wp2_with fail
  go_ret
  exact ⟨rfl, ((Below.refl _ _).alloc (Nat.le_refl _) _).alloc (by simp) _⟩
set_option maxHeartbeats 1000000 in
theorem rc1_p (tx ix pk pn ct sm : Int) (b : ByteArray) (w : World) (a1 : 1 ≤ tx) (a2 : tx ≤ 4294967295) (a3 : 0 ≤ ix) (a4 : ix ≤ 999) (c0 : ¬ 0 ≤ pk) :
    Calls Tryd.prog 13 #[.agg #[.int .i64 1, .int .i64 tx, .int .i64 ix, .int .i64 pk, .int .i64 pn, .string b, .int .i64 ct, .int .u32 sm]] w fun e w' => e = .returned (.int .i64 1) ∧ Below w.heap.size w w' := by
  have b1 : decide (1 ≤ tx) = true := by simpa using a1
  have b2 : decide (tx ≤ 4294967295) = true := by simpa using a2
  have b3 : decide (0 ≤ ix) = true := by simpa using a3
  have b4 : decide (ix ≤ 999) = true := by simpa using a4
  have d0 : decide (0 ≤ pk) = false := by simpa using c0
  clear c0
  go_enter Tryd.func13, Tryd.ntmps13
  go_wp2_with fail
  go_ret
  exact ⟨rfl, ((Below.refl _ _).alloc (Nat.le_refl _) _).alloc (by simp) _⟩
set_option maxHeartbeats 1000000 in
theorem rc1_q (tx ix pk pn ct sm : Int) (b : ByteArray) (w : World) (a1 : 1 ≤ tx) (a2 : tx ≤ 4294967295) (a3 : 0 ≤ ix) (a4 : ix ≤ 999) (c0 : 0 ≤ pk) (c1 : ¬ pk ≤ 4) :
    Calls Tryd.prog 13 #[.agg #[.int .i64 1, .int .i64 tx, .int .i64 ix, .int .i64 pk, .int .i64 pn, .string b, .int .i64 ct, .int .u32 sm]] w fun e w' => e = .returned (.int .i64 1) ∧ Below w.heap.size w w' := by
  have b1 : decide (1 ≤ tx) = true := by simpa using a1
  have b2 : decide (tx ≤ 4294967295) = true := by simpa using a2
  have b3 : decide (0 ≤ ix) = true := by simpa using a3
  have b4 : decide (ix ≤ 999) = true := by simpa using a4
  have d0 : decide (0 ≤ pk) = true := by simpa using c0
  have d1 : decide (pk ≤ 4) = false := by simpa using c1
  clear c1
  go_enter Tryd.func13, Tryd.ntmps13
  go_wp2_with fail
  go_ret
  exact ⟨rfl, ((Below.refl _ _).alloc (Nat.le_refl _) _).alloc (by simp) _⟩
set_option maxHeartbeats 1000000 in
theorem rc1_r (tx ix pk pn ct sm : Int) (b : ByteArray) (w : World) (a1 : 1 ≤ tx) (a2 : tx ≤ 4294967295) (a3 : 0 ≤ ix) (a4 : ix ≤ 999) (c0 : 0 ≤ pk) (c1 : pk ≤ 4) (c2 : ¬ 0 ≤ pn) :
    Calls Tryd.prog 13 #[.agg #[.int .i64 1, .int .i64 tx, .int .i64 ix, .int .i64 pk, .int .i64 pn, .string b, .int .i64 ct, .int .u32 sm]] w fun e w' => e = .returned (.int .i64 1) ∧ Below w.heap.size w w' := by
  have b1 : decide (1 ≤ tx) = true := by simpa using a1
  have b2 : decide (tx ≤ 4294967295) = true := by simpa using a2
  have b3 : decide (0 ≤ ix) = true := by simpa using a3
  have b4 : decide (ix ≤ 999) = true := by simpa using a4
  have d0 : decide (0 ≤ pk) = true := by simpa using c0
  have d1 : decide (pk ≤ 4) = true := by simpa using c1
  have d2 : decide (0 ≤ pn) = false := by simpa using c2
  clear c2
  go_enter Tryd.func13, Tryd.ntmps13
  go_wp2_with fail
  go_ret
  exact ⟨rfl, ((Below.refl _ _).alloc (Nat.le_refl _) _).alloc (by simp) _⟩
set_option maxHeartbeats 1000000 in
theorem rc1_s (tx ix pk pn ct sm : Int) (b : ByteArray) (w : World) (a1 : 1 ≤ tx) (a2 : tx ≤ 4294967295) (a3 : 0 ≤ ix) (a4 : ix ≤ 999) (c0 : 0 ≤ pk) (c1 : pk ≤ 4) (c2 : 0 ≤ pn) (c3 : ¬ pn ≤ 999) :
    Calls Tryd.prog 13 #[.agg #[.int .i64 1, .int .i64 tx, .int .i64 ix, .int .i64 pk, .int .i64 pn, .string b, .int .i64 ct, .int .u32 sm]] w fun e w' => e = .returned (.int .i64 1) ∧ Below w.heap.size w w' := by
  have b1 : decide (1 ≤ tx) = true := by simpa using a1
  have b2 : decide (tx ≤ 4294967295) = true := by simpa using a2
  have b3 : decide (0 ≤ ix) = true := by simpa using a3
  have b4 : decide (ix ≤ 999) = true := by simpa using a4
  have d0 : decide (0 ≤ pk) = true := by simpa using c0
  have d1 : decide (pk ≤ 4) = true := by simpa using c1
  have d2 : decide (0 ≤ pn) = true := by simpa using c2
  have d3 : decide (pn ≤ 999) = false := by simpa using c3
  clear c3
  go_enter Tryd.func13, Tryd.ntmps13
  go_wp2_with fail
  go_ret
  exact ⟨rfl, ((Below.refl _ _).alloc (Nat.le_refl _) _).alloc (by simp) _⟩
set_option maxHeartbeats 1000000 in
theorem rc1_t (tx ix pk pn ct sm : Int) (b : ByteArray) (w : World) (a1 : 1 ≤ tx) (a2 : tx ≤ 4294967295) (a3 : 0 ≤ ix) (a4 : ix ≤ 999) (c0 : 0 ≤ pk) (c1 : pk ≤ 4) (c2 : 0 ≤ pn) (c3 : pn ≤ 999) (c4 : 230 < b.size) :
    Calls Tryd.prog 13 #[.agg #[.int .i64 1, .int .i64 tx, .int .i64 ix, .int .i64 pk, .int .i64 pn, .string b, .int .i64 ct, .int .u32 sm]] w fun e w' => e = .returned (.int .i64 1) ∧ Below w.heap.size w w' := by
  have b1 : decide (1 ≤ tx) = true := by simpa using a1
  have b2 : decide (tx ≤ 4294967295) = true := by simpa using a2
  have b3 : decide (0 ≤ ix) = true := by simpa using a3
  have b4 : decide (ix ≤ 999) = true := by simpa using a4
  have d0 : decide (0 ≤ pk) = true := by simpa using c0
  have d1 : decide (pk ≤ 4) = true := by simpa using c1
  have d2 : decide (0 ≤ pn) = true := by simpa using c2
  have d3 : decide (pn ≤ 999) = true := by simpa using c3
  have d4 : decide ((b.size : Int) ≤ 230) = false := by simp; omega
  clear c4
  go_enter Tryd.func13, Tryd.ntmps13
  go_wp2_with fail
  go_ret
  exact ⟨rfl, ((Below.refl _ _).alloc (Nat.le_refl _) _).alloc (by simp) _⟩
set_option maxHeartbeats 1000000 in
theorem rc1_u (tx ix pk pn ct sm : Int) (b : ByteArray) (w : World) (a1 : 1 ≤ tx) (a2 : tx ≤ 4294967295) (a3 : 0 ≤ ix) (a4 : ix ≤ 999) (c0 : 0 ≤ pk) (c1 : pk ≤ 4) (c2 : 0 ≤ pn) (c3 : pn ≤ 999) (c4 : b.size ≤ 230) (c5 : pk = 0) (c6 : b.toList.isEmpty = false) :
    Calls Tryd.prog 13 #[.agg #[.int .i64 1, .int .i64 tx, .int .i64 ix, .int .i64 pk, .int .i64 pn, .string b, .int .i64 ct, .int .u32 sm]] w fun e w' => e = .returned (.int .i64 1) ∧ Below w.heap.size w w' := by
  have b1 : decide (1 ≤ tx) = true := by simpa using a1
  have b2 : decide (tx ≤ 4294967295) = true := by simpa using a2
  have b3 : decide (0 ≤ ix) = true := by simpa using a3
  have b4 : decide (ix ≤ 999) = true := by simpa using a4
  have d0 : decide (0 ≤ pk) = true := by simpa using c0
  have d1 : decide (pk ≤ 4) = true := by simpa using c1
  have d2 : decide (0 ≤ pn) = true := by simpa using c2
  have d3 : decide (pn ≤ 999) = true := by simpa using c3
  have d4 : decide ((b.size : Int) ≤ 230) = true := by simp; omega
  subst c5
  go_enter Tryd.func13, Tryd.ntmps13
  go_wp2_with fail
  go_ret
  exact ⟨rfl, ((Below.refl _ _).alloc (Nat.le_refl _) _).alloc (by simp) _⟩
set_option maxHeartbeats 1000000 in
theorem rc1_cta (tx ix pk pn ct sm : Int) (b : ByteArray) (w : World) (a1 : 1 ≤ tx) (a2 : tx ≤ 4294967295) (a3 : 0 ≤ ix) (a4 : ix ≤ 999) (c0 : 0 ≤ pk) (c1 : pk ≤ 4) (c2 : 0 ≤ pn) (c3 : pn ≤ 999) (c4 : b.size ≤ 230) (c5 : 0 < pk) (z : ct ≠ 0) :
    Calls Tryd.prog 13 #[.agg #[.int .i64 1, .int .i64 tx, .int .i64 ix, .int .i64 pk, .int .i64 pn, .string b, .int .i64 ct, .int .u32 sm]] w fun e w' => e = .returned (.int .i64 1) ∧ Below w.heap.size w w' := by
  have b1 : decide (1 ≤ tx) = true := by simpa using a1
  have b2 : decide (tx ≤ 4294967295) = true := by simpa using a2
  have b3 : decide (0 ≤ ix) = true := by simpa using a3
  have b4 : decide (ix ≤ 999) = true := by simpa using a4
  have d0 : decide (0 ≤ pk) = true := by simpa using c0
  have d1 : decide (pk ≤ 4) = true := by simpa using c1
  have d2 : decide (0 ≤ pn) = true := by simpa using c2
  have d3 : decide (pn ≤ 999) = true := by simpa using c3
  have d4 : decide ((b.size : Int) ≤ 230) = true := by simp; omega
  have d5 : decide (0 < pk) = true := by simpa using c5
  have e0 : (ct == 0) = false := by simpa using z
  clear z
  go_enter Tryd.func13, Tryd.ntmps13
  go_wp2_with fail
  go_ret
  exact ⟨rfl, ((Below.refl _ _).alloc (Nat.le_refl _) _).alloc (by simp) _⟩
set_option maxHeartbeats 1000000 in
theorem rc1_sma (tx ix pk pn ct sm : Int) (b : ByteArray) (w : World) (a1 : 1 ≤ tx) (a2 : tx ≤ 4294967295) (a3 : 0 ≤ ix) (a4 : ix ≤ 999) (c0 : 0 ≤ pk) (c1 : pk ≤ 4) (c2 : 0 ≤ pn) (c3 : pn ≤ 999) (c4 : b.size ≤ 230) (c5 : 0 < pk) (z : ct = 0) (y : sm ≠ 0) :
    Calls Tryd.prog 13 #[.agg #[.int .i64 1, .int .i64 tx, .int .i64 ix, .int .i64 pk, .int .i64 pn, .string b, .int .i64 ct, .int .u32 sm]] w fun e w' => e = .returned (.int .i64 1) ∧ Below w.heap.size w w' := by
  have b1 : decide (1 ≤ tx) = true := by simpa using a1
  have b2 : decide (tx ≤ 4294967295) = true := by simpa using a2
  have b3 : decide (0 ≤ ix) = true := by simpa using a3
  have b4 : decide (ix ≤ 999) = true := by simpa using a4
  have d0 : decide (0 ≤ pk) = true := by simpa using c0
  have d1 : decide (pk ≤ 4) = true := by simpa using c1
  have d2 : decide (0 ≤ pn) = true := by simpa using c2
  have d3 : decide (pn ≤ 999) = true := by simpa using c3
  have d4 : decide ((b.size : Int) ≤ 230) = true := by simp; omega
  have d5 : decide (0 < pk) = true := by simpa using c5
  subst z
  have e0 : (sm == 0) = false := by simpa using y
  clear y
  go_enter Tryd.func13, Tryd.ntmps13
  go_wp2_with fail
  go_ret
  exact ⟨rfl, ((Below.refl _ _).alloc (Nat.le_refl _) _).alloc (by simp) _⟩
set_option maxHeartbeats 1000000 in
theorem rc1_yesa (tx ix pk pn ct sm : Int) (b : ByteArray) (w : World) (a1 : 1 ≤ tx) (a2 : tx ≤ 4294967295) (a3 : 0 ≤ ix) (a4 : ix ≤ 999) (c0 : 0 ≤ pk) (c1 : pk ≤ 4) (c2 : 0 ≤ pn) (c3 : pn ≤ 999) (c4 : b.size ≤ 230) (c5 : 0 < pk) (z : ct = 0) (y : sm = 0) :
    Calls Tryd.prog 13 #[.agg #[.int .i64 1, .int .i64 tx, .int .i64 ix, .int .i64 pk, .int .i64 pn, .string b, .int .i64 ct, .int .u32 sm]] w fun e w' => e = .returned (.int .i64 0) ∧ Below w.heap.size w w' := by
  have b1 : decide (1 ≤ tx) = true := by simpa using a1
  have b2 : decide (tx ≤ 4294967295) = true := by simpa using a2
  have b3 : decide (0 ≤ ix) = true := by simpa using a3
  have b4 : decide (ix ≤ 999) = true := by simpa using a4
  have d0 : decide (0 ≤ pk) = true := by simpa using c0
  have d1 : decide (pk ≤ 4) = true := by simpa using c1
  have d2 : decide (0 ≤ pn) = true := by simpa using c2
  have d3 : decide (pn ≤ 999) = true := by simpa using c3
  have d4 : decide ((b.size : Int) ≤ 230) = true := by simp; omega
  have d5 : decide (0 < pk) = true := by simpa using c5
  subst z y
  go_enter Tryd.func13, Tryd.ntmps13
  go_wp2_with fail
  go_ret
  exact ⟨rfl, ((Below.refl _ _).alloc (Nat.le_refl _) _).alloc (by simp) _⟩
set_option maxHeartbeats 1000000 in
theorem rc1_ctb (tx ix pk pn ct sm : Int) (b : ByteArray) (w : World) (a1 : 1 ≤ tx) (a2 : tx ≤ 4294967295) (a3 : 0 ≤ ix) (a4 : ix ≤ 999) (c0 : 0 ≤ pk) (c1 : pk ≤ 4) (c2 : 0 ≤ pn) (c3 : pn ≤ 999) (c4 : b.size ≤ 230) (c5 : pk = 0) (c6 : b.toList.isEmpty = true) (z : ct ≠ 0) :
    Calls Tryd.prog 13 #[.agg #[.int .i64 1, .int .i64 tx, .int .i64 ix, .int .i64 pk, .int .i64 pn, .string b, .int .i64 ct, .int .u32 sm]] w fun e w' => e = .returned (.int .i64 1) ∧ Below w.heap.size w w' := by
  have b1 : decide (1 ≤ tx) = true := by simpa using a1
  have b2 : decide (tx ≤ 4294967295) = true := by simpa using a2
  have b3 : decide (0 ≤ ix) = true := by simpa using a3
  have b4 : decide (ix ≤ 999) = true := by simpa using a4
  have d0 : decide (0 ≤ pk) = true := by simpa using c0
  have d1 : decide (pk ≤ 4) = true := by simpa using c1
  have d2 : decide (0 ≤ pn) = true := by simpa using c2
  have d3 : decide (pn ≤ 999) = true := by simpa using c3
  have d4 : decide ((b.size : Int) ≤ 230) = true := by simp; omega
  subst c5
  have e0 : (ct == 0) = false := by simpa using z
  clear z
  go_enter Tryd.func13, Tryd.ntmps13
  go_wp2_with fail
  go_ret
  exact ⟨rfl, ((Below.refl _ _).alloc (Nat.le_refl _) _).alloc (by simp) _⟩
set_option maxHeartbeats 1000000 in
theorem rc1_smb (tx ix pk pn ct sm : Int) (b : ByteArray) (w : World) (a1 : 1 ≤ tx) (a2 : tx ≤ 4294967295) (a3 : 0 ≤ ix) (a4 : ix ≤ 999) (c0 : 0 ≤ pk) (c1 : pk ≤ 4) (c2 : 0 ≤ pn) (c3 : pn ≤ 999) (c4 : b.size ≤ 230) (c5 : pk = 0) (c6 : b.toList.isEmpty = true) (z : ct = 0) (y : sm ≠ 0) :
    Calls Tryd.prog 13 #[.agg #[.int .i64 1, .int .i64 tx, .int .i64 ix, .int .i64 pk, .int .i64 pn, .string b, .int .i64 ct, .int .u32 sm]] w fun e w' => e = .returned (.int .i64 1) ∧ Below w.heap.size w w' := by
  have b1 : decide (1 ≤ tx) = true := by simpa using a1
  have b2 : decide (tx ≤ 4294967295) = true := by simpa using a2
  have b3 : decide (0 ≤ ix) = true := by simpa using a3
  have b4 : decide (ix ≤ 999) = true := by simpa using a4
  have d0 : decide (0 ≤ pk) = true := by simpa using c0
  have d1 : decide (pk ≤ 4) = true := by simpa using c1
  have d2 : decide (0 ≤ pn) = true := by simpa using c2
  have d3 : decide (pn ≤ 999) = true := by simpa using c3
  have d4 : decide ((b.size : Int) ≤ 230) = true := by simp; omega
  subst c5
  subst z
  have e0 : (sm == 0) = false := by simpa using y
  clear y
  go_enter Tryd.func13, Tryd.ntmps13
  go_wp2_with fail
  go_ret
  exact ⟨rfl, ((Below.refl _ _).alloc (Nat.le_refl _) _).alloc (by simp) _⟩
set_option maxHeartbeats 1000000 in
theorem rc1_yesb (tx ix pk pn ct sm : Int) (b : ByteArray) (w : World) (a1 : 1 ≤ tx) (a2 : tx ≤ 4294967295) (a3 : 0 ≤ ix) (a4 : ix ≤ 999) (c0 : 0 ≤ pk) (c1 : pk ≤ 4) (c2 : 0 ≤ pn) (c3 : pn ≤ 999) (c4 : b.size ≤ 230) (c5 : pk = 0) (c6 : b.toList.isEmpty = true) (z : ct = 0) (y : sm = 0) :
    Calls Tryd.prog 13 #[.agg #[.int .i64 1, .int .i64 tx, .int .i64 ix, .int .i64 pk, .int .i64 pn, .string b, .int .i64 ct, .int .u32 sm]] w fun e w' => e = .returned (.int .i64 0) ∧ Below w.heap.size w w' := by
  have b1 : decide (1 ≤ tx) = true := by simpa using a1
  have b2 : decide (tx ≤ 4294967295) = true := by simpa using a2
  have b3 : decide (0 ≤ ix) = true := by simpa using a3
  have b4 : decide (ix ≤ 999) = true := by simpa using a4
  have d0 : decide (0 ≤ pk) = true := by simpa using c0
  have d1 : decide (pk ≤ 4) = true := by simpa using c1
  have d2 : decide (0 ≤ pn) = true := by simpa using c2
  have d3 : decide (pn ≤ 999) = true := by simpa using c3
  have d4 : decide ((b.size : Int) ≤ 230) = true := by simp; omega
  subst c5
  subst z y
  go_enter Tryd.func13, Tryd.ntmps13
  go_wp2_with fail
  go_ret
  exact ⟨rfl, ((Below.refl _ _).alloc (Nat.le_refl _) _).alloc (by simp) _⟩
set_option maxHeartbeats 1000000 in
theorem rc2_lo (tx ix pk pn ct sm : Int) (b : ByteArray) (w : World) (a1 : 1 ≤ tx) (a2 : tx ≤ 4294967295) (a3 : 0 ≤ ix) (a4 : ix ≤ 999) (z : ¬ 1 ≤ ct) :
    Calls Tryd.prog 13 #[.agg #[.int .i64 2, .int .i64 tx, .int .i64 ix, .int .i64 pk, .int .i64 pn, .string b, .int .i64 ct, .int .u32 sm]] w fun e w' => e = .returned (.int .i64 1) ∧ Below w.heap.size w w' := by
  have b1 : decide (1 ≤ tx) = true := by simpa using a1
  have b2 : decide (tx ≤ 4294967295) = true := by simpa using a2
  have b3 : decide (0 ≤ ix) = true := by simpa using a3
  have b4 : decide (ix ≤ 999) = true := by simpa using a4
  have d0 : decide (1 ≤ ct) = false := by simpa using z
  clear z
  go_enter Tryd.func13, Tryd.ntmps13
  go_wp2_with fail
  go_ret
  exact ⟨rfl, ((Below.refl _ _).alloc (Nat.le_refl _) _).alloc (by simp) _⟩
set_option maxHeartbeats 1000000 in
theorem rc2_hi (tx ix pk pn ct sm : Int) (b : ByteArray) (w : World) (a1 : 1 ≤ tx) (a2 : tx ≤ 4294967295) (a3 : 0 ≤ ix) (a4 : ix ≤ 999) (z : 1 ≤ ct) (y : ¬ ct ≤ 999) :
    Calls Tryd.prog 13 #[.agg #[.int .i64 2, .int .i64 tx, .int .i64 ix, .int .i64 pk, .int .i64 pn, .string b, .int .i64 ct, .int .u32 sm]] w fun e w' => e = .returned (.int .i64 1) ∧ Below w.heap.size w w' := by
  have b1 : decide (1 ≤ tx) = true := by simpa using a1
  have b2 : decide (tx ≤ 4294967295) = true := by simpa using a2
  have b3 : decide (0 ≤ ix) = true := by simpa using a3
  have b4 : decide (ix ≤ 999) = true := by simpa using a4
  have d0 : decide (1 ≤ ct) = true := by simpa using z
  have d1 : decide (ct ≤ 999) = false := by simpa using y
  clear y
  go_enter Tryd.func13, Tryd.ntmps13
  go_wp2_with fail
  go_ret
  exact ⟨rfl, ((Below.refl _ _).alloc (Nat.le_refl _) _).alloc (by simp) _⟩
set_option maxHeartbeats 1000000 in
theorem rc2_ix (tx ix pk pn ct sm : Int) (b : ByteArray) (w : World) (a1 : 1 ≤ tx) (a2 : tx ≤ 4294967295) (a3 : 0 ≤ ix) (a4 : ix ≤ 999) (z : 1 ≤ ct) (y : ct ≤ 999) (x : ix ≠ ct) :
    Calls Tryd.prog 13 #[.agg #[.int .i64 2, .int .i64 tx, .int .i64 ix, .int .i64 pk, .int .i64 pn, .string b, .int .i64 ct, .int .u32 sm]] w fun e w' => e = .returned (.int .i64 1) ∧ Below w.heap.size w w' := by
  have b1 : decide (1 ≤ tx) = true := by simpa using a1
  have b2 : decide (tx ≤ 4294967295) = true := by simpa using a2
  have b3 : decide (0 ≤ ix) = true := by simpa using a3
  have b4 : decide (ix ≤ 999) = true := by simpa using a4
  have d0 : decide (1 ≤ ct) = true := by simpa using z
  have d1 : decide (ct ≤ 999) = true := by simpa using y
  have d2 : (ix == ct) = false := by simpa using x
  clear x
  go_enter Tryd.func13, Tryd.ntmps13
  go_wp2_with fail
  go_ret
  exact ⟨rfl, ((Below.refl _ _).alloc (Nat.le_refl _) _).alloc (by simp) _⟩
set_option maxHeartbeats 1000000 in
theorem rc2_np (tx ix pk pn ct sm : Int) (b : ByteArray) (w : World) (a1 : 1 ≤ tx) (a2 : tx ≤ 4294967295) (a3 : 0 ≤ ix) (a4 : ix ≤ 999) (z : 1 ≤ ct) (y : ct ≤ 999) (x : ix = ct) (h : noP pk pn b = false) :
    Calls Tryd.prog 13 #[.agg #[.int .i64 2, .int .i64 tx, .int .i64 ix, .int .i64 pk, .int .i64 pn, .string b, .int .i64 ct, .int .u32 sm]] w fun e w' => e = .returned (.int .i64 1) ∧ Below w.heap.size w w' := by
  have b1 : decide (1 ≤ tx) = true := by simpa using a1
  have b2 : decide (tx ≤ 4294967295) = true := by simpa using a2
  have b3 : decide (0 ≤ ix) = true := by simpa using a3
  have b4 : decide (ix ≤ 999) = true := by simpa using a4
  have d0 : decide (1 ≤ ct) = true := by simpa using z
  have d1 : decide (ct ≤ 999) = true := by simpa using y
  subst x
  have heq := eq23
  have hp : pageB pk pn 0 0 b ⟨#[]⟩ = false := h
  clear h
  go_enter Tryd.func13, Tryd.ntmps13
  go_wp2_with fail
  go_ret
  exact ⟨rfl, ((Below.refl _ _).alloc (Nat.le_refl _) _).alloc (by simp) _⟩
set_option maxHeartbeats 1000000 in
theorem rc2_yes (tx ix pk pn ct sm : Int) (b : ByteArray) (w : World) (a1 : 1 ≤ tx) (a2 : tx ≤ 4294967295) (a3 : 0 ≤ ix) (a4 : ix ≤ 999) (z : 1 ≤ ct) (y : ct ≤ 999) (x : ix = ct) (h : noP pk pn b = true) :
    Calls Tryd.prog 13 #[.agg #[.int .i64 2, .int .i64 tx, .int .i64 ix, .int .i64 pk, .int .i64 pn, .string b, .int .i64 ct, .int .u32 sm]] w fun e w' => e = .returned (.int .i64 0) ∧ Below w.heap.size w w' := by
  have b1 : decide (1 ≤ tx) = true := by simpa using a1
  have b2 : decide (tx ≤ 4294967295) = true := by simpa using a2
  have b3 : decide (0 ≤ ix) = true := by simpa using a3
  have b4 : decide (ix ≤ 999) = true := by simpa using a4
  have d0 : decide (1 ≤ ct) = true := by simpa using z
  have d1 : decide (ct ≤ 999) = true := by simpa using y
  subst x
  have heq := eq23
  have hp : pageB pk pn 0 0 b ⟨#[]⟩ = true := h
  clear h
  go_enter Tryd.func13, Tryd.ntmps13
  go_wp2_with fail
  go_ret
  exact ⟨rfl, ((Below.refl _ _).alloc (Nat.le_refl _) _).alloc (by simp) _⟩
set_option maxHeartbeats 1000000 in
theorem rc3_np (tx ix pk pn ct sm : Int) (b : ByteArray) (w : World) (a1 : 1 ≤ tx) (a2 : tx ≤ 4294967295) (a3 : 0 ≤ ix) (a4 : ix ≤ 999) (h : noP pk pn b = false) :
    Calls Tryd.prog 13 #[.agg #[.int .i64 3, .int .i64 tx, .int .i64 ix, .int .i64 pk, .int .i64 pn, .string b, .int .i64 ct, .int .u32 sm]] w fun e w' => e = .returned (.int .i64 1) ∧ Below w.heap.size w w' := by
  have b1 : decide (1 ≤ tx) = true := by simpa using a1
  have b2 : decide (tx ≤ 4294967295) = true := by simpa using a2
  have b3 : decide (0 ≤ ix) = true := by simpa using a3
  have b4 : decide (ix ≤ 999) = true := by simpa using a4
  have heq := eq23
  have hp : pageB pk pn 0 0 b ⟨#[]⟩ = false := h
  clear h
  go_enter Tryd.func13, Tryd.ntmps13
  go_wp2_with fail
  go_ret
  exact ⟨rfl, ((Below.refl _ _).alloc (Nat.le_refl _) _).alloc (by simp) _⟩
set_option maxHeartbeats 1000000 in
theorem rc3_ct (tx ix pk pn ct sm : Int) (b : ByteArray) (w : World) (a1 : 1 ≤ tx) (a2 : tx ≤ 4294967295) (a3 : 0 ≤ ix) (a4 : ix ≤ 999) (h : noP pk pn b = true) (z : ct ≠ 0) :
    Calls Tryd.prog 13 #[.agg #[.int .i64 3, .int .i64 tx, .int .i64 ix, .int .i64 pk, .int .i64 pn, .string b, .int .i64 ct, .int .u32 sm]] w fun e w' => e = .returned (.int .i64 1) ∧ Below w.heap.size w w' := by
  have b1 : decide (1 ≤ tx) = true := by simpa using a1
  have b2 : decide (tx ≤ 4294967295) = true := by simpa using a2
  have b3 : decide (0 ≤ ix) = true := by simpa using a3
  have b4 : decide (ix ≤ 999) = true := by simpa using a4
  have heq := eq23
  have hp : pageB pk pn 0 0 b ⟨#[]⟩ = true := h
  clear h
  have e0 : (ct == 0) = false := by simpa using z
  clear z
  go_enter Tryd.func13, Tryd.ntmps13
  go_wp2_with fail
  go_ret
  exact ⟨rfl, ((Below.refl _ _).alloc (Nat.le_refl _) _).alloc (by simp) _⟩
set_option maxHeartbeats 1000000 in
theorem rc3_sm (tx ix pk pn ct sm : Int) (b : ByteArray) (w : World) (a1 : 1 ≤ tx) (a2 : tx ≤ 4294967295) (a3 : 0 ≤ ix) (a4 : ix ≤ 999) (h : noP pk pn b = true) (z : ct = 0) (y : sm ≠ 0) :
    Calls Tryd.prog 13 #[.agg #[.int .i64 3, .int .i64 tx, .int .i64 ix, .int .i64 pk, .int .i64 pn, .string b, .int .i64 ct, .int .u32 sm]] w fun e w' => e = .returned (.int .i64 1) ∧ Below w.heap.size w w' := by
  have b1 : decide (1 ≤ tx) = true := by simpa using a1
  have b2 : decide (tx ≤ 4294967295) = true := by simpa using a2
  have b3 : decide (0 ≤ ix) = true := by simpa using a3
  have b4 : decide (ix ≤ 999) = true := by simpa using a4
  have heq := eq23
  have hp : pageB pk pn 0 0 b ⟨#[]⟩ = true := h
  clear h
  subst z
  have e0 : (sm == 0) = false := by simpa using y
  clear y
  go_enter Tryd.func13, Tryd.ntmps13
  go_wp2_with fail
  go_ret
  exact ⟨rfl, ((Below.refl _ _).alloc (Nat.le_refl _) _).alloc (by simp) _⟩
set_option maxHeartbeats 1000000 in
theorem rc3_yes (tx ix pk pn ct sm : Int) (b : ByteArray) (w : World) (a1 : 1 ≤ tx) (a2 : tx ≤ 4294967295) (a3 : 0 ≤ ix) (a4 : ix ≤ 999) (h : noP pk pn b = true) (z : ct = 0) (y : sm = 0) :
    Calls Tryd.prog 13 #[.agg #[.int .i64 3, .int .i64 tx, .int .i64 ix, .int .i64 pk, .int .i64 pn, .string b, .int .i64 ct, .int .u32 sm]] w fun e w' => e = .returned (.int .i64 0) ∧ Below w.heap.size w w' := by
  have b1 : decide (1 ≤ tx) = true := by simpa using a1
  have b2 : decide (tx ≤ 4294967295) = true := by simpa using a2
  have b3 : decide (0 ≤ ix) = true := by simpa using a3
  have b4 : decide (ix ≤ 999) = true := by simpa using a4
  have heq := eq23
  have hp : pageB pk pn 0 0 b ⟨#[]⟩ = true := h
  clear h
  subst z y
  go_enter Tryd.func13, Tryd.ntmps13
  go_wp2_with fail
  go_ret
  exact ⟨rfl, ((Below.refl _ _).alloc (Nat.le_refl _) _).alloc (by simp) _⟩
end Go.Proofs.YtigaddpjmgncmaaDoor.En
