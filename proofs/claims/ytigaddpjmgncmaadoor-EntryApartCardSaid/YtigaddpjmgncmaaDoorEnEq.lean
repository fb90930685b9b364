/- Equality of two entries, as the program asks it. -/
import Derived.Test.YtigaddpjmgncmaaDoorEnLive
namespace Go.Proofs.YtigaddpjmgncmaaDoor.En
open Go.RowKit
open Go.Lib (hid)

theorem eqp (n : Nat) (a b a' b' : Int) (c c' : ByteArray) (w : World) :
    (Op.equalIn (n + 2) 23 (.agg #[.int .i64 a, .int .i64 b, .string c]) (.agg #[.int .i64 a', .int .i64 b', .string c'])).run Tryd.prog w = .ok (pageB a b a' b' c c') w := by
  have ht : Tryd.prog.underlying 23 = some (.struct (Tryd.prog.fieldsOf 23)) := by kernel_rfl
  have hp : Tryd.prog.stoodInHeld 23 = false := by kernel_rfl
  rw [show n + 2 = (n + 1) + 1 from rfl, run_equalIn_struct _ _ _ _ _ ht hp]
  simp only [Program.fieldsOf, Tryd.underlying23]
  unfold pageB
  by_cases h1 : a = a'
  · by_cases h2 : b = b'
    · by_cases h3 : c.toList = c'.toList <;> simp [Op.eqFields, go_sem, h1, h2, h3]
    · simp [Op.eqFields, go_sem, h1, h2]
  · simp [Op.eqFields, go_sem, h1]
theorem eqe (kd tx ix pk pn : Int) (b : ByteArray) (ct sm kd' tx' ix' pk' pn' : Int) (b' : ByteArray) (ct' sm' : Int) (w : World) :
    (Op.equalIn 10000 32 (.agg (entC kd tx ix pk pn b ct sm)) (.agg (entC kd' tx' ix' pk' pn' b' ct' sm'))).run Tryd.prog w = .ok (entB kd tx ix pk pn b ct sm kd' tx' ix' pk' pn' b' ct' sm') w := by
  have ht : Tryd.prog.underlying 32 = some (.struct (Tryd.prog.fieldsOf 32)) := by kernel_rfl
  have hp : Tryd.prog.stoodInHeld 32 = false := by kernel_rfl
  have HQ := fun (w : World) => eqp 9997 pk pn pk' pn' b b' w
  rw [show (10000 : Nat) = 9999 + 1 from rfl, run_equalIn_struct _ _ _ _ _ ht hp]
  simp only [Program.fieldsOf, Tryd.underlying32]
  unfold entB
  generalize pageB pk pn pk' pn' b b' = q at *
  by_cases h1 : kd = kd'
  · by_cases h2 : tx = tx'
    · by_cases h3 : ix = ix'
      · cases q with
        | false => simp [Op.eqFields, go_sem, h1, h2, h3, HQ]
        | true =>
          by_cases h5 : ct = ct'
          · by_cases h6 : sm = sm' <;> simp [Op.eqFields, go_sem, h1, h2, h3, HQ, h5, h6]
          · simp [Op.eqFields, go_sem, h1, h2, h3, HQ, h5]
      · simp [Op.eqFields, go_sem, h1, h2, h3]
    · simp [Op.eqFields, go_sem, h1, h2]
  · simp [Op.eqFields, go_sem, h1]
theorem eqr (kd tx ix pk pn : Int) (b : ByteArray) (ct sm kd' tx' ix' pk' pn' : Int) (b' : ByteArray) (ct' sm' : Int) (w : World) :
    (Op.equalIn 10000 26 (.agg (entC kd tx ix pk pn b ct sm)) (.agg (entC kd' tx' ix' pk' pn' b' ct' sm'))).run Tryd.prog w = .ok (entB kd tx ix pk pn b ct sm kd' tx' ix' pk' pn' b' ct' sm') w := by
  have ht : Tryd.prog.underlying 26 = some (.struct (Tryd.prog.fieldsOf 26)) := by kernel_rfl
  have hp : Tryd.prog.stoodInHeld 26 = false := by kernel_rfl
  have HQ := fun (w : World) => eqp 9997 pk pn pk' pn' b b' w
  rw [show (10000 : Nat) = 9999 + 1 from rfl, run_equalIn_struct _ _ _ _ _ ht hp]
  simp only [Program.fieldsOf, Tryd.underlying26]
  unfold entB
  generalize pageB pk pn pk' pn' b b' = q at *
  by_cases h1 : kd = kd'
  · by_cases h2 : tx = tx'
    · by_cases h3 : ix = ix'
      · cases q with
        | false => simp [Op.eqFields, go_sem, h1, h2, h3, HQ]
        | true =>
          by_cases h5 : ct = ct'
          · by_cases h6 : sm = sm' <;> simp [Op.eqFields, go_sem, h1, h2, h3, HQ, h5, h6]
          · simp [Op.eqFields, go_sem, h1, h2, h3, HQ, h5]
      · simp [Op.eqFields, go_sem, h1, h2, h3]
    · simp [Op.eqFields, go_sem, h1, h2]
  · simp [Op.eqFields, go_sem, h1]
theorem eql32 (kd tx ix pk pn : Int) (b : ByteArray) (ct sm kd' tx' ix' pk' pn' : Int) (b' : ByteArray) (ct' sm' : Int) (w : World) :
    (binOp .eql 32 (.agg (entC kd tx ix pk pn b ct sm)) (.agg (entC kd' tx' ix' pk' pn' b' ct' sm'))).run Tryd.prog w = .ok (.bool (entB kd tx ix pk pn b ct sm kd' tx' ix' pk' pn' b' ct' sm')) w := by
  rw [run_eql_struct, eqe]; rfl
theorem neq32 (kd tx ix pk pn : Int) (b : ByteArray) (ct sm kd' tx' ix' pk' pn' : Int) (b' : ByteArray) (ct' sm' : Int) (w : World) :
    (binOp .neq 32 (.agg (entC kd tx ix pk pn b ct sm)) (.agg (entC kd' tx' ix' pk' pn' b' ct' sm'))).run Tryd.prog w = .ok (.bool (!entB kd tx ix pk pn b ct sm kd' tx' ix' pk' pn' b' ct' sm')) w := by
  rw [run_neq_struct, eqe]; rfl
theorem eql26 (kd tx ix pk pn : Int) (b : ByteArray) (ct sm kd' tx' ix' pk' pn' : Int) (b' : ByteArray) (ct' sm' : Int) (w : World) :
    (binOp .eql 26 (.agg (entC kd tx ix pk pn b ct sm)) (.agg (entC kd' tx' ix' pk' pn' b' ct' sm'))).run Tryd.prog w = .ok (.bool (entB kd tx ix pk pn b ct sm kd' tx' ix' pk' pn' b' ct' sm')) w := by
  rw [run_eql_struct, eqr]; rfl
theorem neq26 (kd tx ix pk pn : Int) (b : ByteArray) (ct sm kd' tx' ix' pk' pn' : Int) (b' : ByteArray) (ct' sm' : Int) (w : World) :
    (binOp .neq 26 (.agg (entC kd tx ix pk pn b ct sm)) (.agg (entC kd' tx' ix' pk' pn' b' ct' sm'))).run Tryd.prog w = .ok (.bool (!entB kd tx ix pk pn b ct sm kd' tx' ix' pk' pn' b' ct' sm')) w := by
  rw [run_neq_struct, eqr]; rfl
theorem entB_self (kd tx ix pk pn : Int) (b : ByteArray) (ct sm : Int) : entB kd tx ix pk pn b ct sm kd tx ix pk pn b ct sm = true := by
  simp [entB, pageB]
end Go.Proofs.YtigaddpjmgncmaaDoor.En
