/- A number of an area, or none; the closure that read asks. -/
import Derived.Test.YtigaddpjmgncmaaDoorEnAny
namespace Go.Proofs.YtigaddpjmgncmaaDoor.En
open Go.RowKit
open Go.Lib (hid)
open Go.Proofs.YtigaddpjmgncmaaDoor.Fd (Area Row be be_length num getAt putAt num_lt getAt_length isRange)

/-- a number, where the area has it -/
def getOr (l : List UInt8) (o wd : Nat) : Nat := if o + wd ≤ l.length then num (getAt l o wd) else 0
theorem getOr_lt (l : List UInt8) (o wd : Nat) (h : wd ≤ 4) : getOr l o wd < 4294967296 := by
  unfold getOr
  split
  · rename_i hl
    have h1 := num_lt (getAt l o wd)
    rw [getAt_length l o wd hl] at h1
    exact Nat.lt_of_lt_of_le h1 (Nat.pow_le_pow_right (by decide) h)
  · decide
theorem get_any (A B : Nat) (l : List UInt8) (o wd : Nat) (w : World) (ha : Area 73 w A B l) (hw : wd = 1 ∨ wd = 2 ∨ wd = 4) (ho : o ≤ 1000000) :
    Calls Tryd.prog 40 #[.pointer (some ⟨A, 0, none⟩), .int .i64 (o : Int), .int .i64 (wd : Int)] w fun e w' => (∃ x : Int, e = .returned (.tuple #[.int .u32 (getOr l o wd : Int), .int .i64 x])) ∧ w = w' := by
  unfold getOr
  by_cases h : o + wd ≤ l.length
  · rw [if_pos h]
    exact (Fd.get_ok A B l o wd w ha hw h).mono fun e w' ⟨h1, h2⟩ => ⟨⟨0, h1⟩, h2⟩
  · rw [if_neg h]
    exact (Fd.get_bad _ o wd w (Fd.number_no A B l o wd w ha (by unfold isRange; omega) (by omega) (by omega))).mono fun e w' ⟨h1, h2⟩ => ⟨⟨1, h1⟩, h2⟩
set_option maxRecDepth 100000 in
set_option maxHeartbeats 1000000 in
theorem read1_ok (A B G : Nat) (l : List UInt8) (o wd : Nat) (w : World) (ha : Area 73 w A B l) (hG : w.cell? ⟨G, 0, none⟩ = some (.pointer (some ⟨A, 0, none⟩))) (hw : wd = 1 ∨ wd = 2 ∨ wd = 4) (ho : o ≤ 1000000) (o' wd' : Int) (e1 : o' = o) (e2 : wd' = wd) :
    Calls Tryd.prog 39 #[.int .i64 o', .int .i64 wd', .pointer (some ⟨G, 0, none⟩)] w fun e w' => e = .returned (.int .i64 (getOr l o wd : Int)) ∧ w = w' := by
  subst e1 e2
  have HG := hid (get_any A B l o wd w ha hw ho)
  have hlt := getOr_lt l o wd (by omega)
  generalize getOr l o wd = x at *
  clear ha hw
  go_enter Tryd.func39, Tryd.ntmps39
  go_wp2_with fail
  refine HG.out.mono ?_
  rintro e w1 ⟨⟨y, rfl⟩, rfl⟩
  go_wp2_with fail
  go_ret
  exact ⟨rfl, rfl⟩
end Go.Proofs.YtigaddpjmgncmaaDoor.En
