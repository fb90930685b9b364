/- The reference's number in bytes. -/
import Derived.Test.YtkjcbfdplhcjpaaBkEnc2
namespace Go.Proofs.Ytkjcbfdplhcjpaa.Bk
open Go.RowKit
open Go.Lib (hid)
open Go.Proofs.Ytkjcbfdplhcjpaa.Fd (Area Row Upd rowOf be be_length be_at beB num getAt back_run)

theorem row_back (l : List UInt8) (w : World) (n : Nat) (hn : l.length = n) :
    (convert 136 9 (.slice (some ⟨w.heap.size, 0, none⟩) n n)).run Try.prog (w.alloc (.cells (rowOf l) 5)) = .ok (.string ⟨l.toArray⟩) (w.alloc (.cells (rowOf l) 5)) := by
  have hr : Row (w.alloc (.cells (rowOf l) 5)) w.heap.size l := by
    unfold Row; rw [heap_alloc_new]
  have := back_run hr 0 n n (by omega)
  have e : getAt l 0 n = l := by rw [← hn]; exact Fd.getAt_all l
  rw [e] at this
  exact this
theorem be_more (m n : Nat) : be (m + 1) n = UInt8.ofNat (n / 256 ^ m) :: be m n := by
  apply List.ext_getElem?
  intro i
  cases i with
  | zero => rw [be_at _ _ _ (by omega)]; unfold beB; simp
  | succ i =>
    rw [List.getElem?_cons_succ]
    by_cases h : i < m
    · rw [be_at _ _ _ (by omega), be_at _ _ _ h]; unfold beB
      congr 3; congr 1; omega
    · rw [List.getElem?_eq_none (by rw [be_length]; omega), List.getElem?_eq_none (by rw [be_length]; omega)]
theorem one_cell (d : Nat) : (#[.int .u8 ((d : Int) % 256)] : Array Value) = rowOf [UInt8.ofNat d] := by
  unfold rowOf
  simp
theorem div_more (n k : Nat) : n / 256 ^ k / 256 = n / 256 ^ (k + 1) := by rw [Nat.pow_succ, Nat.div_div_eq_div_mul]
set_option maxHeartbeats 400000 in
theorem wide_any (n m : Nat) (w : World) (hn : n ≤ 4611686018427387904) (hm : m ≤ 8) :
    Calls Try.prog 108 #[.int .i64 (n : Int), .int .i64 (m : Int)] w fun e w' => e = .returned (.string ⟨(be m n).toArray⟩) ∧ Below w.heap.size w w' := by
  go_enter Try.func108, Try.ntmps108
  go_wp2_with fail
  go_loopw [0, 5, 6] (fun x s i wr => ∃ k d : Nat, k ≤ m ∧ d ≤ n ∧ d = n / 256 ^ k ∧ i = .int .i64 k ∧ x = .int .i64 (d : Int) ∧ s = .string ⟨(be k n).toArray⟩ ∧ Below w.heap.size w wr) (fun _ _ i _ => m - (intOf i).toNat)
  case atStart => exact ⟨0, n, by omega, by omega, by simp, rfl, rfl, rfl, Below.refl _ _⟩
  case round =>
    obtain ⟨k, d, hk, hd, hdv, rfl, rfl, rfl, hB⟩ := hrel
    have HB := hid hB; clear hB
    have HD := hid hdv; clear hdv
    by_cases hlt : k < m
    · have hb := row_back [UInt8.ofNat d] wr 1 rfl
      rw [← one_cell] at hb
      have hlen : (be k n).length ≤ 8 := by rw [be_length]; omega
      go_wp2_with fail
      go_roundw
      case rel =>
        refine ⟨k + 1, d / 256, by omega, by omega, by rw [HD.out, div_more], by go_num, by simp, ?_, HB.out.alloc HB.out.size _⟩
        rw [be_more, ← HD.out]
        rfl
      case measure => simp [intOf]; omega
    · obtain rfl : k = m := by omega
      go_wp2_with fail
      go_ret
      exact ⟨rfl, HB.out⟩
end Go.Proofs.Ytkjcbfdplhcjpaa.Bk
