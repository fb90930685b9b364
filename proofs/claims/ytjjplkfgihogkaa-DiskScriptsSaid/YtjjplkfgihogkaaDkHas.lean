/- The reference's has: is a number one of some? -/
import Derived.Test.YtjjplkfgihogkaaDkSame
namespace Go.Proofs.Ytjjplkfgihogkaa.Dk
open Go.RowKit
open Go.Lib (hid)

set_option maxRecDepth 100000 in
set_option maxHeartbeats 1000000 in
theorem refHas_ok (l : List Int) (p : Option Addr) (c : Nat) (n : Int) (w : World) (hp : CellsAt w p (iv l)) (hl : l.length ≤ 1000000) :
    Calls Try.prog 36 #[.slice p l.length c, .int .i64 n] w fun e w' => e = .returned (.bool (decide (n ∈ l))) ∧ w = w' := by
  have HP := hid hp; clear hp
  go_enter Try.func36, Try.ntmps36
  go_wp2_with fail
  go_loopw [5] (fun i wr => ∃ k : Nat, k ≤ l.length ∧ i = .int .i64 k ∧ n ∉ l.take k ∧ wr = w) (fun i _ => l.length - (intOf i).toNat)
  case atStart => exact ⟨0, by omega, rfl, fun h => (List.not_mem_nil h).elim, rfl⟩
  case round =>
    obtain ⟨k, hk, rfl, hno, rfl⟩ := hrel
    have HNO := hid hno; clear hno
    by_cases hlt : k < l.length
    · obtain ⟨b, o, rfl, c1⟩ := HP.out k (by rw [iv_length]; exact hlt)
      have d1 : wr.cell? ⟨b, o + k, none⟩ = some (.int .i64 l[k]) := by have := c1; simp [iv] at this; exact this
      clear c1
      by_cases he : l[k] = n
      · have HN : Hid (decide (n ∈ l) = true) := hid (by simp; rw [← he]; exact List.getElem_mem hlt)
        rw [he] at d1
        clear he
        go_wp2_with fail
        go_ret
        rw [HN.out]
        exact ⟨rfl, rfl⟩
      · have HM : Hid (n ∉ l.take (k + 1)) := hid (by
          rw [List.take_succ_eq_append_getElem hlt, List.mem_append, List.mem_singleton]
          rintro (h | h)
          · exact HNO.out h
          · exact he h.symm)
        generalize l[k] = t at d1 he
        have e2 : (t == n) = false := by simpa using he
        clear he
        go_wp2_with fail
        go_roundw
        case rel => exact ⟨k + 1, by omega, by go_num, HM.out, trivial⟩
        case measure => simp [intOf]; omega
    · obtain rfl : k = l.length := by omega
      have HE : Hid (decide (n ∈ l) = false) := hid (by
        have := HNO.out
        rw [List.take_length] at this
        simpa using this)
      go_wp2_with fail
      go_ret
      rw [HE.out]
      exact ⟨rfl, rfl⟩
end Go.Proofs.Ytjjplkfgihogkaa.Dk
