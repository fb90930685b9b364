/- Left of free. -/
import Derived.Test.YtefnofipcjjfpaaFrOnes
namespace Go.Proofs.Ytefnofipcjjfpaa.Fr
open Go.RowKit
open Go.Lib (hid)

theorem pop_of_word (B : List Bool) (k : Nat) : Lib.popAux 64 (word B k) = ones (fun j => bitAt B (64 * k + j)) 64 := pop_word _ 64 64 (Nat.le_refl _)
/-- how many pages are free -/
def leftN (B : List Bool) : Nat := B.length - ones (bitAt B) B.length
theorem ones_out (B : List Bool) (m : Nat) : ones (bitAt B) (B.length + m) = ones (bitAt B) B.length := by
  rw [ones_add]
  have : ones (fun j => bitAt B (B.length + j)) m = 0 := by
    induction m with
    | zero => rfl
    | succ m ih => simp only [ones]; rw [ih, bitAt_out _ _ (by omega)]; rfl
  omega
theorem ones_all (B : List Bool) : ones (bitAt B) (64 * nw B) = ones (bitAt B) B.length := by
  have h : B.length ≤ 64 * nw B := by unfold nw; omega
  obtain ⟨m, hm⟩ : ∃ m, 64 * nw B = B.length + m := ⟨64 * nw B - B.length, by omega⟩
  rw [hm, ones_out]
theorem ones_word (B : List Bool) (k : Nat) : ones (bitAt B) (64 * (k + 1)) = ones (bitAt B) (64 * k) + ones (fun j => bitAt B (64 * k + j)) 64 := by
  rw [show 64 * (k + 1) = 64 * k + 64 by omega, ones_add]
set_option maxRecDepth 100000 in
set_option maxHeartbeats 1000000 in
theorem left_ok (d : Ptrs) (B : List Bool) (w : World) (h : Mp w d B) :
    Calls Try.prog 19 #[.pointer (some ⟨d.M, 0, none⟩)] w fun e w' => e = .returned (.int .i64 (leftN B : Int)) ∧ w = w' := by
  have c := h.cells
  have h2 := h.n2
  have hw : nw B ≤ 16 := by unfold nw; omega
  have HW : Hid (∀ i, i < nw B → w.cell? ⟨d.W, i, none⟩ = some (.int .u64 (word B i : Int))) := hid fun i hi => h.word i hi
  clear h
  go_enter Try.func19, Try.ntmps19
  go_wp2_with fail
  go_loopw [3, 17] (fun l i wr => ∃ k : Nat, k ≤ nw B ∧ i = .int .i64 k ∧ l = .int .i64 ((B.length : Int) - (ones (bitAt B) (64 * k) : Int)) ∧ wr = w) (fun _ i _ => nw B - (intOf i).toNat)
  case atStart => exact ⟨0, by omega, rfl, by simp [ones], rfl⟩
  case round =>
    obtain ⟨k, hk, rfl, rfl, rfl⟩ := hrel
    have hon := ones_le (bitAt B) (64 * k)
    by_cases hlt : k < nw B
    · have cw := HW.out k hlt
      have hx := word_lt B k
      have hp := pop_of_word B k
      have ho := ones_word B k
      have hl := ones_le (fun j => bitAt B (64 * k + j)) 64
      generalize word B k = x at cw hx hp
      generalize ones (fun j => bitAt B (64 * k + j)) 64 = n at hp ho hl
      have HP := hid hp; have HX := hid hx; have HO := hid ho; clear hp hx ho
      generalize ones (bitAt B) (64 * k) = m at hon HO ⊢
      have HC := hid (ones_ok x n wr HX.out HP.out)
      clear HP HX
      go_wp2_with (go_at_call 29; refine HC.out.mono ?_; rintro e w' ⟨rfl, rfl⟩)
      go_roundw
      case rel => exact ⟨k + 1, by omega, by go_num, by rw [HO.out]; congr 1; omega, trivial⟩
      case measure => simp [intOf]; omega
    · obtain rfl : k = nw B := by omega
      have HE : Hid ((B.length : Int) - (ones (bitAt B) (64 * nw B) : Int) = (leftN B : Int)) := hid (by
        rw [ones_all]; unfold leftN; have := ones_le (bitAt B) B.length; omega)
      generalize (B.length : Int) - (ones (bitAt B) (64 * nw B) : Int) = z at HE ⊢
      go_wp2_with fail
      go_ret
      exact ⟨by rw [← HE.out]; rfl, rfl⟩
set_option maxHeartbeats 400000 in
theorem left_nil (w : World) :
    Calls Try.prog 19 #[.pointer none] w fun e w' => e = .returned (.int .i64 0) ∧ w = w' := by
  go_enter Try.func19, Try.ntmps19
  go_wp2_with fail
  go_ret
  exact ⟨rfl, rfl⟩
end Go.Proofs.Ytefnofipcjjfpaa.Fr
