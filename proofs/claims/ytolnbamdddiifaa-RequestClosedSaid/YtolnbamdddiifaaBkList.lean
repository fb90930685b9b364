/- Lists: the same, few, rising, copied; of both sides. -/
import Derived.Test.YtolnbamdddiifaaBkOwn
namespace Go.Proofs.Ytolnbamdddiifaa.Bk
open Go.RowKit
open Go.Lib (hid)
open Go.Proofs.Ytolnbamdddiifaa.Ky

theorem text_ne {t u : ByteArray} (h : t ≠ u) : (t.toList == u.toList) = false := by
  rw [ByteArray.toList_eq, ByteArray.toList_eq]
  simp only [beq_eq_false_iff_ne]
  intro e
  exact h (ByteArray.ext (Array.ext' e))
theorem take_same {L M : List Rec} {k : Nat} (hl : k < L.length) (hm : k < M.length) (h : L.take k = M.take k) (h1 : L[k].1 = M[k].1) (h2 : L[k].2 = M[k].2) : L.take (k + 1) = M.take (k + 1) := by
  rw [List.take_succ_eq_append_getElem hl, List.take_succ_eq_append_getElem hm, h, show L[k] = M[k] from Prod.ext h1 h2]
theorem take_ne {L M : List Rec} {k : Nat} (hl : k < L.length) (hm : k < M.length) (h : ¬ (L[k].1 = M[k].1 ∧ L[k].2 = M[k].2)) : L ≠ M := by
  intro e; subst e; exact h ⟨rfl, rfl⟩
/-- are there few? (as the laws ask) -/
def fewB (L : List Rec) : Bool := decide (L.length ≤ 60) && L.all fun r => decide (r.1.length ≤ 20) && decide (r.2.size ≤ 100)
theorem fewB_iff {L : List Rec} : fewB L = true ↔ fewR L := by
  unfold fewB fewR; simp
set_option maxRecDepth 100000 in
set_option maxHeartbeats 2000000 in
theorem few_ok {D : Nat → Prop} (L : List Rec) (p : Option Addr) (c : Nat) (w : World) (hp : Rs D w p L) (hl : L.length ≤ 9223372036854775807) :
    Calls Try.prog 14 #[.slice p L.length c] w fun e w' => e = .returned (.bool (fewB L)) ∧ w = w' := by
  have HP := hid hp; clear hp
  by_cases h60 : L.length ≤ 60
  · have e1 : decide ((60 : Int) < (L.length : Int)) = false := by simp; omega
    have HF : Hid (fewB L = L.all fun r => decide (r.1.length ≤ 20) && decide (r.2.size ≤ 100)) := hid (by simp [fewB, h60])
    go_enter Try.func14, Try.ntmps14
    go_wp2_with fail
    clear e1
    go_loopw [3] (fun i wr => ∃ k : Nat, k ≤ L.length ∧ i = .int .i64 k ∧ ((L.take k).all fun r => decide (r.1.length ≤ 20) && decide (r.2.size ≤ 100)) = true ∧ wr = w) (fun i _ => L.length - (intOf i).toNat)
    case atStart => exact ⟨0, by omega, rfl, rfl, rfl⟩
    case round =>
      obtain ⟨k, hk, rfl, hs, rfl⟩ := hrel
      have HS := hid hs; clear hs
      by_cases hlt : k < L.length
      · obtain ⟨b, off, q, c', rfl, _, d1, d2, _⟩ := HP.out.at k hlt
        have HN := hid fun (h : (decide (L[k].1.length ≤ 20) && decide (L[k].2.size ≤ 100)) = true) => (show ((L.take (k + 1)).all fun r => decide (r.1.length ≤ 20) && decide (r.2.size ≤ 100)) = true by rw [List.take_succ_eq_append_getElem hlt, List.all_append, HS.out]; simpa using h)
        have HX := hid fun (h : (decide (L[k].1.length ≤ 20) && decide (L[k].2.size ≤ 100)) = false) => (show fewB L = false by rw [HF.out, List.all_eq_false]; exact ⟨L[k], List.getElem_mem hlt, by simpa using h⟩)
        generalize L[k].1.length = x at d1 HN HX
        generalize L[k].2 = t at d2 HN HX
        by_cases h1 : x ≤ 20
        · have e2 : decide ((20 : Int) < (x : Int)) = false := by simp; omega
          by_cases h2 : t.size ≤ 100
          · have e3 : decide ((100 : Int) < (t.size : Int)) = false := by simp; omega
            have HM := hid (HN.out (by simp [h1, h2]))
            clear h1 h2
            go_wp2_with fail
            go_roundw
            case rel => exact ⟨k + 1, by omega, by go_num, HM.out, trivial⟩
            case measure => simp [intOf]; omega
          · have e3 : decide ((100 : Int) < (t.size : Int)) = true := by simp; omega
            have HM := hid (HX.out (by simp [h2]))
            clear h1 h2
            go_wp2_with fail
            go_ret
            rw [HM.out]
            exact ⟨rfl, rfl⟩
        · have e2 : decide ((20 : Int) < (x : Int)) = true := by simp; omega
          have HM := hid (HX.out (by simp [h1]))
          clear h1
          go_wp2_with fail
          go_ret
          rw [HM.out]
          exact ⟨rfl, rfl⟩
      · obtain rfl : k = L.length := by omega
        have HM : Hid (fewB L = true) := hid (by have := HS.out; rw [List.take_length] at this; rw [HF.out, this])
        go_wp2_with fail
        go_ret
        rw [HM.out]
        exact ⟨rfl, rfl⟩
  · have e1 : decide ((60 : Int) < (L.length : Int)) = true := by simp; omega
    have HF : Hid (fewB L = false) := hid (by simp [fewB, h60])
    clear h60
    go_enter Try.func14, Try.ntmps14
    go_wp2_with fail
    go_ret
    rw [HF.out]
    exact ⟨rfl, rfl⟩
end Go.Proofs.Ytolnbamdddiifaa.Bk
