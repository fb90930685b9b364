/- Lists: the same, few, rising, copied; of both sides. -/
import Derived.Test.YtmniaaledplhfaaBkOwn
namespace Go.Proofs.Ytmniaaledplhfaa.Bk
open Go.RowKit
open Go.Lib (hid)
open Go.Proofs.Ytmniaaledplhfaa.Ky

theorem text_ne {t u : ByteArray} (h : t ≠ u) : (t.toList == u.toList) = false := by
  rw [ByteArray.toList_eq, ByteArray.toList_eq]
  simp only [beq_eq_false_iff_ne]
  intro e
  exact h (ByteArray.ext (Array.ext' e))
theorem take_same {L M : List Rec} {k : Nat} (hl : k < L.length) (hm : k < M.length) (h : L.take k = M.take k) (h1 : L[k].1 = M[k].1) (h2 : L[k].2 = M[k].2) : L.take (k + 1) = M.take (k + 1) := by
  rw [List.take_succ_eq_append_getElem hl, List.take_succ_eq_append_getElem hm, h, show L[k] = M[k] from Prod.ext h1 h2]
theorem take_ne {L M : List Rec} {k : Nat} (hl : k < L.length) (hm : k < M.length) (h : ¬ (L[k].1 = M[k].1 ∧ L[k].2 = M[k].2)) : L ≠ M := by
  intro e; subst e; exact h ⟨rfl, rfl⟩
set_option maxRecDepth 100000 in
set_option maxHeartbeats 2000000 in
theorem sameR_ok {D D' : Nat → Prop} (L M : List Rec) (p q : Option Addr) (c c' : Nat) (w : World) (hp : Rs D w p L) (hq : Rs D' w q M) (hl : bigR L) :
    Calls Try.prog 21 #[.slice p L.length c, .slice q M.length c'] w fun e w' => e = .returned (.bool (decide (L = M))) ∧ ∃ n, w' = w.drewN n := by
  have HP := hid hp; have HQ := hid hq; have HL := hid hl; have hlen0 := hl.1; clear hp hq hl
  by_cases hlen : L.length = M.length
  · have e1 : ((L.length : Int) != (M.length : Int)) = false := by simp [hlen]
    have HLEN := hid hlen
    clear hlen
    go_enter Try.func21, Try.ntmps21
    go_wp2_with fail
    clear e1
    go_loopw [5] (fun i wr => ∃ k : Nat, k ≤ L.length ∧ i = .int .i64 k ∧ L.take k = M.take k ∧ ∃ n, wr = w.drewN n) (fun i _ => L.length - (intOf i).toNat)
    case atStart => exact ⟨0, by omega, rfl, rfl, 0, rfl⟩
    case round =>
      obtain ⟨k, hk, rfl, htk, n, hwr⟩ := hrel
      have HPr := hid (show Rs D wr p L by rw [hwr]; exact HP.out.drewN n)
      have HQr := hid (show Rs D' wr q M by rw [hwr]; exact HQ.out.drewN n)
      have HW := hid hwr
      have HTK := hid htk; clear htk hwr HP HQ
      by_cases hlt : k < L.length
      · have hlm : k < M.length := by have := HLEN.out; omega
        obtain ⟨b1, o1, q1, c1, rfl, _, d1, d2, hp1⟩ := HPr.out.at k hlt
        obtain ⟨b2, o2, q2, c2, rfl, _, d3, d4, hp2⟩ := HQr.out.at k hlm
        have hb := HL.out.2 _ (List.getElem_mem hlt)
        have HS := hid fun (m : Nat) => same_ok L[k].1 M[k].1 q1 q2 c1 c2 (wr.drewN m) (hp1.pt.drewN m) (hp2.pt.drewN m) (by omega)
        by_cases hk1 : L[k].1 = M[k].1
        · have hs : sameB L[k].1 M[k].1 = true := by simp [sameB, hk1]
          rw [hs] at HS
          by_cases hk2 : L[k].2 = M[k].2
          · have HM := hid (take_same hlt hlm HTK.out hk1 hk2)
            rw [hk2] at d2
            clear hk1 hk2 hs hb hp1 hp2
            generalize M[k].2 = t at d2 d4
            generalize L[k].1.length = x1 at d1 HS
            generalize M[k].1.length = x2 at d3 HS
            go_wp2_with fail
            go_quiet ((go_at_call 40; exact quiet_more (HS.out _)))
            go_wp2_with fail
            go_roundw
            case rel => exact ⟨k + 1, by omega, by go_num, HM.out, _, by rw [HW.out]; exact World.drewN_drewN _ _ _⟩
            case measure => simp [intOf]; omega
          · have HN : Hid (decide (L = M) = false) := hid (by simpa using take_ne hlt hlm (fun h => hk2 h.2))
            have e2 := text_ne hk2
            clear hk1 hk2 hs hb hp1 hp2
            generalize L[k].2 = t at d2 e2
            generalize M[k].2 = u at d4 e2
            generalize L[k].1.length = x1 at d1 HS
            generalize M[k].1.length = x2 at d3 HS
            go_wp2_with fail
            go_quiet ((go_at_call 40; exact quiet_more (HS.out _)))
            go_wp2_with fail
            go_ret
            rw [HN.out]
            exact ⟨rfl, _, by rw [HW.out]; exact World.drewN_drewN _ _ _⟩
        · have HN : Hid (decide (L = M) = false) := hid (by simpa using take_ne hlt hlm (fun h => hk1 h.1))
          have hs : sameB L[k].1 M[k].1 = false := by simp [sameB, hk1]
          rw [hs] at HS
          clear hk1 hs hb hp1 hp2
          generalize L[k].2 = t at d2
          generalize M[k].2 = u at d4
          generalize L[k].1.length = x1 at d1 HS
          generalize M[k].1.length = x2 at d3 HS
          go_wp2_with fail
          go_quiet ((go_at_call 40; exact quiet_more (HS.out _)))
          go_wp2_with fail
          go_ret
          rw [HN.out]
          exact ⟨rfl, _, by rw [HW.out]; exact World.drewN_drewN _ _ _⟩
      · obtain rfl : k = L.length := by omega
        have HE : Hid (decide (L = M) = true) := hid (by
          have := HTK.out
          rw [List.take_length, HLEN.out, List.take_length] at this
          simpa using this)
        go_wp2_with fail
        go_ret
        rw [HE.out]
        exact ⟨rfl, n, HW.out⟩
  · have e1 : ((L.length : Int) != (M.length : Int)) = true := by simp; omega
    have HE : Hid (decide (L = M) = false) := hid (by simp; intro e; exact hlen (by rw [e]))
    clear hlen
    go_enter Try.func21, Try.ntmps21
    go_wp2_with fail
    go_ret
    rw [HE.out]
    exact ⟨rfl, 0, rfl⟩
/-- are there few? (as the laws ask) -/
def fewB (L : List Rec) : Bool := decide (L.length ≤ 60) && L.all fun r => decide (r.1.length ≤ 20) && decide (r.2.size ≤ 100)
theorem fewB_iff {L : List Rec} : fewB L = true ↔ fewR L := by
  unfold fewB fewR; simp
end Go.Proofs.Ytmniaaledplhfaa.Bk
