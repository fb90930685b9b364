/- The walk of FreeBack. -/
import Derived.Test.YtefnofipcjjfpaaFrOpen
namespace Go.Proofs.Ytefnofipcjjfpaa
open Go.RowKit
open Go.Lib (hid)
open Go.Proofs.Ytefnofipcjjfpaa.Fr

theorem turn_len (B : List Bool) (n : Nat) : (turnB B n).length = B.length := turnB_length B n
/-- Mark, whatever page -/
theorem mark_any (d : Ptrs) (B : List Bool) (n : Int) (w : World) (h : Mp w d B) :
    Calls Try.prog 14 #[.pointer (some ⟨d.M, 0, none⟩), .int .i64 n] w fun e w' => ∃ v B', e = .returned (.int .i64 v) ∧ Mp w' d B' ∧ B'.length = B.length ∧ Only d.W w w' := by
  by_cases hn : n < 0 ∨ B.length ≤ n
  · exact (mark_out d B n w h hn).mono fun e w' ⟨he, m, hw⟩ => ⟨1, B, he, by subst hw; exact h.drewN m, rfl, by subst hw; exact (Only.refl _ _).drewN m⟩
  · obtain ⟨k, rfl⟩ : ∃ k : Nat, n = (k : Int) := ⟨n.toNat, by omega⟩
    cases hb : bitAt B k with
    | true => exact (mark_taken d B k w h (by omega) hb).mono fun e w' ⟨he, m, hw⟩ => ⟨1, B, he, by subst hw; exact h.drewN m, rfl, by subst hw; exact (Only.refl _ _).drewN m⟩
    | false => exact (mark_ok d B k w h (by omega) hb).mono fun e w' ⟨he, hm, ho⟩ => ⟨0, _, he, hm, turn_len B k, ho⟩
theorem dec_enc (B : List Bool) (n : Nat) (hn : B.length = n) : decB n ⟨(encB B).toArray⟩ = B := by
  have hs : (⟨(encB B).toArray⟩ : ByteArray).size = nb B := by
    show (encB B).toArray.size = nb B
    rw [List.size_toArray, encB_length]
  have hm : min n (8 * (⟨(encB B).toArray⟩ : ByteArray).size) = n := by rw [hs]; unfold nb; omega
  unfold decB
  rw [hm]
  apply eq_of_bitAt (by rw [decP_length, hn])
  intro j hj
  rw [decP_length] at hj
  rw [decP_at]
  have hjb : j / 8 < nb B := by unfold nb; omega
  have hlt := byteN_lt B (j / 8)
  have e1 : (encB B).getD (j / 8) 0 = UInt8.ofNat (byteN B (j / 8)) := by
    rw [List.getD_eq_getElem?_getD, List.getElem?_eq_getElem (by rw [encB_length]; exact hjb), encB_at B _ hjb]; rfl
  have e2 : (UInt8.ofNat (byteN B (j / 8))).toNat = byteN B (j / 8) := by simp; omega
  have hb : bitS ⟨(encB B).toArray⟩ j = bitAt B j := by
    unfold bitS
    show (((encB B).toArray.toList.getD (j / 8) 0).toNat / 2 ^ (7 - j % 8) % 2 == 1) = _
    rw [List.toList_toArray, e1, e2]
    have ht := wordN_bit (fun i => bitAt B (8 * (j / 8) + i)) 8 (7 - j % 8)
    rw [Nat.testBit_eq_decide_div_mod_eq] at ht
    have h3 : (8 - 1 - (7 - j % 8)) = j % 8 := by omega
    have h4 : 8 * (j / 8) + j % 8 = j := by omega
    rw [h3, decide_eq_true (show 7 - j % 8 < 8 by omega)] at ht
    simp only [Bool.true_and] at ht
    rw [h4] at ht
    rw [← ht]
    show (byteN B (j / 8) / 2 ^ (7 - j % 8) % 2 == 1) = decide (byteN B (j / 8) / 2 ^ (7 - j % 8) % 2 = 1)
    rw [Bool.eq_iff_iff]; simp
  rw [hb]; simp [hj]
theorem take_turn (B : List Bool) (n : Nat) (hn : n < B.length) (hb : bitAt B n = true) : takeN (turnB B n) = if takeN B < n then takeN B else n := by
  split
  · rename_i h
    refine takeN_eq _ _ ?_ ?_ (by rw [turn_len]; omega)
    · rw [turnB_at _ _ hn, if_neg (by omega)]; exact takeN_there B (by omega)
    · intro j hj _
      rw [turnB_at _ _ hn, if_neg (by omega)]; exact takeN_before B j hj
  · rename_i h
    refine takeN_eq _ _ ?_ ?_ (by rw [turn_len]; exact hn)
    · rw [turnB_at _ _ hn, if_pos rfl, hb]; rfl
    · intro j hj _
      rw [turnB_at _ _ hn, if_neg (by omega)]; exact takeN_before B j (by omega)
theorem turn_turn (B : List Bool) (n : Nat) (hn : n < B.length) : turnB (turnB B n) n = B := by
  apply eq_of_bitAt (by rw [turn_len, turn_len])
  intro j _
  rw [turnB_at _ _ (by rw [turn_len]; exact hn), turnB_at _ _ hn, turnB_at _ _ hn]
  by_cases e : j = n
  · subst e; simp
  · rw [if_neg e, if_neg e]
/-- Take, whatever is taken -/
theorem take_any (d : Ptrs) (B : List Bool) (w : World) (h : Mp w d B) :
    Calls Try.prog 12 #[.pointer (some ⟨d.M, 0, none⟩)] w fun e w' => ∃ a b : Int, e = .returned (.tuple #[.int .i64 a, .int .i64 b]) ∧ (takeN B < B.length → a = takeN B) ∧ Only d.W w w' := by
  by_cases ht : takeN B < B.length
  · exact (take_ok d B w h ht).mono fun e w' ⟨he, _, ho⟩ => ⟨_, _, he, fun _ => rfl, ho⟩
  · exact (take_full d B w h (by have := takeN_le B; omega)).mono fun e w' ⟨he, m, hw⟩ => ⟨_, _, he, fun h => absurd h ht, by subst hw; exact (Only.refl _ _).drewN m⟩

set_option maxRecDepth 100000 in
set_option maxHeartbeats 4000000 in
theorem Back_go (n : Nat) (a : Option Addr) (len cap : Nat) (z : Int) (w : World) (h1 : 1 ≤ n) (h2 : n ≤ 1000) (hs : IsScript w a len) :
    Calls Try.prog 7 #[.int .i64 (n : Int), .slice a len cap, .int .i64 z] w fun e w' => e = .returned (.bool true) ∧ Below w.heap.size w w' := by
  have HB : Hid (Below w.heap.size w w) := hid (Below.refl _ _)
  have hlen := hs.1
  unfold maxLen at hlen
  have HS := hid hs; clear hs
  go_enter Try.func7, Try.ntmps7
  go_wp2_with (first
    | (go_at_call 8; refine (new_ok n 0 _ h1 h2 (Nat.zero_le _)).mono ?_; rintro e w1 ⟨d, rfl, hm, hb, hd1, hd2⟩; have HM := hid hm; have HD := hid (And.intro hd1 hd2); replace HB := on_below HB hb; clear hm hb hd1 hd2))
  have HM0 : Hid (∃ B, B.length = n ∧ Mp w1 d B) := hid ⟨_, frontB_length n 0, HM.out⟩
  clear HM
  obtain ⟨c, hc⟩ : ∃ c, min len 100 = c := ⟨_, rfl⟩
  have HC := hid hc
  have hcl : c ≤ len := by omega
  have hc1 : c ≤ 100 := by omega
  clear hc
  go_loopw [9] (fun i wr => ∃ k : Nat, k ≤ c ∧ i = .int .i64 k ∧ (∃ B, B.length = n ∧ Mp wr d B) ∧ Below w.heap.size w wr) (fun i _ => c - (intOf i).toNat)
  case atStart => exact ⟨0, by omega, rfl, HM0.out, HB.out⟩
  case round =>
    clear HM0 HB
    obtain ⟨k, hk, rfl, ⟨B, hB, hm⟩, hb⟩ := hrel
    have HM := hid hm; have HB := hid hb; have HL := hid hB; clear hm hb hB
    by_cases hlt : k < c
    · rcases HS.out.2 with h0 | ⟨b, off, rfl, hbw, hop⟩
      · omega
      obtain ⟨dd, nn, c0, c1, wd, wn⟩ := hop k (by omega)
      have e1 : wr.cell? ⟨b, off + k * 2 + 1, none⟩ = some (.int .i64 nn) := by rw [HB.out.cell (p := ⟨b, _, none⟩) hbw]; exact c1
      clear c0 c1 wd wn hop
      go_wp2_with (go_at_call 14; refine (mark_any d B nn _ HM.out).mono ?_; rintro e w3 ⟨v, B', rfl, hm, hl, ho⟩; have HM2 : Hid (∃ B, B.length = n ∧ Mp w3 d B) := hid ⟨B', hl.trans HL.out, hm⟩; replace HB := on_only HB ho HD.out.2; clear hm ho hl)
      go_roundw
      case rel => exact ⟨k + 1, by omega, by go_num, HM2.out, HB.out⟩
      case measure => simp [intOf]; omega
    · obtain rfl : k = c := by omega
      have HDE := hid (dec_enc B n HL.out)
      have HSZ : Hid ((⟨(encB B).toArray⟩ : ByteArray).size ≤ 1000000) := hid (by
        show (encB B).toArray.size ≤ _
        have := HL.out
        rw [List.size_toArray, encB_length]; unfold nb; omega)
      have HDY : Hid (encB (decB n ⟨(encB B).toArray⟩) = (⟨(encB B).toArray⟩ : ByteArray).data.toList) := hid (by rw [HDE.out])
      have HLEFT := hid (rfl : leftN B = leftN B)
      have HEXIT : Hid (k = len ∨ (k < len ∧ k = 100)) := hid (by have := HC.out; omega)
      clear HC hlt hk hcl
      generalize hs : (⟨(encB B).toArray⟩ : ByteArray) = s at HDE HSZ HDY
      have HSS := hid hs
      clear hs
      -- the loop's end: whether it is the script's or the hundredth
      have key : ∀ (Q : Prop), (k = len → Q) → (k < len ∧ k = 100 → Q) → Q := fun Q h1 h2 => HEXIT.out.elim h1 h2
      by_cases hj : z < 0 ∨ (n : Int) ≤ z ∨ bitAt B z.toNat = false
      · have HI : Hid (∀ w', Mp w' d B → Calls Try.prog 21 #[.pointer (some ⟨d.M, 0, none⟩), .int .i64 z] w' fun e w2 => e = .returned (.bool false) ∧ ∃ m, w2 = w'.drewN m) := hid (fun w' h' => by
          by_cases hout : z < 0 ∨ (B.length : Int) ≤ z
          · exact is_out d B z w' h' hout
          · obtain ⟨j, rfl⟩ : ∃ j : Nat, z = (j : Int) := ⟨z.toNat, by omega⟩
            have hl := HL.out
            exact is_val d B j false w' h' (by omega) (by
              rcases hj with h | h | h
              · omega
              · omega
              · simpa using h))
        clear hj
        refine key _ (fun hkl => ?_) (fun hkl => ?_)
        · have e1 : decide (k < len) = false := by simp; omega
          clear hkl key HEXIT
          go_wp2_with (first
            | (go_at_call 18; refine (HSS.out ▸ encode_ok d B _ HM.out).mono ?_; rintro e w4 ⟨rfl, hb⟩; replace HM := hid (HM.out.below hb); replace HB := on_below HB hb; clear hb)
            | (go_at_call 24; refine (HDE.out ▸ decode_yes n s _ h1 h2 HSZ.out HDY.out).mono ?_; rintro e w5 ⟨x, rfl, hx, hb, hx1, hx2⟩; have HX := hid hx; replace HM := hid (HM.out.below hb); replace HB := on_below HB hb; clear hx hb hx1 hx2)
            | (go_at_call 19; (first | (with_reducible refine (left_ok x B _ HX.out).mono ?_) | (with_reducible refine (left_ok d B _ HM.out).mono ?_)); rintro e w' ⟨rfl, rfl⟩)
            | (go_at_call 21; refine (HI.out _ HM.out).mono ?_; rintro e w' ⟨rfl, m, rfl⟩; replace HX := hid (HX.out.drewN m); replace HM := hid (HM.out.drewN m); replace HB := on_drewN HB m)
            | (go_at_call 23; refine (live_any _).mono ?_; rintro e w7 ⟨rfl, hb⟩; replace HB := on_below HB hb; clear hb))
          go_ret
          exact ⟨rfl, HB.out⟩
        · have e0 := hkl.1
          have e1 : decide ((k : Int) < 100) = false := by simp; omega
          clear hkl key HEXIT
          go_wp2_with (first
            | (go_at_call 18; refine (HSS.out ▸ encode_ok d B _ HM.out).mono ?_; rintro e w4 ⟨rfl, hb⟩; replace HM := hid (HM.out.below hb); replace HB := on_below HB hb; clear hb)
            | (go_at_call 24; refine (HDE.out ▸ decode_yes n s _ h1 h2 HSZ.out HDY.out).mono ?_; rintro e w5 ⟨x, rfl, hx, hb, hx1, hx2⟩; have HX := hid hx; replace HM := hid (HM.out.below hb); replace HB := on_below HB hb; clear hx hb hx1 hx2)
            | (go_at_call 19; (first | (with_reducible refine (left_ok x B _ HX.out).mono ?_) | (with_reducible refine (left_ok d B _ HM.out).mono ?_)); rintro e w' ⟨rfl, rfl⟩)
            | (go_at_call 21; refine (HI.out _ HM.out).mono ?_; rintro e w' ⟨rfl, m, rfl⟩; replace HX := hid (HX.out.drewN m); replace HM := hid (HM.out.drewN m); replace HB := on_drewN HB m)
            | (go_at_call 23; refine (live_any _).mono ?_; rintro e w7 ⟨rfl, hb⟩; replace HB := on_below HB hb; clear hb))
          go_ret
          exact ⟨rfl, HB.out⟩
      · obtain ⟨j, rfl⟩ : ∃ j : Nat, z = (j : Int) := ⟨z.toNat, by omega⟩
        have hjn : j < n := by omega
        have hjb : bitAt B j = true := by
          cases h : bitAt B j with
          | true => rfl
          | false => exact absurd (Or.inr (Or.inr (by simpa using h))) hj
        clear hj
        have hjl : j < B.length := by have := HL.out; omega
        have HJL := hid hjl
        have HJB := hid hjb
        have htt := take_turn B j hjl hjb
        obtain ⟨B1, hB1⟩ : ∃ B1, turnB B j = B1 := ⟨_, rfl⟩
        have hl1 : B1.length = B.length := by rw [← hB1]; exact turn_len B j
        have HE1 : Hid (∀ w', Mp w' d B → Calls Try.prog 18 #[.pointer (some ⟨d.M, 0, none⟩)] w' fun e w2 => e = .returned (.string s) ∧ Below w'.heap.size w' w2) := hid fun w' h' => HSS.out ▸ encode_ok d B w' h'
        obtain ⟨s2, hs2⟩ : ∃ s2 : ByteArray, (⟨(encB B1).toArray⟩ : ByteArray) = s2 := ⟨_, rfl⟩
        have HE2 : Hid (∀ w', Mp w' d B1 → Calls Try.prog 18 #[.pointer (some ⟨d.M, 0, none⟩)] w' fun e w2 => e = .returned (.string s2) ∧ Below w'.heap.size w' w2) := hid fun w' h' => hs2 ▸ encode_ok d B1 w' h'
        have HG1 : Hid (∀ w', Mp w' d B → Calls Try.prog 16 #[.pointer (some ⟨d.M, 0, none⟩), .int .i64 (j : Int)] w' fun e w2 => e = .returned (.int .i64 0) ∧ Mp w2 d B1 ∧ Only d.W w' w2) := hid fun w' h' => hB1 ▸ give_ok d B j w' h' hjl hjb
        by_cases hq : takeN B < j
        · rw [if_pos hq, hB1] at htt
          obtain ⟨q, hq2⟩ : ∃ q, takeN B = q := ⟨_, rfl⟩
          rw [hq2] at htt hq
          have hql : q < B1.length := by omega
          have HTD : Hid (∀ w', Mp w' d B1 → Calls Try.prog 12 #[.pointer (some ⟨d.M, 0, none⟩)] w' fun e w2 => e = .returned (.tuple #[.int .i64 (q : Int), .int .i64 0]) ∧ Mp w2 d (turnB B1 q) ∧ Only d.W w' w2) := hid fun w' h' => by
            have := take_ok d B1 w' h' (by rw [htt]; exact hql)
            rw [htt] at this
            exact this
          have HTX0 : ∀ x : Ptrs, Hid (∀ w', Mp w' x B → Calls Try.prog 12 #[.pointer (some ⟨x.M, 0, none⟩)] w' fun e w2 => e = .returned (.tuple #[.int .i64 (q : Int), .int .i64 0]) ∧ Only x.W w' w2) := fun x => hid fun w' h' => by
            have := take_ok x B w' h' (by omega)
            rw [hq2] at this
            exact this.mono fun _ _ ⟨h1, _, h3⟩ => ⟨h1, h3⟩
          have HG2 : Hid (∀ w', Mp w' d (turnB B1 q) → Calls Try.prog 16 #[.pointer (some ⟨d.M, 0, none⟩), .int .i64 (q : Int)] w' fun e w2 => e = .returned (.int .i64 0) ∧ Mp w2 d B1 ∧ Only d.W w' w2) := hid fun w' h' => by
            have hb : bitAt B1 q = false := by
              rw [← htt]; exact takeN_there B1 (by rw [htt]; exact hql)
            have := give_ok d (turnB B1 q) q w' h' (by rw [turn_len]; exact hql) (by rw [turnB_at _ _ hql, if_pos rfl, hb]; rfl)
            rw [turn_turn B1 q hql] at this
            exact this
          clear htt hq2 hql hl1 hB1 hs2 hjb hjl
          refine key _ (fun hkl => ?_) (fun hkl => ?_)
          · have e1 : decide (k < len) = false := by simp; omega
            clear hkl key HEXIT
            go_wp2_with (first
              | (go_at_call 18; (first
                  | (with_reducible refine (HE1.out _ HM.out).mono ?_); rintro e w4 ⟨rfl, hb⟩; replace HM := hid (HM.out.below hb); replace HB := on_below HB hb; clear hb
                  | (with_reducible refine (HE2.out _ HM.out).mono ?_); rintro e w9 ⟨rfl, hb⟩; (try replace HX := hid (HX.out.below hb)); replace HM := hid (HM.out.below hb); replace HB := on_below HB hb; clear hb))
              | (go_at_call 24; refine (HDE.out ▸ decode_yes n s _ h1 h2 HSZ.out HDY.out).mono ?_; rintro e w5 ⟨x, rfl, hx, hb, hx1, hx2⟩; have HX := hid hx; have HNE : Hid (d.M ≠ x.W ∧ d.W ≠ x.W ∧ x.M ≠ d.W ∧ w.heap.size ≤ x.W) := hid (by have a1 := HM.out.ltM; have a2 := HM.out.ltW; have a3 := HB.out.size; refine ⟨?_, ?_, ?_, ?_⟩ <;> omega); have HTX := HTX0 x; replace HM := hid (HM.out.below hb); replace HB := on_below HB hb; clear hx hb hx1 hx2)
              | (go_at_call 19; (first | (with_reducible refine (left_ok x B _ HX.out).mono ?_) | (with_reducible refine (left_ok d B _ HM.out).mono ?_)); rintro e w' ⟨rfl, rfl⟩)
              | (go_at_call 21; refine (is_val d B j true _ HM.out HJL.out HJB.out).mono ?_; rintro e w' ⟨rfl, m, rfl⟩; replace HX := hid (HX.out.drewN m); replace HM := hid (HM.out.drewN m); replace HB := on_drewN HB m)
              | (go_at_call 16; (first
                  | (with_reducible refine (HG1.out _ HM.out).mono ?_); rintro e w6 ⟨rfl, hm, ho⟩; replace HX := hid (HX.out.other ho HNE.out.2.2.1 (Ne.symm HNE.out.2.1)); replace HM := hid hm; replace HB := on_only HB ho HD.out.2; clear hm ho
                  | (with_reducible refine (HG2.out _ HM.out).mono ?_); rintro e w6 ⟨rfl, hm, ho⟩; replace HM := hid hm; replace HB := on_only HB ho HD.out.2; clear hm ho))
              | (go_at_call 12; (first
                  | (with_reducible refine (HTD.out _ HM.out).mono ?_); rintro e w6 ⟨rfl, hm, ho⟩; replace HX := hid (HX.out.other ho HNE.out.2.2.1 (Ne.symm HNE.out.2.1)); replace HM := hid hm; replace HB := on_only HB ho HD.out.2; clear hm ho
                  | (with_reducible refine (HTX.out _ HX.out).mono ?_); rintro e w8 ⟨rfl, ho⟩; replace HM := hid (HM.out.other ho HNE.out.1 HNE.out.2.1); replace HB := on_only HB ho HNE.out.2.2.2; clear ho HX))
              | (go_at_call 23; refine (live_any _).mono ?_; rintro e w7 ⟨rfl, hb⟩; replace HB := on_below HB hb; clear hb))
            go_ret
            exact ⟨rfl, HB.out⟩
          · have e0 := hkl.1
            have e1 : decide ((k : Int) < 100) = false := by simp; omega
            clear hkl key HEXIT
            go_wp2_with (first
              | (go_at_call 18; (first
                  | (with_reducible refine (HE1.out _ HM.out).mono ?_); rintro e w4 ⟨rfl, hb⟩; replace HM := hid (HM.out.below hb); replace HB := on_below HB hb; clear hb
                  | (with_reducible refine (HE2.out _ HM.out).mono ?_); rintro e w9 ⟨rfl, hb⟩; (try replace HX := hid (HX.out.below hb)); replace HM := hid (HM.out.below hb); replace HB := on_below HB hb; clear hb))
              | (go_at_call 24; refine (HDE.out ▸ decode_yes n s _ h1 h2 HSZ.out HDY.out).mono ?_; rintro e w5 ⟨x, rfl, hx, hb, hx1, hx2⟩; have HX := hid hx; have HNE : Hid (d.M ≠ x.W ∧ d.W ≠ x.W ∧ x.M ≠ d.W ∧ w.heap.size ≤ x.W) := hid (by have a1 := HM.out.ltM; have a2 := HM.out.ltW; have a3 := HB.out.size; refine ⟨?_, ?_, ?_, ?_⟩ <;> omega); have HTX := HTX0 x; replace HM := hid (HM.out.below hb); replace HB := on_below HB hb; clear hx hb hx1 hx2)
              | (go_at_call 19; (first | (with_reducible refine (left_ok x B _ HX.out).mono ?_) | (with_reducible refine (left_ok d B _ HM.out).mono ?_)); rintro e w' ⟨rfl, rfl⟩)
              | (go_at_call 21; refine (is_val d B j true _ HM.out HJL.out HJB.out).mono ?_; rintro e w' ⟨rfl, m, rfl⟩; replace HX := hid (HX.out.drewN m); replace HM := hid (HM.out.drewN m); replace HB := on_drewN HB m)
              | (go_at_call 16; (first
                  | (with_reducible refine (HG1.out _ HM.out).mono ?_); rintro e w6 ⟨rfl, hm, ho⟩; replace HX := hid (HX.out.other ho HNE.out.2.2.1 (Ne.symm HNE.out.2.1)); replace HM := hid hm; replace HB := on_only HB ho HD.out.2; clear hm ho
                  | (with_reducible refine (HG2.out _ HM.out).mono ?_); rintro e w6 ⟨rfl, hm, ho⟩; replace HM := hid hm; replace HB := on_only HB ho HD.out.2; clear hm ho))
              | (go_at_call 12; (first
                  | (with_reducible refine (HTD.out _ HM.out).mono ?_); rintro e w6 ⟨rfl, hm, ho⟩; replace HX := hid (HX.out.other ho HNE.out.2.2.1 (Ne.symm HNE.out.2.1)); replace HM := hid hm; replace HB := on_only HB ho HD.out.2; clear hm ho
                  | (with_reducible refine (HTX.out _ HX.out).mono ?_); rintro e w8 ⟨rfl, ho⟩; replace HM := hid (HM.out.other ho HNE.out.1 HNE.out.2.1); replace HB := on_only HB ho HNE.out.2.2.2; clear ho HX))
              | (go_at_call 23; refine (live_any _).mono ?_; rintro e w7 ⟨rfl, hb⟩; replace HB := on_below HB hb; clear hb))
            go_ret
            exact ⟨rfl, HB.out⟩
        · rw [if_neg hq, hB1] at htt
          clear hq
          have hql : j < B1.length := by omega
          have HTD : Hid (∀ w', Mp w' d B1 → Calls Try.prog 12 #[.pointer (some ⟨d.M, 0, none⟩)] w' fun e w2 => e = .returned (.tuple #[.int .i64 (j : Int), .int .i64 0]) ∧ Mp w2 d (turnB B1 j) ∧ Only d.W w' w2) := hid fun w' h' => by
            have := take_ok d B1 w' h' (by rw [htt]; exact hql)
            rw [htt] at this
            exact this
          have HTX0 : ∀ x : Ptrs, Hid (x = x) := fun x => hid rfl
          have HG2 : Hid (∀ w', Mp w' d (turnB B1 j) → Calls Try.prog 16 #[.pointer (some ⟨d.M, 0, none⟩), .int .i64 (j : Int)] w' fun e w2 => e = .returned (.int .i64 0) ∧ Mp w2 d B1 ∧ Only d.W w' w2) := hid fun w' h' => by
            have hb : bitAt B1 j = false := by
              rw [← htt]; rw [htt]; rw [← hB1, turnB_at _ _ hjl, if_pos rfl, hjb]; rfl
            have := give_ok d (turnB B1 j) j w' h' (by rw [turn_len]; exact hql) (by rw [turnB_at _ _ hql, if_pos rfl, hb]; rfl)
            rw [turn_turn B1 j hql] at this
            exact this
          clear htt hql hl1 hB1 hs2 hjb hjl
          refine key _ (fun hkl => ?_) (fun hkl => ?_)
          · have e1 : decide (k < len) = false := by simp; omega
            clear hkl key HEXIT
            go_wp2_with (first
              | (go_at_call 18; (first
                  | (with_reducible refine (HE1.out _ HM.out).mono ?_); rintro e w4 ⟨rfl, hb⟩; replace HM := hid (HM.out.below hb); replace HB := on_below HB hb; clear hb
                  | (with_reducible refine (HE2.out _ HM.out).mono ?_); rintro e w9 ⟨rfl, hb⟩; (try replace HX := hid (HX.out.below hb)); replace HM := hid (HM.out.below hb); replace HB := on_below HB hb; clear hb))
              | (go_at_call 24; refine (HDE.out ▸ decode_yes n s _ h1 h2 HSZ.out HDY.out).mono ?_; rintro e w5 ⟨x, rfl, hx, hb, hx1, hx2⟩; have HX := hid hx; have HNE : Hid (d.M ≠ x.W ∧ d.W ≠ x.W ∧ x.M ≠ d.W ∧ w.heap.size ≤ x.W) := hid (by have a1 := HM.out.ltM; have a2 := HM.out.ltW; have a3 := HB.out.size; refine ⟨?_, ?_, ?_, ?_⟩ <;> omega); have HTX := HTX0 x; replace HM := hid (HM.out.below hb); replace HB := on_below HB hb; clear hx hb hx1 hx2)
              | (go_at_call 19; (first | (with_reducible refine (left_ok x B _ HX.out).mono ?_) | (with_reducible refine (left_ok d B _ HM.out).mono ?_)); rintro e w' ⟨rfl, rfl⟩)
              | (go_at_call 21; refine (is_val d B j true _ HM.out HJL.out HJB.out).mono ?_; rintro e w' ⟨rfl, m, rfl⟩; replace HX := hid (HX.out.drewN m); replace HM := hid (HM.out.drewN m); replace HB := on_drewN HB m)
              | (go_at_call 16; (first
                  | (with_reducible refine (HG1.out _ HM.out).mono ?_); rintro e w6 ⟨rfl, hm, ho⟩; replace HX := hid (HX.out.other ho HNE.out.2.2.1 (Ne.symm HNE.out.2.1)); replace HM := hid hm; replace HB := on_only HB ho HD.out.2; clear hm ho
                  | (with_reducible refine (HG2.out _ HM.out).mono ?_); rintro e w6 ⟨rfl, hm, ho⟩; replace HM := hid hm; replace HB := on_only HB ho HD.out.2; clear hm ho))
              | (go_at_call 12; (first
                  | (with_reducible refine (HTD.out _ HM.out).mono ?_); rintro e w6 ⟨rfl, hm, ho⟩; replace HX := hid (HX.out.other ho HNE.out.2.2.1 (Ne.symm HNE.out.2.1)); replace HM := hid hm; replace HB := on_only HB ho HD.out.2; clear hm ho
                  | (with_reducible refine (take_any x B _ HX.out).mono ?_); rintro e w8 ⟨aa, bb, rfl, _, ho⟩; replace HM := hid (HM.out.other ho HNE.out.1 HNE.out.2.1); replace HB := on_only HB ho HNE.out.2.2.2; clear ho HX))
              | (go_at_call 23; refine (live_any _).mono ?_; rintro e w7 ⟨rfl, hb⟩; replace HB := on_below HB hb; clear hb))
            go_ret
            exact ⟨rfl, HB.out⟩
          · have e0 := hkl.1
            have e1 : decide ((k : Int) < 100) = false := by simp; omega
            clear hkl key HEXIT
            go_wp2_with (first
              | (go_at_call 18; (first
                  | (with_reducible refine (HE1.out _ HM.out).mono ?_); rintro e w4 ⟨rfl, hb⟩; replace HM := hid (HM.out.below hb); replace HB := on_below HB hb; clear hb
                  | (with_reducible refine (HE2.out _ HM.out).mono ?_); rintro e w9 ⟨rfl, hb⟩; (try replace HX := hid (HX.out.below hb)); replace HM := hid (HM.out.below hb); replace HB := on_below HB hb; clear hb))
              | (go_at_call 24; refine (HDE.out ▸ decode_yes n s _ h1 h2 HSZ.out HDY.out).mono ?_; rintro e w5 ⟨x, rfl, hx, hb, hx1, hx2⟩; have HX := hid hx; have HNE : Hid (d.M ≠ x.W ∧ d.W ≠ x.W ∧ x.M ≠ d.W ∧ w.heap.size ≤ x.W) := hid (by have a1 := HM.out.ltM; have a2 := HM.out.ltW; have a3 := HB.out.size; refine ⟨?_, ?_, ?_, ?_⟩ <;> omega); have HTX := HTX0 x; replace HM := hid (HM.out.below hb); replace HB := on_below HB hb; clear hx hb hx1 hx2)
              | (go_at_call 19; (first | (with_reducible refine (left_ok x B _ HX.out).mono ?_) | (with_reducible refine (left_ok d B _ HM.out).mono ?_)); rintro e w' ⟨rfl, rfl⟩)
              | (go_at_call 21; refine (is_val d B j true _ HM.out HJL.out HJB.out).mono ?_; rintro e w' ⟨rfl, m, rfl⟩; replace HX := hid (HX.out.drewN m); replace HM := hid (HM.out.drewN m); replace HB := on_drewN HB m)
              | (go_at_call 16; (first
                  | (with_reducible refine (HG1.out _ HM.out).mono ?_); rintro e w6 ⟨rfl, hm, ho⟩; replace HX := hid (HX.out.other ho HNE.out.2.2.1 (Ne.symm HNE.out.2.1)); replace HM := hid hm; replace HB := on_only HB ho HD.out.2; clear hm ho
                  | (with_reducible refine (HG2.out _ HM.out).mono ?_); rintro e w6 ⟨rfl, hm, ho⟩; replace HM := hid hm; replace HB := on_only HB ho HD.out.2; clear hm ho))
              | (go_at_call 12; (first
                  | (with_reducible refine (HTD.out _ HM.out).mono ?_); rintro e w6 ⟨rfl, hm, ho⟩; replace HX := hid (HX.out.other ho HNE.out.2.2.1 (Ne.symm HNE.out.2.1)); replace HM := hid hm; replace HB := on_only HB ho HD.out.2; clear hm ho
                  | (with_reducible refine (take_any x B _ HX.out).mono ?_); rintro e w8 ⟨aa, bb, rfl, _, ho⟩; replace HM := hid (HM.out.other ho HNE.out.1 HNE.out.2.1); replace HB := on_only HB ho HNE.out.2.2.2; clear ho HX))
              | (go_at_call 23; refine (live_any _).mono ?_; rintro e w7 ⟨rfl, hb⟩; replace HB := on_below HB hb; clear hb))
            go_ret
            exact ⟨rfl, HB.out⟩
end Go.Proofs.Ytefnofipcjjfpaa
