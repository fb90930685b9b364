/- The reference's Decode of free. -/
import Derived.Test.YtefnofipcjjfpaaRfEnc
import Derived.StillTailTactics
namespace Go.Proofs.Ytefnofipcjjfpaa.Fr
open Go.RowKit
open Go.Lib (hid)

theorem decP_set (n k : Nat) (s : ByteArray) (hk : k < n) : (decP n k s).set k (bitS s k) = decP n (k + 1) s := by
  apply eq_of_bitAt (by rw [List.length_set, decP_length, decP_length])
  intro j hj
  rw [List.length_set, decP_length] at hj
  rw [bitAt_set _ _ _ (by rw [decP_length]; exact hk), decP_at, decP_at]
  by_cases e : j = k
  · subst e; simp [hj]
  · rw [if_neg e]
    have : decide (j < k + 1) = decide (j < k) := by by_cases h1 : j < k <;> simp [h1] <;> omega
    rw [this]
theorem bitS_shr (s : ByteArray) (k q u : Nat) (hq : k / 8 = q) (hr : 7 - k % 8 = u) (hs : q < s.size) : ((((s[q]'hs).toNat : Nat) : Int) / 2 ^ u % 2 == 1) = bitS s k := by
  subst hq hr
  have e : s.data.toList.getD (k / 8) 0 = s[k / 8]'hs := by
    have hs' : k / 8 < s.data.size := hs
    rw [List.getD_eq_getElem?_getD, Array.getElem?_toList, Array.getElem?_eq_getElem hs']
    rfl
  unfold bitS
  rw [e]
  generalize (s[k / 8]'hs).toNat = c
  have e2 : ((c : Int) / 2 ^ (7 - k % 8) % 2) = ((c / 2 ^ (7 - k % 8) % 2 : Nat) : Int) := by simp
  rw [e2]
  generalize c / 2 ^ (7 - k % 8) % 2 = z
  rw [Bool.eq_iff_iff]; simp; omega
theorem bitS_wk (s : ByteArray) (k q : Nat) (hq : k / 8 = q) (hs : q < s.size) : ((wrap64 (((s[q]'hs).toNat : Nat) : Int) / 2 ^ min (7 - k % 8) 64).tmod 2 == 1) = bitS s k := by
  have hc := (s[q]'hs).toNat_lt
  have e1 : wrap64 (((s[q]'hs).toNat : Nat) : Int) = (((s[q]'hs).toNat : Nat) : Int) := by unfold wrap64; omega
  have e2 : min (7 - k % 8) 64 = 7 - k % 8 := by omega
  rw [e1, e2, Int.tmod_eq_emod_of_nonneg (Int.ediv_nonneg (by omega) (by exact_mod_cast Nat.zero_le _)), bitS_shr s k q _ hq rfl hs]
set_option maxRecDepth 100000 in
set_option maxHeartbeats 1000000 in
theorem refDecode_gen (n : Nat) (s : ByteArray) (w : World) (h1 : 1 ≤ n) (h2 : n ≤ 1000) (hs : s.size ≤ 1000000) (R : RPtrs → Value) (hR1 : encB (decB n s) = s.data.toList → ∀ d : RPtrs, R d = .tuple #[.pointer (some ⟨d.M, 0, none⟩), .int .i64 0]) (hR2 : encB (decB n s) ≠ s.data.toList → ∀ d : RPtrs, R d = .tuple #[.pointer none, .int .i64 6]) :
    Calls Try.prog 25 #[.int .i64 (n : Int), .string s] w fun e w' => ∃ d, e = .returned (R d) ∧ Rf w' d (decB n s) ∧ Below w.heap.size w w' ∧ w.heap.size ≤ d.M ∧ w.heap.size ≤ d.W := by
  have HR := hid (And.intro hR1 hR2); clear hR1 hR2
  obtain ⟨m, hm⟩ : ∃ m, min n (8 * s.size) = m := ⟨_, rfl⟩
  have hmn : m ≤ n := by omega
  have hms : m ≤ 8 * s.size := by omega
  go_enter Try.func25, Try.ntmps25
  go_wp2_with (go_at_call 9; refine (refNew_ok n 0 _ h1 h2 (Nat.zero_le _)).mono ?_; rintro e w1 ⟨d, rfl, hm0, hb, hd1, hd2⟩; have HM := hid hm0; have HB := hid hb; have HD := hid (And.intro hd1 hd2); clear hm0 hb hd1 hd2)
  go_loopw [8] (fun i wr => ∃ k : Nat, k ≤ m ∧ i = .int .i64 k ∧ Rf wr d (decP n k s) ∧ Below w.heap.size w wr) (fun i _ => m - (intOf i).toNat)
  case atStart => exact ⟨0, by omega, rfl, by rw [decP_zero]; exact HM.out, HB.out⟩
  case round =>
    obtain ⟨k, hk, rfl, hr, hb⟩ := hrel
    have HK := hid hr; have HB := hid hb; clear hr hb
    obtain ⟨q, hq⟩ : ∃ q, k / 8 = q := ⟨_, rfl⟩
    have e1 : (k : Int) / 8 = (q : Int) := by omega
    by_cases hlt : k < m
    · obtain ⟨r, hr⟩ : ∃ r, k % 8 = r := ⟨_, rfl⟩
      obtain ⟨u, hu⟩ : ∃ u, 7 - r = u := ⟨_, rfl⟩
      have hqs : q < s.size := by omega
      have hkn : k < n := by omega
      have e2 : (k : Int) % 8 = (r : Int) := by omega
      have e3 : (7 : Int) - (r : Int) = (u : Int) := by omega
      have e4 : (u : Int) ≤ 64 := by omega
      have HV := hid (bitS_wk s k q hq hqs)
      have e9 : IntKind.i64.wrap (q : Int) = (q : Int) := Go.IntWalk.i64_in _ (by omega)
      have e10 : IntKind.i64.wrap (u : Int) = (u : Int) := Go.IntWalk.i64_in _ (by omega)
      have e11 : IntKind.u64.wrap (u : Int) = (u : Int) := Go.IntWalk.u64_in _ (by omega)
      have HL : Hid (k < (decP n k s).length) := hid (by rw [decP_length]; omega)
      have HN := hid (decP_set n k s hkn)
      have c := HK.out.cells
      rw [decP_length] at c
      have cp := HK.out.page k HL.out
      have f := HK.out.wfree k
      have HS := hid (HK.out.set k (bitS s k)).drew
      rw [HN.out] at HS
      have HB2 := hid (Below.setCell (p := ⟨d.W, k, none⟩) HB.out HD.out.2 (.bool (bitS s k)))
      generalize bitAt (decP n k s) k = b0 at cp
      generalize bitS s k = b at HV HS HB2
      clear hq hr hu
      go_wp2_with fail
      go_still_tail 17, (by kernel_rfl)
      change wpList _ _ _ _ _ wr.drew
      go_wp2_with fail
      go_roundw
      case rel => exact ⟨k + 1, by omega, by go_num, by rw [HV.out]; exact HS.out, by rw [HV.out]; exact ⟨HB2.out.os, HB2.out.tape, HB2.out.output, HB2.out.size, HB2.out.block⟩⟩
      case measure => simp [intOf]; omega
    · obtain rfl : k = m := by omega
      have HE : Hid (decP n k s = decB n s) := hid (by unfold decB; rw [hm])
      have e7 := HE.out
      rw [e7] at HK
      clear e7 HE
      have HX : Hid (k = n ∨ (k < n ∧ ¬ q < s.size)) := hid (by omega)
      clear hq hm hms hmn hlt hk
      by_cases he : encB (decB n s) = s.data.toList
      · have e6 := same_text he
        have HI := hid (HR.out.1 he d)
        have E6 := hid e6
        clear he e6
        rcases HX.out with rfl | ⟨hkn, hqs⟩
        · go_wp2_with (go_at_call 10; refine (E6.out ▸ refEncode_ok d (decB k s) _ HK.out).mono ?_; rintro e w2 ⟨rfl, hb2⟩; have HM2 := hid (HK.out.below hb2); have HB2 := hid (HB.out.trans (hb2.mono HB.out.size)); clear hb2)
          go_ret2
          exact ⟨d, by rw [HI.out]; rfl, HM2.out, HB2.out, HD.out⟩
        · have e8 : decide (q < s.size) = false := by simpa using hqs
          clear hqs
          go_wp2_with (go_at_call 10; refine (E6.out ▸ refEncode_ok d (decB n s) _ HK.out).mono ?_; rintro e w2 ⟨rfl, hb2⟩; have HM2 := hid (HK.out.below hb2); have HB2 := hid (HB.out.trans (hb2.mono HB.out.size)); clear hb2)
          go_ret2
          exact ⟨d, by rw [HI.out]; rfl, HM2.out, HB2.out, HD.out⟩
      · obtain ⟨t, ht⟩ : ∃ t, (⟨(encB (decB n s)).toArray⟩ : ByteArray) = t := ⟨_, rfl⟩
        have e6 := other_text he ht
        have E6 := hid ht
        clear ht
        have HI := hid (HR.out.2 he d)
        clear he
        rcases HX.out with rfl | ⟨hkn, hqs⟩
        · go_wp2_with (go_at_call 10; refine (E6.out ▸ refEncode_ok d (decB k s) _ HK.out).mono ?_; rintro e w2 ⟨rfl, hb2⟩; have HM2 := hid (HK.out.below hb2); have HB2 := hid (HB.out.trans (hb2.mono HB.out.size)); clear hb2)
          go_ret2
          exact ⟨d, by rw [HI.out]; rfl, HM2.out, HB2.out, HD.out⟩
        · have e8 : decide (q < s.size) = false := by simpa using hqs
          clear hqs
          go_wp2_with (go_at_call 10; refine (E6.out ▸ refEncode_ok d (decB n s) _ HK.out).mono ?_; rintro e w2 ⟨rfl, hb2⟩; have HM2 := hid (HK.out.below hb2); have HB2 := hid (HB.out.trans (hb2.mono HB.out.size)); clear hb2)
          go_ret2
          exact ⟨d, by rw [HI.out]; rfl, HM2.out, HB2.out, HD.out⟩
theorem refDecode_yes (n : Nat) (s : ByteArray) (w : World) (h1 : 1 ≤ n) (h2 : n ≤ 1000) (hs : s.size ≤ 1000000) (he : encB (decB n s) = s.data.toList) :
    Calls Try.prog 25 #[.int .i64 (n : Int), .string s] w fun e w' => ∃ d : RPtrs, e = .returned (.tuple #[.pointer (some ⟨d.M, 0, none⟩), .int .i64 0]) ∧ Rf w' d (decB n s) ∧ Below w.heap.size w w' ∧ w.heap.size ≤ d.M ∧ w.heap.size ≤ d.W :=
  refDecode_gen n s w h1 h2 hs (fun d => .tuple #[.pointer (some ⟨d.M, 0, none⟩), .int .i64 0]) (fun _ _ => rfl) (fun h => absurd he h)
theorem refDecode_no (n : Nat) (s : ByteArray) (w : World) (h1 : 1 ≤ n) (h2 : n ≤ 1000) (hs : s.size ≤ 1000000) (he : encB (decB n s) ≠ s.data.toList) :
    Calls Try.prog 25 #[.int .i64 (n : Int), .string s] w fun e w' => e = .returned (.tuple #[.pointer none, .int .i64 6]) ∧ Below w.heap.size w w' :=
  (refDecode_gen n s w h1 h2 hs (fun _ => .tuple #[.pointer none, .int .i64 6]) (fun h => absurd h he) (fun _ _ => rfl)).mono fun _ _ ⟨_, h, _, hb, _⟩ => ⟨h, hb⟩
set_option maxHeartbeats 400000 in
theorem refDecode_bad (n : Int) (s : ByteArray) (w : World) (h : n < 1 ∨ 1000 < n) :
    Calls Try.prog 25 #[.int .i64 n, .string s] w fun e w' => e = .returned (.tuple #[.pointer none, .int .i64 1]) ∧ w = w' := by
  have H : Hid (n < 1 ∨ 1000 < n ∨ (0 : Int) < 0 ∨ n < 0) := hid (by omega)
  clear h
  go_enter Try.func25, Try.ntmps25
  go_wp2_with (go_at_call 9; refine (refNew_bad n 0 _ H.out).mono ?_; rintro e w1 ⟨rfl, rfl⟩)
  go_ret2
  exact ⟨rfl, rfl⟩
end Go.Proofs.Ytefnofipcjjfpaa.Fr
