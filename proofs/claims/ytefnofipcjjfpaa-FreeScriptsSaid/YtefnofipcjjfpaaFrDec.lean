/- Decode of free. -/
import Derived.Test.YtefnofipcjjfpaaFrNew
namespace Go.Proofs.Ytefnofipcjjfpaa.Fr
open Go.RowKit
open Go.Lib (hid)

/-- whether a text's bit is 1 -/
def bitS (s : ByteArray) (n : Nat) : Bool := (s.data.toList.getD (n / 8) 0).toNat / 2 ^ (7 - n % 8) % 2 == 1
/-- the pages that a text tells -/
def decP (n k : Nat) (s : ByteArray) : List Bool := mkB n fun j => decide (j < k) && bitS s j
def decB (n : Nat) (s : ByteArray) : List Bool := decP n (min n (8 * s.size)) s
theorem decP_length (n k : Nat) (s : ByteArray) : (decP n k s).length = n := mkB_length _ _
theorem decP_at (n k j : Nat) (s : ByteArray) : bitAt (decP n k s) j = (decide (j < n) && (decide (j < k) && bitS s j)) := mkB_at _ _ _
theorem decP_zero (n : Nat) (s : ByteArray) : decP n 0 s = frontB n 0 := by
  apply eq_of_bitAt (by rw [decP_length, frontB_length])
  intro j _
  rw [decP_at, frontB_at]; simp
theorem decP_yes (n k : Nat) (s : ByteArray) (hk : k < n) (hb : bitS s k = true) : turnB (decP n k s) k = decP n (k + 1) s := by
  apply eq_of_bitAt (by rw [turnB_length, decP_length, decP_length])
  intro j hj
  rw [turnB_length, decP_length] at hj
  rw [turnB_at _ _ (by rw [decP_length]; exact hk), decP_at, decP_at, decP_at]
  by_cases e : j = k
  · subst e; simp [hj, hb]
  · rw [if_neg e]
    have : decide (j < k + 1) = decide (j < k) := by by_cases h1 : j < k <;> simp [h1] <;> omega
    rw [this]
theorem decP_no (n k : Nat) (s : ByteArray) (hb : bitS s k = false) : decP n k s = decP n (k + 1) s := by
  apply eq_of_bitAt (by rw [decP_length, decP_length])
  intro j hj
  rw [decP_at, decP_at]
  by_cases e : j = k
  · subst e; simp [hb]
  · have : decide (j < k + 1) = decide (j < k) := by by_cases h1 : j < k <;> simp [h1] <;> omega
    rw [this]

theorem bit_shl : ∀ c : Fin 256, ∀ r : Fin 8, c.val * 2 ^ r.val % 256 / 128 = c.val / 2 ^ (7 - r.val) % 2 := by decide +kernel
theorem bitS_eq (s : ByteArray) (k q r : Nat) (hq : k / 8 = q) (hr : k % 8 = r) (hs : q < s.size) : ((((s[q]'hs).toNat : Nat) : Int) * 2 ^ r % 256 / 128 == 1) = bitS s k := by
  subst hq hr
  have h := bit_shl ⟨(s[k / 8]'hs).toNat, (s[k / 8]'hs).toNat_lt⟩ ⟨k % 8, Nat.mod_lt _ (by omega)⟩
  simp only at h
  have e : s.data.toList.getD (k / 8) 0 = s[k / 8]'hs := by
    have hs' : k / 8 < s.data.size := hs
    rw [List.getD_eq_getElem?_getD, Array.getElem?_toList, Array.getElem?_eq_getElem hs']
    rfl
  unfold bitS
  rw [e]
  generalize (s[k / 8]'hs).toNat = c at h ⊢
  have e2 : ((c : Int) * 2 ^ (k % 8) % 256 / 128) = ((c * 2 ^ (k % 8) % 256 / 128 : Nat) : Int) := by simp
  rw [e2, h]
  generalize c / 2 ^ (7 - k % 8) % 2 = z
  rw [Bool.eq_iff_iff]; simp; omega
theorem same_text {l : List UInt8} {s : ByteArray} (h : l = s.data.toList) : (⟨l.toArray⟩ : ByteArray) = s := by
  subst h; simp
theorem other_text {l : List UInt8} {s t : ByteArray} (h : l ≠ s.data.toList) (ht : (⟨l.toArray⟩ : ByteArray) = t) : (t.toList == s.toList) = false := by
  subst ht; simp [ByteArray.toList_eq, h]
theorem decP_more (n k : Nat) (s : ByteArray) (hk : k < n) : (if bitS s k then turnB (decP n k s) k else decP n k s) = decP n (k + 1) s := by
  split
  · rename_i h; exact decP_yes n k s hk h
  · rename_i h; exact decP_no n k s (by simpa using h)

set_option maxRecDepth 100000 in
set_option maxHeartbeats 1000000 in
theorem decode_gen (n : Nat) (s : ByteArray) (w : World) (h1 : 1 ≤ n) (h2 : n ≤ 1000) (hs : s.size ≤ 1000000) (R : Ptrs → Value) (hR1 : encB (decB n s) = s.data.toList → ∀ d : Ptrs, R d = .tuple #[.pointer (some ⟨d.M, 0, none⟩), .int .i64 0]) (hR2 : encB (decB n s) ≠ s.data.toList → ∀ d : Ptrs, R d = .tuple #[.pointer none, .int .i64 6]) :
    Calls Try.prog 24 #[.int .i64 (n : Int), .string s] w fun e w' => ∃ d, e = .returned (R d) ∧ Mp w' d (decB n s) ∧ Below w.heap.size w w' ∧ w.heap.size ≤ d.M ∧ w.heap.size ≤ d.W := by
  have HR := hid (And.intro hR1 hR2); clear hR1 hR2
  obtain ⟨m, hm⟩ : ∃ m, min n (8 * s.size) = m := ⟨_, rfl⟩
  have hmn : m ≤ n := by omega
  have hms : m ≤ 8 * s.size := by omega
  have e0 : min (n : Int) (8 * (s.size : Int)) = (m : Int) := by omega
  go_enter Try.func24, Try.ntmps24
  go_wp2_with (go_at_call 8; refine (new_ok n 0 _ h1 h2 (Nat.zero_le _)).mono ?_; rintro e w1 ⟨d, rfl, hm0, hb, hd1, hd2⟩; have HM := hid hm0; have HB := hid hb; have HD := hid (And.intro hd1 hd2); clear hm0 hb hd1 hd2)
  clear e0
  go_loopw [8, 22] (fun _ i wr => ∃ k : Nat, k ≤ m ∧ i = .int .i64 k ∧ Mp wr d (decP n k s) ∧ Below w.heap.size w wr) (fun _ i _ => m - (intOf i).toNat)
  case atStart => exact ⟨0, by omega, rfl, by rw [decP_zero]; exact HM.out, HB.out⟩
  case round =>
    obtain ⟨k, hk, rfl, hr, hb⟩ := hrel
    have HK := hid hr; have HB := hid hb; clear hr hb
    by_cases hlt : k < m
    · obtain ⟨q, hq⟩ : ∃ q, k / 8 = q := ⟨_, rfl⟩
      obtain ⟨r, hr⟩ : ∃ r, k % 8 = r := ⟨_, rfl⟩
      have hqs : q < s.size := by omega
      have e1 : (k : Int) / 8 = (q : Int) := by omega
      have e2 : (k : Int) % 8 = (r : Int) := by omega
      have e3 : (r : Int) ≤ 8 := by omega
      have e5 := bitS_eq s k q r hq hr hqs
      have HL : Hid (k < (decP n k s).length) := hid (by rw [decP_length]; omega)
      clear hq hr
      cases hbit : bitS s k with
      | true =>
        rw [hbit] at e5
        have HN := hid (decP_yes n k s (by omega) hbit)
        clear hbit
        go_wp2_with (go_at_call 26; refine (turn_ok d (decP n k s) k _ HK.out HL.out).mono ?_; rintro e w2 ⟨rfl, hm, ho⟩; have HM2 := hid hm; have HO := hid ho; clear hm ho)
        go_roundw
        case rel => exact ⟨k + 1, by omega, by go_num, by rw [← HN.out]; exact HM2.out, HB.out.trans (HO.out.to_below HB.out.size HD.out.2)⟩
        case measure => simp [intOf]; omega
      | false =>
        rw [hbit] at e5
        have HN := hid (decP_no n k s hbit)
        clear hbit
        go_wp2_with fail
        go_roundw
        case rel => exact ⟨k + 1, by omega, by go_num, by rw [← HN.out]; exact HK.out, HB.out⟩
        case measure => simp [intOf]; omega
    · obtain rfl : k = m := by omega
      have HE : Hid (decP n k s = decB n s) := hid (by unfold decB; rw [hm])
      have e7 := HE.out
      rw [e7] at HK
      clear e7 HE
      by_cases he : encB (decB n s) = s.data.toList
      · have e6 := same_text he
        have HI := hid (HR.out.1 he d)
        have E6 := hid e6
        clear he e6
        go_wp2_with (go_at_call 18; refine (E6.out ▸ encode_ok d (decB n s) _ HK.out).mono ?_; rintro e w2 ⟨rfl, hb2⟩; have HM2 := hid (HK.out.below hb2); have HB2 := hid (HB.out.trans (hb2.mono HB.out.size)); clear hb2)
        go_ret2
        exact ⟨d, by rw [HI.out]; rfl, HM2.out, HB2.out, HD.out⟩
      · obtain ⟨t, ht⟩ : ∃ t, (⟨(encB (decB n s)).toArray⟩ : ByteArray) = t := ⟨_, rfl⟩
        have e6 := other_text he ht
        have E6 := hid ht
        clear ht
        have HI := hid (HR.out.2 he d)
        clear he
        go_wp2_with (go_at_call 18; refine (E6.out ▸ encode_ok d (decB n s) _ HK.out).mono ?_; rintro e w2 ⟨rfl, hb2⟩; have HM2 := hid (HK.out.below hb2); have HB2 := hid (HB.out.trans (hb2.mono HB.out.size)); clear hb2)
        go_ret2
        exact ⟨d, by rw [HI.out]; rfl, HM2.out, HB2.out, HD.out⟩
theorem decode_yes (n : Nat) (s : ByteArray) (w : World) (h1 : 1 ≤ n) (h2 : n ≤ 1000) (hs : s.size ≤ 1000000) (he : encB (decB n s) = s.data.toList) :
    Calls Try.prog 24 #[.int .i64 (n : Int), .string s] w fun e w' => ∃ d : Ptrs, e = .returned (.tuple #[.pointer (some ⟨d.M, 0, none⟩), .int .i64 0]) ∧ Mp w' d (decB n s) ∧ Below w.heap.size w w' ∧ w.heap.size ≤ d.M ∧ w.heap.size ≤ d.W :=
  decode_gen n s w h1 h2 hs (fun d => .tuple #[.pointer (some ⟨d.M, 0, none⟩), .int .i64 0]) (fun _ _ => rfl) (fun h => absurd he h)
theorem decode_no (n : Nat) (s : ByteArray) (w : World) (h1 : 1 ≤ n) (h2 : n ≤ 1000) (hs : s.size ≤ 1000000) (he : encB (decB n s) ≠ s.data.toList) :
    Calls Try.prog 24 #[.int .i64 (n : Int), .string s] w fun e w' => e = .returned (.tuple #[.pointer none, .int .i64 6]) ∧ Below w.heap.size w w' :=
  (decode_gen n s w h1 h2 hs (fun _ => .tuple #[.pointer none, .int .i64 6]) (fun h => absurd h he) (fun _ _ => rfl)).mono fun _ _ ⟨_, h, _, hb, _⟩ => ⟨h, hb⟩
set_option maxHeartbeats 400000 in
theorem decode_bad (n : Int) (s : ByteArray) (w : World) (h : n < 1 ∨ 1000 < n) :
    Calls Try.prog 24 #[.int .i64 n, .string s] w fun e w' => e = .returned (.tuple #[.pointer none, .int .i64 1]) ∧ w = w' := by
  have H : Hid (n < 1 ∨ 1000 < n ∨ (0 : Int) < 0 ∨ n < 0) := hid (by omega)
  clear h
  go_enter Try.func24, Try.ntmps24
  go_wp2_with (go_at_call 8; refine (new_bad n 0 _ H.out).mono ?_; rintro e w1 ⟨rfl, rfl⟩)
  go_ret2
  exact ⟨rfl, rfl⟩
end Go.Proofs.Ytefnofipcjjfpaa.Fr
