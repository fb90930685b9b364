/- BucketReads: the reference's Decode whole, the law's walk. -/
import Derived.Test.YtkjcbfdplhcjpaaBkRDec2
import Derived.Test.YtkjcbfdplhcjpaaBkOpen
namespace Go.Proofs.Ytkjcbfdplhcjpaa.Bk
open Go.RowKit
open Go.Lib (hid)
open Go.Proofs.Ytkjcbfdplhcjpaa.Ky

theorem dec_bad {s : ByteArray} {dim cap : Int} (h : ¬ (1 ≤ dim ∧ dim ≤ 6 ∧ 2 ≤ cap ∧ cap ≤ 16)) : decR s dim cap = ([], 1) := by
  unfold decR decOk takesB
  rw [if_neg (by simp; omega)]
theorem dec_empty {s : ByteArray} {dim cap : Int} (h : decOk dim cap = true) (h0 : s.size = 0) : decR s dim cap = ([], 9) := by
  have hl : s.data.toList = [] := List.length_eq_zero_iff.1 (by rw [Fd.size_list]; exact h0)
  unfold decR
  rw [if_pos h, hl]
  have hc : (readR [] dim.toNat).2.2 = true := by
    unfold readR
    exact recsS_stick [] dim.toNat 0 _ _ (nx_cut [] 0 1 false (by simp)) (Nat.zero_le _)
  rw [if_pos hc]
set_option maxRecDepth 100000 in
set_option maxHeartbeats 4000000 in
theorem refDecode_ok (s : ByteArray) (dim cap : Int) (w : World) (hs : s.size ≤ 300) :
    Calls Try.prog 43 #[.string s, .int .i64 dim, .int .i64 cap] w (DecPost w (decR s dim cap)) := by
  by_cases hd1 : dim < 1
  · rw [dec_bad (by omega)]
    have e1 : decide (dim < 1) = true := by simpa using hd1
    clear hd1
    go_enter Try.func43, Try.ntmps43
    go_wp2_with fail
    go_ret2
    exact dec_none (Below.refl _ _)
  · by_cases hd2 : 6 < dim
    · rw [dec_bad (by omega)]
      have e1 : decide (dim < 1) = false := by simpa using hd1
      have e2 : decide (6 < dim) = true := by simpa using hd2
      clear hd1 hd2
      go_enter Try.func43, Try.ntmps43
      go_wp2_with fail
      go_ret2
      exact dec_none (Below.refl _ _)
    · have e1 : decide (dim < 1) = false := by simpa using hd1
      have e2 : decide (6 < dim) = false := by simpa using hd2
      by_cases hc1 : cap < 2
      · rw [dec_bad (by omega)]
        have e3 : decide (cap < 2) = true := by simpa using hc1
        clear hd1 hd2 hc1
        go_enter Try.func43, Try.ntmps43
        go_wp2_with fail
        go_ret2
        exact dec_none (Below.refl _ _)
      · have e3 : decide (cap < 2) = false := by simpa using hc1
        by_cases hc2 : 16 < cap
        · rw [dec_bad (by omega)]
          have e4 : decide (16 < cap) = true := by simpa using hc2
          clear hd1 hd2 hc1 hc2
          go_enter Try.func43, Try.ntmps43
          go_wp2_with fail
          go_ret2
          exact dec_none (Below.refl _ _)
        · have e4 : decide (16 < cap) = false := by simpa using hc2
          have htk : takesB cap = true := by unfold takesB; simp; omega
          by_cases h0 : s.size = 0
          · rw [dec_empty (by unfold decOk; rw [htk]; simp; omega) h0]
            have hl : s.toList = [] := by rw [ByteArray.toList_eq]; exact List.length_eq_zero_iff.1 (by rw [Fd.size_list]; exact h0)
            have e5 : (s.toList == ([] : List UInt8)) = true := by rw [hl]; rfl
            have e6 : s.toList.isEmpty = true := by rw [hl]; rfl
            clear hd1 hd2 hc1 hc2 htk h0 hl
            go_enter Try.func43, Try.ntmps43
            go_wp2_with fail
            go_ret2
            exact dec_none (Below.refl _ _)
          · obtain ⟨d, rfl⟩ : ∃ d : Nat, dim = (d : Int) := ⟨dim.toNat, by omega⟩
            exact refDecode_go s d cap w hs (by omega) (by omega) (by omega) htk
theorem dec_big (s : ByteArray) (dim cap : Int) : bigR (decR s dim cap).1 := by
  unfold decR
  have hn : bigR ([] : List Rec) := ⟨by simp, fun r hr => by cases hr⟩
  by_cases hd : decOk dim cap = true
  · rw [if_pos hd]
    have hb : bigR (readR s.data.toList dim.toNat).1 := recsS_big _ _ _ _ (by unfold decOk at hd; simp at hd; omega) (by have := nm_lt s.data.toList (0, false) 1 (.inl rfl); omega)
    split
    · exact hn
    · split
      · exact hb
      · exact hn
  · rw [if_neg hd]; exact hn
end Go.Proofs.Ytkjcbfdplhcjpaa.Bk
namespace Go.Proofs.Ytkjcbfdplhcjpaa
open Go.RowKit
open Go.Lib (hid)
open Go.Proofs.Ytkjcbfdplhcjpaa.Ky
open Go.Proofs.Ytkjcbfdplhcjpaa.Bk
set_option maxRecDepth 100000 in
set_option maxHeartbeats 1000000 in
theorem reads_long (s : ByteArray) (d m : Int) (w : World) (hs : 300 < s.size) :
    Calls Try.prog 8 #[.string s, .int .i64 d, .int .i64 m] w fun e w' => e = .returned (.bool true) ∧ Below w.heap.size w w' := by
  have e1 : decide ((300 : Int) < (s.size : Int)) = true := by simp; omega
  clear hs
  go_enter Try.func8, Try.ntmps8
  go_wp2_with fail
  refine (live_any _).mono ?_
  rintro e w2 ⟨rfl, hb⟩
  have H1 := hid hb; clear hb
  go_wp2_with fail
  go_ret
  exact ⟨rfl, H1.out⟩
set_option maxRecDepth 100000 in
set_option maxHeartbeats 4000000 in
theorem reads_go (s : ByteArray) (d m : Int) (w : World) (hs : ¬ 300 < s.size) :
    Calls Try.prog 8 #[.string s, .int .i64 d, .int .i64 m] w fun e w' => e = .returned (.bool true) ∧ Below w.heap.size w w' := by
  have e1 : decide ((300 : Int) < (s.size : Int)) = false := by simp; omega
  have HD := hid fun (V : World) => decode_ok s d m V (by omega)
  have HR := hid fun (V : World) => refDecode_ok s d m V (by omega)
  have HBIG := hid (dec_big s d m)
  generalize decR s d m = r at HD HR HBIG
  obtain ⟨L, n⟩ := r
  have e2 : (n == n) = true := by simp
  clear hs
  go_enter Try.func8, Try.ntmps8
  go_wp2_with fail
  refine (HD.out _).mono ?_
  rintro e w2 ⟨p, c, rfl, _, _, hr, hb⟩
  have H2 := hid (((Ct.start w).step hb).list hr); clear hb hr
  go_wp2_with fail
  refine (HR.out _).mono ?_
  rintro e w3 ⟨q, c', rfl, _, _, hr, hb⟩
  have H3 := hid ((H2.out.step hb).list hr); clear hb hr H2
  go_wp2_with fail
  refine (v9 L HBIG.out rfl (H3.out.rs (p := p) (by simp)) (H3.out.rs (p := q) (by simp))).mono ?_
  rintro e w4 ⟨rfl, hb⟩
  have H4 := hid (H3.out.step hb); clear hb H3
  go_wp2_with fail
  refine (live_any _).mono ?_
  rintro e w5 ⟨rfl, hb⟩
  have H5 := hid (H4.out.step hb); clear hb
  go_wp2_with fail
  go_ret
  exact ⟨rfl, H5.out.below⟩
theorem BucketReads_walk (s : ByteArray) (d m : Int) (w : World) (_ : s.size ≤ maxLen) (_ : (Lit.int .i64 d).wf = true) (_ : (Lit.int .i64 m).wf = true) :
    Calls Try.prog 8 #[.string s, .int .i64 d, .int .i64 m] w fun e w' => e = .returned (.bool true) ∧ Below w.heap.size w w' := by
  by_cases h : 300 < s.size
  · exact reads_long s d m w h
  · exact reads_go s d m w h
end Go.Proofs.Ytkjcbfdplhcjpaa
