/- Both Decodes answer the same, whatever text of at most 300 bytes. -/
import Derived.Test.YtigaddpjmgncmaaDoorEnRefD
namespace Go.Proofs.YtigaddpjmgncmaaDoor.En
open Go.RowKit
open Go.Lib (hid)
open Go.Proofs.YtigaddpjmgncmaaDoor.Fd (be be_length num getAt)

/-- what both Decodes answer to a text -/
def Both (s : ByteArray) (kd tx ix pk pn : Int) (b : ByteArray) (ct sm c : Int) : Prop :=
  (∀ V : World, Lst V → Calls Tryd.prog 16 #[.string s] V fun e w' => e = .returned (.tuple #[.agg (entC kd tx ix pk pn b ct sm), .int .i64 c]) ∧ Below V.heap.size V w') ∧
  (∀ V : World, Calls Tryd.prog 17 #[.string s] V fun e w' => e = .returned (.tuple #[.agg (entC kd tx ix pk pn b ct sm), .int .i64 c]) ∧ Below V.heap.size V w')
theorem enc_three (kd tx ix pk pn : Int) (b : ByteArray) (ct sm : Int) (s : ByteArray) (h : 0 < s.size) :
    ((encR kd tx ix pk pn b ct sm).2 = 1 ∧ (encR kd tx ix pk pn b ct sm).1 ≠ s) ∨ ((encR kd tx ix pk pn b ct sm).2 = 0 ∧ (encR kd tx ix pk pn b ct sm).1 ≠ s) ∨ ((encR kd tx ix pk pn b ct sm).2 = 0 ∧ (encR kd tx ix pk pn b ct sm).1 = s) := by
  by_cases hm : mayE kd tx ix pk pn b ct sm
  · have h2 : (encR kd tx ix pk pn b ct sm).2 = 0 := by rw [encR_yes hm]
    by_cases h1 : (encR kd tx ix pk pn b ct sm).1 = s
    · exact .inr (.inr ⟨h2, h1⟩)
    · exact .inr (.inl ⟨h2, h1⟩)
  · left
    rw [encR_no hm]
    refine ⟨rfl, fun h1 => ?_⟩
    have h1' : (⟨#[]⟩ : ByteArray) = s := h1
    rw [← h1'] at h; exact absurd h (by decide)
theorem body_at (s : ByteArray) : s.extract 10 s.size = ⟨(getAt s.data.toList 10 (s.size - 10)).toArray⟩ := by
  apply ByteArray.ext
  rw [← Array.toList_inj, ex_list]
  rfl
theorem no_size {s : ByteArray} (h : ¬ 0 < s.size) : s = ⟨#[]⟩ := by
  apply ByteArray.ext
  apply Array.eq_empty_of_size_eq_zero
  show s.size = 0
  omega
theorem both_far (s : ByteArray) (hs : s.size ≤ 300) (h0 : 0 < s.size) (hC : ∀ V : World, Lst V → Calls Tryd.prog 29 #[.string s] V fun e w' => e = .returned (.bool false) ∧ w' = V) (g1 : s[0].toNat ≠ 1) (g2 : s[0].toNat ≠ 2) (g3 : s[0].toNat ≠ 3) : Both s 0 0 0 0 0 ⟨#[]⟩ 0 0 6 := by
  have hk := first_at s h0
  refine ⟨fun V hL => ?_, fun V => refdec_far s _ V h0 rfl g1 g2 g3⟩
  obtain ⟨kd, tx, ix, pk, pn, b, ct, sm, hr⟩ := rd_ex s (by omega)
  refine decode_bad s kd tx ix pk pn b ct sm V (by omega) hr hC hL ?_
  have hkd : kd = (getOr s.data.toList 0 1 : Nat) := hr.2.2.1
  have hm : ¬ mayE kd tx ix pk pn b ct sm := by
    rintro ⟨-, -, -, -, h | h | h⟩
    · have := h.1; omega
    · have := h.1; omega
    · have := h.1; omega
  rw [encR_no hm]
  intro h1
  have h1' : (⟨#[]⟩ : ByteArray) = s := h1
  rw [← h1'] at h0; exact absurd h0 (by decide)
theorem both_1 (s : ByteArray) (hs : s.size ≤ 300) (h0 : 0 < s.size) (hk : s[0].toNat = 1) : ∃ kd tx ix pk pn b ct sm c, 0 ≤ sm ∧ sm < 4294967296 ∧ Both s kd tx ix pk pn b ct sm c := by
  by_cases hn : s.size < 10
  · refine ⟨0, 0, 0, 0, 0, ⟨#[]⟩, 0, 0, 9, by decide, by decide, fun V hL => decode_cut s V (fun X hX => ?_) hL, fun V => refdec_cut1 s V h0 hk hn⟩
    have h2 := cut_k s 1 10 X h0 hk (by decide) hX.c1
    rw [show decide (s.size < 10) = true by simpa using hn] at h2
    exact h2
  · have hC : ∀ X : World, Lst X → Calls Tryd.prog 29 #[.string s] X fun e w' => e = .returned (.bool false) ∧ w' = X := fun X hX => by
      have h2 := cut_k s 1 10 X h0 hk (by decide) hX.c1
      rw [show decide (s.size < 10) = false by simpa using hn] at h2
      exact h2
    have hf := first_at s h0
    have hr : Rd s 1 (getOr s.data.toList 1 4) (getOr s.data.toList 5 2) (getOr s.data.toList 7 1) (getOr s.data.toList 8 2) (s.extract 10 s.size) 0 0 := ⟨rfl, rfl, by rw [hf, hk]; rfl, .inl ⟨rfl, by omega, rfl, rfl, body_at s, rfl, rfl⟩⟩
    rcases enc_three 1 (getOr s.data.toList 1 4) (getOr s.data.toList 5 2) (getOr s.data.toList 7 1) (getOr s.data.toList 8 2) (s.extract 10 s.size) 0 0 s h0 with ⟨h1, h2⟩ | ⟨h1, h2⟩ | ⟨h1, h2⟩
    · exact ⟨0, 0, 0, 0, 0, ⟨#[]⟩, 0, 0, 6, by decide, by decide, fun V hL => decode_bad s _ _ _ _ _ _ _ _ V (by omega) hr hC hL h2, fun V => refdec_stageA s V h0 hk (by omega) hs h1⟩
    · exact ⟨0, 0, 0, 0, 0, ⟨#[]⟩, 0, 0, 6, by decide, by decide, fun V hL => decode_bad s _ _ _ _ _ _ _ _ V (by omega) hr hC hL h2, fun V => refdec_stageB s V h0 hk (by omega) hs ⟨h1, h2⟩⟩
    · exact ⟨_, _, _, _, _, _, _, _, 0, hr.fit.2.1, hr.fit.2.2, fun V hL => decode_ok s _ _ _ _ _ _ _ _ V (by omega) hr hC hL h2, fun V => refdec_stageC s V h0 hk (by omega) hs ⟨h1, h2⟩⟩
theorem both_2 (s : ByteArray) (hs : s.size ≤ 300) (h0 : 0 < s.size) (hk : s[0].toNat = 2) : ∃ kd tx ix pk pn b ct sm c, 0 ≤ sm ∧ sm < 4294967296 ∧ Both s kd tx ix pk pn b ct sm c := by
  by_cases hn : s.size < 13
  · refine ⟨0, 0, 0, 0, 0, ⟨#[]⟩, 0, 0, 9, by decide, by decide, fun V hL => decode_cut s V (fun X hX => ?_) hL, fun V => refdec_cut2 s V h0 hk hn⟩
    have h2 := cut_k s 2 13 X h0 hk (by decide) hX.c2
    rw [show decide (s.size < 13) = true by simpa using hn] at h2
    exact h2
  · have hC : ∀ X : World, Lst X → Calls Tryd.prog 29 #[.string s] X fun e w' => e = .returned (.bool false) ∧ w' = X := fun X hX => by
      have h2 := cut_k s 2 13 X h0 hk (by decide) hX.c2
      rw [show decide (s.size < 13) = false by simpa using hn] at h2
      exact h2
    have hf := first_at s h0
    have hr : Rd s 2 (getOr s.data.toList 1 4) (getOr s.data.toList 5 2) 0 0 ⟨#[]⟩ (getOr s.data.toList 7 2) (getOr s.data.toList 9 4) := ⟨rfl, rfl, by rw [hf, hk]; rfl, .inr (.inl ⟨rfl, rfl, rfl, rfl, rfl, rfl⟩)⟩
    rcases enc_three 2 (getOr s.data.toList 1 4) (getOr s.data.toList 5 2) 0 0 ⟨#[]⟩ (getOr s.data.toList 7 2) (getOr s.data.toList 9 4) s h0 with ⟨h1, h2⟩ | ⟨h1, h2⟩ | ⟨h1, h2⟩
    · exact ⟨0, 0, 0, 0, 0, ⟨#[]⟩, 0, 0, 6, by decide, by decide, fun V hL => decode_bad s _ _ _ _ _ _ _ _ V (by omega) hr hC hL h2, fun V => refdec_commitA s V h0 hk (by omega) hs h1⟩
    · exact ⟨0, 0, 0, 0, 0, ⟨#[]⟩, 0, 0, 6, by decide, by decide, fun V hL => decode_bad s _ _ _ _ _ _ _ _ V (by omega) hr hC hL h2, fun V => refdec_commitB s V h0 hk (by omega) hs ⟨h1, h2⟩⟩
    · exact ⟨_, _, _, _, _, _, _, _, 0, hr.fit.2.1, hr.fit.2.2, fun V hL => decode_ok s _ _ _ _ _ _ _ _ V (by omega) hr hC hL h2, fun V => refdec_commitC s V h0 hk (by omega) hs ⟨h1, h2⟩⟩
theorem both_3 (s : ByteArray) (hs : s.size ≤ 300) (h0 : 0 < s.size) (hk : s[0].toNat = 3) : ∃ kd tx ix pk pn b ct sm c, 0 ≤ sm ∧ sm < 4294967296 ∧ Both s kd tx ix pk pn b ct sm c := by
  by_cases hn : s.size < 7
  · refine ⟨0, 0, 0, 0, 0, ⟨#[]⟩, 0, 0, 9, by decide, by decide, fun V hL => decode_cut s V (fun X hX => ?_) hL, fun V => refdec_cut3 s V h0 hk hn⟩
    have h2 := cut_k s 3 7 X h0 hk (by decide) hX.c3
    rw [show decide (s.size < 7) = true by simpa using hn] at h2
    exact h2
  · have hC : ∀ X : World, Lst X → Calls Tryd.prog 29 #[.string s] X fun e w' => e = .returned (.bool false) ∧ w' = X := fun X hX => by
      have h2 := cut_k s 3 7 X h0 hk (by decide) hX.c3
      rw [show decide (s.size < 7) = false by simpa using hn] at h2
      exact h2
    have hf := first_at s h0
    have hr : Rd s 3 (getOr s.data.toList 1 4) (getOr s.data.toList 5 2) 0 0 ⟨#[]⟩ 0 0 := ⟨rfl, rfl, by rw [hf, hk]; rfl, .inr (.inr ⟨by decide, by decide, rfl, rfl, rfl, rfl, rfl⟩)⟩
    rcases enc_three 3 (getOr s.data.toList 1 4) (getOr s.data.toList 5 2) 0 0 ⟨#[]⟩ 0 0 s h0 with ⟨h1, h2⟩ | ⟨h1, h2⟩ | ⟨h1, h2⟩
    · exact ⟨0, 0, 0, 0, 0, ⟨#[]⟩, 0, 0, 6, by decide, by decide, fun V hL => decode_bad s _ _ _ _ _ _ _ _ V (by omega) hr hC hL h2, fun V => refdec_abortA s V h0 hk (by omega) hs h1⟩
    · exact ⟨0, 0, 0, 0, 0, ⟨#[]⟩, 0, 0, 6, by decide, by decide, fun V hL => decode_bad s _ _ _ _ _ _ _ _ V (by omega) hr hC hL h2, fun V => refdec_abortB s V h0 hk (by omega) hs ⟨h1, h2⟩⟩
    · exact ⟨_, _, _, _, _, _, _, _, 0, hr.fit.2.1, hr.fit.2.2, fun V hL => decode_ok s _ _ _ _ _ _ _ _ V (by omega) hr hC hL h2, fun V => refdec_abortC s V h0 hk (by omega) hs ⟨h1, h2⟩⟩
/-- both answer the same -/
theorem both_any (s : ByteArray) (hs : s.size ≤ 300) : ∃ kd tx ix pk pn b ct sm c, 0 ≤ sm ∧ sm < 4294967296 ∧ Both s kd tx ix pk pn b ct sm c := by
  by_cases h0 : 0 < s.size
  · by_cases g1 : s[0].toNat = 1
    · exact both_1 s hs h0 g1
    · by_cases g2 : s[0].toNat = 2
      · exact both_2 s hs h0 g2
      · by_cases g3 : s[0].toNat = 3
        · exact both_3 s hs h0 g3
        · refine ⟨0, 0, 0, 0, 0, ⟨#[]⟩, 0, 0, 6, by decide, by decide, both_far s hs h0 (fun X hX => ?_) g1 g2 g3⟩
          by_cases g4 : 4 ≤ s[0].toNat
          · exact cut_far s X h0 g4
          · have h2 := cut_k s 0 0 X h0 (by omega) (by decide) hX.c0
            rw [show decide (s.size < 0) = false by simp] at h2
            exact h2
  · obtain rfl := no_size h0
    exact ⟨0, 0, 0, 0, 0, ⟨#[]⟩, 0, 0, 9, by decide, by decide, fun V hL => decode_cut _ V (fun X _ => cut_nil X) hL, fun V => refdec_nil V⟩
end Go.Proofs.YtigaddpjmgncmaaDoor.En
