/- What Decode of the code answers, whatever the text. -/
import Derived.Test.YtigaddpjmgncmaaDoorEnPl
namespace Go.Proofs.YtigaddpjmgncmaaDoor.En
open Go.RowKit
open Go.Lib (hid)

theorem cut_pos (s : ByteArray) (h0 : 0 < s.size) (V : World) (hV : Lst V) : Calls Tryd.prog 29 #[.string s] V fun e w' => e = .returned (.bool (decide (s.size < leastN s[0].toNat))) ∧ w' = V := by
  by_cases g0 : s[0].toNat = 0
  · rw [g0]; exact cut_k s 0 0 V h0 g0 (by decide) hV.c0
  · by_cases g1 : s[0].toNat = 1
    · rw [g1]; exact cut_k s 1 10 V h0 g1 (by decide) hV.c1
    · by_cases g2 : s[0].toNat = 2
      · rw [g2]; exact cut_k s 2 13 V h0 g2 (by decide) hV.c2
      · by_cases g3 : s[0].toNat = 3
        · rw [g3]; exact cut_k s 3 7 V h0 g3 (by decide) hV.c3
        · rw [show leastN s[0].toNat = 0 by simp [leastN, g1, g2, g3]]
          exact cut_far s V h0 (by omega)
/-- whatever the text: an error and no entry, or the entry whose text it is -/
theorem dec_any (s : ByteArray) (hs : s.size ≤ 4096) :
    (∃ c : Int, c ≠ 0 ∧ ∀ V : World, Lst V → Calls Tryd.prog 16 #[.string s] V fun e w' => e = .returned (.tuple #[.agg (entC 0 0 0 0 0 ⟨#[]⟩ 0 0), .int .i64 c]) ∧ Below V.heap.size V w') ∨
    ∃ kd tx ix pk pn b ct sm, 0 ≤ sm ∧ sm < 4294967296 ∧ tx ≤ 9223372036854775807 ∧ mayE kd tx ix pk pn b ct sm ∧ (encR kd tx ix pk pn b ct sm).1 = s ∧ ∀ V : World, Lst V → Calls Tryd.prog 16 #[.string s] V fun e w' => e = .returned (.tuple #[.agg (entC kd tx ix pk pn b ct sm), .int .i64 0]) ∧ Below V.heap.size V w' := by
  by_cases h0 : 0 < s.size
  · by_cases hn : s.size < leastN s[0].toNat
    · exact .inl ⟨9, by decide, fun V hV => decode_cut s V (fun X hX => by have h := cut_pos s h0 X hX; rw [decide_eq_true hn] at h; exact h) hV⟩
    · have hC : ∀ X : World, Lst X → Calls Tryd.prog 29 #[.string s] X fun e w' => e = .returned (.bool false) ∧ w' = X := fun X hX => by
        have h := cut_pos s h0 X hX; rw [decide_eq_false hn] at h; exact h
      obtain ⟨kd, tx, ix, pk, pn, b, ct, sm, hr⟩ := rd_ex s (fun h => by
        rw [first_at s h0] at h
        rw [h] at hn
        have : leastN 1 = 10 := rfl
        omega)
      by_cases hq : (encR kd tx ix pk pn b ct sm).1 = s
      · refine .inr ⟨kd, tx, ix, pk, pn, b, ct, sm, hr.fit.2.1, hr.fit.2.2, hr.fit.1, ?_, hq, fun V hV => decode_ok s kd tx ix pk pn b ct sm V hs hr hC hV hq⟩
        rcases Classical.em (mayE kd tx ix pk pn b ct sm) with h | h
        · exact h
        · rw [encR_no h] at hq
          rw [← hq] at h0
          exact absurd h0 (by decide)
      · exact .inl ⟨6, by decide, fun V hV => decode_bad s kd tx ix pk pn b ct sm V hs hr hC hV hq⟩
  · exact .inl ⟨9, by decide, fun V hV => decode_cut s V (fun X _ => by rw [no_size h0]; exact cut_nil X) hV⟩
theorem enc_size {kd tx ix pk pn : Int} {b : ByteArray} {ct sm : Int} (hs : 0 ≤ sm) (h : mayE kd tx ix pk pn b ct sm) : leastN kd.toNat ≤ (encR kd tx ix pk pn b ct sm).1.size := by
  rw [encR_yes h]
  show _ ≤ (encE _ _ _ _ _ _ _ _).toArray.size
  rw [List.size_toArray]
  rcases may_kinds hs h with ⟨T, I, K, N, rfl, rfl, rfl, rfl, rfl, rfl, rfl⟩ | ⟨T, I, S, rfl, rfl, rfl, rfl, rfl, rfl, rfl, rfl⟩ | ⟨T, I, rfl, rfl, rfl, rfl, rfl, rfl, rfl, rfl⟩
  · rw [encE_length (Int.toNat 1) _ _ _ _ _ _ _ (.inl rfl) (fun h => absurd rfl h)]; exact Nat.le_add_right _ _
  · rw [encE_length (Int.toNat 2) _ _ _ _ _ _ _ (.inr (.inl rfl)) (fun _ => rfl)]; exact Nat.le_add_right _ _
  · rw [encE_length (Int.toNat 3) _ _ _ _ _ _ _ (.inr (.inr rfl)) (fun _ => rfl)]; exact Nat.le_add_right _ _
/-- what is written is decoded -/
theorem dec_enc {kd tx ix pk pn : Int} {b : ByteArray} {ct sm : Int} (hs : 0 ≤ sm) (hs2 : sm < 4294967296) (h : mayE kd tx ix pk pn b ct sm) (V : World) (hV : Lst V) :
    Calls Tryd.prog 16 #[.string (encR kd tx ix pk pn b ct sm).1] V fun e w' => e = .returned (.tuple #[.agg (entC kd tx ix pk pn b ct sm), .int .i64 0]) ∧ Below V.heap.size V w' := by
  have hr := rd_enc hs hs2 h
  have hz := encR_size hs h
  have hl := enc_size hs h
  have h0 : 0 < (encR kd tx ix pk pn b ct sm).1.size := by omega
  have hk : kd.toNat = (encR kd tx ix pk pn b ct sm).1[0].toNat := by
    rw [← first_at _ h0]
    have := hr.2.2.1
    omega
  refine decode_ok _ kd tx ix pk pn b ct sm V (by omega) hr (fun X hX => ?_) hV rfl
  have h2 := cut_pos _ h0 X hX
  rw [← hk, decide_eq_false (by omega)] at h2
  exact h2
end Go.Proofs.YtigaddpjmgncmaaDoor.En
