/- Encode of entry, whatever entry it is asked for. -/
import Derived.Test.YtigaddpjmgncmaaDoorEnEnc
namespace Go.Proofs.YtigaddpjmgncmaaDoor.En
open Go.RowKit
open Go.Lib (hid)
open Go.Proofs.YtigaddpjmgncmaaDoor.Fd (be be_length num getAt putAt)

theorem noP_iff (pk pn : Int) (b : ByteArray) : noP pk pn b = true ↔ pk = 0 ∧ pn = 0 ∧ b = ⟨#[]⟩ := by
  unfold noP pageB
  simp only [Bool.and_eq_true, beq_iff_eq]
  constructor
  · rintro ⟨h1, h2, h3⟩
    refine ⟨h1, h2, ?_⟩
    rw [Go.ByteArray.toList_eq, Go.ByteArray.toList_eq] at h3
    apply ByteArray.ext
    rw [← Array.toList_inj]; exact h3
  · rintro ⟨h1, h2, rfl⟩
    exact ⟨h1, h2, rfl⟩
open Classical in
/-- what Encode answers -/
noncomputable def encR (kd tx ix pk pn : Int) (b : ByteArray) (ct sm : Int) : ByteArray × Int :=
  if mayE kd tx ix pk pn b ct sm then (⟨(encE kd.toNat tx.toNat ix.toNat pk.toNat pn.toNat b.data.toList ct.toNat sm.toNat).toArray⟩, 0) else (⟨#[]⟩, 1)
theorem encR_yes {kd tx ix pk pn : Int} {b : ByteArray} {ct sm : Int} (h : mayE kd tx ix pk pn b ct sm) : encR kd tx ix pk pn b ct sm = (⟨(encE kd.toNat tx.toNat ix.toNat pk.toNat pn.toNat b.data.toList ct.toNat sm.toNat).toArray⟩, 0) := if_pos h
theorem encR_no {kd tx ix pk pn : Int} {b : ByteArray} {ct sm : Int} (h : ¬ mayE kd tx ix pk pn b ct sm) : encR kd tx ix pk pn b ct sm = (⟨#[]⟩, 1) := if_neg h
/-- an entry that may be is of one of three kinds -/
theorem may_kinds {kd tx ix pk pn : Int} {b : ByteArray} {ct sm : Int} (hsm : 0 ≤ sm) (h : mayE kd tx ix pk pn b ct sm) :
    (∃ T I K N : Nat, kd = 1 ∧ tx = T ∧ ix = I ∧ pk = K ∧ pn = N ∧ ct = 0 ∧ sm = 0) ∨ (∃ T I S : Nat, kd = 2 ∧ tx = T ∧ ix = I ∧ pk = 0 ∧ pn = 0 ∧ b = ⟨#[]⟩ ∧ ct = I ∧ sm = S) ∨ (∃ T I : Nat, kd = 3 ∧ tx = T ∧ ix = I ∧ pk = 0 ∧ pn = 0 ∧ b = ⟨#[]⟩ ∧ ct = 0 ∧ sm = 0) := by
  obtain ⟨h1, h2, h3, h4, hr⟩ := h
  rcases hr with ⟨rfl, hs, rfl, rfl⟩ | ⟨rfl, hc, he, hn⟩ | ⟨rfl, hn, rfl, rfl⟩
  · obtain ⟨_, g1, g2, g3, g4, _⟩ := hs
    exact .inl ⟨tx.toNat, ix.toNat, pk.toNat, pn.toNat, rfl, by omega, by omega, by omega, by omega, rfl, rfl⟩
  · obtain ⟨rfl, rfl, rfl⟩ := (noP_iff _ _ _).1 hn
    exact .inr (.inl ⟨tx.toNat, ix.toNat, sm.toNat, rfl, by omega, by omega, rfl, rfl, rfl, by omega, by omega⟩)
  · obtain ⟨rfl, rfl, rfl⟩ := (noP_iff _ _ _).1 hn
    exact .inr (.inr ⟨tx.toNat, ix.toNat, rfl, by omega, by omega, rfl, rfl, rfl, rfl, rfl⟩)
theorem encode_any (kd tx ix pk pn : Int) (b : ByteArray) (ct sm : Int) (w : World) (hL : Lst w) (hx : tx ≤ 9223372036854775807) (hs : 0 ≤ sm) (hs2 : sm < 4294967296) :
    Calls Tryd.prog 9 #[.agg (entC kd tx ix pk pn b ct sm)] w fun e w' => e = .returned (.tuple #[.string (encR kd tx ix pk pn b ct sm).1, .int .i64 (encR kd tx ix pk pn b ct sm).2]) ∧ Below w.heap.size w w' := by
  by_cases h : mayE kd tx ix pk pn b ct sm
  · rw [encR_yes h]
    rcases may_kinds hs h with ⟨T, I, K, N, rfl, rfl, rfl, rfl, rfl, rfl, rfl⟩ | ⟨T, I, S, rfl, rfl, rfl, rfl, rfl, rfl, rfl, rfl⟩ | ⟨T, I, rfl, rfl, rfl, rfl, rfl, rfl, rfl, rfl⟩
    · exact encode_stage T I K N b w hL h
    · exact encode_commit T I S (by omega) w hL h
    · exact encode_abort T I w hL h
  · rw [encR_no h]
    exact encode_no kd tx ix pk pn ct sm b w hx h
/-- what was encoded is not empty, and of at most 244 bytes -/
theorem encR_size {kd tx ix pk pn : Int} {b : ByteArray} {ct sm : Int} (hs : 0 ≤ sm) (h : mayE kd tx ix pk pn b ct sm) : 7 ≤ (encR kd tx ix pk pn b ct sm).1.size ∧ (encR kd tx ix pk pn b ct sm).1.size ≤ 244 := by
  rw [encR_yes h]
  have hb : b.data.toList.length = b.size := by simp
  show 7 ≤ (encE _ _ _ _ _ _ _ _).toArray.size ∧ (encE _ _ _ _ _ _ _ _).toArray.size ≤ 244
  rw [List.size_toArray]
  have h' := h
  obtain ⟨_, _, _, _, hr⟩ := h
  rcases may_kinds hs h' with ⟨T, I, K, N, rfl, rfl, rfl, rfl, rfl, rfl, rfl⟩ | ⟨T, I, S, rfl, rfl, rfl, rfl, rfl, rfl, rfl, rfl⟩ | ⟨T, I, rfl, rfl, rfl, rfl, rfl, rfl, rfl, rfl⟩
  · change 7 ≤ (encE 1 T I K N b.data.toList 0 0).length ∧ (encE 1 T I K N b.data.toList 0 0).length ≤ 244
    rw [encE_length _ _ _ _ _ _ _ _ (.inl rfl) (fun h => absurd rfl h)]
    have : b.size ≤ 230 := by rcases hr with hr | hr | hr; exact hr.2.1.2.2.2.2.2; exact absurd hr.1 (by decide); exact absurd hr.1 (by decide)
    show 7 ≤ 10 + _ ∧ 10 + _ ≤ 244
    omega
  · change 7 ≤ (encE 2 T I 0 0 [] I S).length ∧ (encE 2 T I 0 0 [] I S).length ≤ 244
    rw [encE_length _ _ _ _ _ _ _ _ (.inr (.inl rfl)) (fun _ => rfl)]
    exact ⟨by decide, by decide⟩
  · change 7 ≤ (encE 3 T I 0 0 [] 0 0).length ∧ (encE 3 T I 0 0 [] 0 0).length ≤ 244
    rw [encE_length _ _ _ _ _ _ _ _ (.inr (.inr rfl)) (fun _ => rfl)]
    exact ⟨by decide, by decide⟩
end Go.Proofs.YtigaddpjmgncmaaDoor.En
