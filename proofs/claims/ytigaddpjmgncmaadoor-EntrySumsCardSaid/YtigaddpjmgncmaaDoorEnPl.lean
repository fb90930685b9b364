/- What is written reads as what was written; so unlike entries have unlike bytes. Plain. -/
import Derived.Test.YtigaddpjmgncmaaDoorEnLiv2
import Derived.Test.YtigaddpjmgncmaaDoorEnOwn
namespace Go.Proofs.YtigaddpjmgncmaaDoor.En
open Go.RowKit
open Go.Lib (hid)
open Go.Proofs.YtigaddpjmgncmaaDoor.Fd (be be_length num num_be getAt)

theorem getOr_be (l A B : List UInt8) (o wd x : Nat) (e : l = A ++ (be wd x ++ B)) (ho : A.length = o) (hx : x < 256 ^ wd) : getOr l o wd = x := by
  subst ho; subst e
  unfold getOr
  rw [if_pos (by simp [be_length])]
  unfold getAt
  rw [List.drop_left, List.take_left' (be_length wd x)]
  exact num_be wd x hx
theorem enc_list (x : List UInt8) : (⟨x.toArray⟩ : ByteArray).data.toList = x := by simp
/-- what is written reads as the entry -/
theorem rd_enc {kd tx ix pk pn : Int} {b : ByteArray} {ct sm : Int} (hs : 0 ≤ sm) (hs2 : sm < 4294967296) (h : mayE kd tx ix pk pn b ct sm) : Rd (encR kd tx ix pk pn b ct sm).1 kd tx ix pk pn b ct sm := by
  rw [encR_yes h]
  obtain ⟨h1, h2, h3, h4, h5⟩ := h
  have h5' := h5
  rcases may_kinds hs ⟨h1, h2, h3, h4, h5⟩ with ⟨T, I, K, N, rfl, rfl, rfl, rfl, rfl, rfl, rfl⟩ | ⟨T, I, S, rfl, rfl, rfl, rfl, rfl, rfl, rfl, rfl⟩ | ⟨T, I, rfl, rfl, rfl, rfl, rfl, rfl, rfl, rfl⟩
  · have hm : mayS K N b := by
      rcases h5 with ⟨-, h, -⟩ | ⟨h, -⟩ | ⟨h, -⟩
      · exact h
      · exact absurd h (by decide)
      · exact absurd h (by decide)
    obtain ⟨-, m1, m2, m3, m4, m5⟩ := hm
    have e : encE (1 : Int).toNat (T : Int).toNat (I : Int).toNat (K : Int).toNat (N : Int).toNat b.data.toList (0 : Int).toNat (0 : Int).toNat = be 1 1 ++ (be 4 T ++ (be 2 I ++ (be 1 K ++ (be 2 N ++ b.data.toList)))) := by
      simp [encE, headE]
    rw [e]
    refine ⟨?_, ?_, ?_, .inl ⟨rfl, ?_, ?_, ?_, ?_, rfl, rfl⟩⟩
    · rw [enc_list, getOr_be _ (be 1 1) _ 1 4 T rfl (be_length _ _) (by omega)]
    · rw [enc_list, getOr_be _ (be 1 1 ++ be 4 T) _ 5 2 I (by first | (simp only [List.append_assoc]; rfl) | simp only [List.append_assoc]) (by simp [be_length]) (by omega)]
    · rw [enc_list]; exact (congrArg (Nat.cast : Nat → Int) (getOr_be _ [] _ 0 1 1 rfl rfl (by decide))).symm
    · show 10 ≤ (be 1 1 ++ (be 4 T ++ (be 2 I ++ (be 1 K ++ (be 2 N ++ b.data.toList))))).toArray.size
      simp [be_length]; omega
    · rw [enc_list, getOr_be _ (be 1 1 ++ (be 4 T ++ be 2 I)) _ 7 1 K (by first | (simp only [List.append_assoc]; rfl) | simp only [List.append_assoc]) (by simp [be_length]) (by omega)]
    · rw [enc_list, getOr_be _ (be 1 1 ++ (be 4 T ++ (be 2 I ++ be 1 K))) _ 8 2 N (by first | (simp only [List.append_assoc]; rfl) | simp only [List.append_assoc]) (by simp [be_length]) (by omega)]
    · rw [enc_list]
      apply ByteArray.ext
      rw [show (⟨(be 1 1 ++ (be 4 T ++ (be 2 I ++ (be 1 K ++ (be 2 N ++ b.data.toList))))).toArray⟩ : ByteArray).size - 10 = b.data.toList.length by
        show (be 1 1 ++ (be 4 T ++ (be 2 I ++ (be 1 K ++ (be 2 N ++ b.data.toList))))).toArray.size - 10 = _
        simp [be_length]; omega]
      rw [show be 1 1 ++ (be 4 T ++ (be 2 I ++ (be 1 K ++ (be 2 N ++ b.data.toList)))) = (be 1 1 ++ (be 4 T ++ (be 2 I ++ (be 1 K ++ be 2 N)))) ++ b.data.toList by simp only [List.append_assoc]]
      unfold getAt
      rw [show (10 : Nat) = (be 1 1 ++ (be 4 T ++ (be 2 I ++ (be 1 K ++ be 2 N)))).length by simp [be_length], List.drop_left, List.take_length]
  · have hc : 1 ≤ (I : Int) := by
      rcases h5 with ⟨h, -⟩ | ⟨-, h, -⟩ | ⟨h, -⟩
      · exact absurd h (by decide)
      · exact h
      · exact absurd h (by decide)
    have e : encE (2 : Int).toNat (T : Int).toNat (I : Int).toNat (0 : Int).toNat (0 : Int).toNat (⟨#[]⟩ : ByteArray).data.toList (I : Int).toNat (S : Int).toNat = be 1 2 ++ (be 4 T ++ (be 2 I ++ (be 2 I ++ (be 4 S ++ [])))) := by
      simp [encE, headE]
    rw [e]
    refine ⟨?_, ?_, ?_, .inr (.inl ⟨rfl, rfl, rfl, rfl, ?_, ?_⟩)⟩
    · rw [enc_list, getOr_be _ (be 1 2) _ 1 4 T rfl (be_length _ _) (by omega)]
    · rw [enc_list, getOr_be _ (be 1 2 ++ be 4 T) _ 5 2 I (by first | (simp only [List.append_assoc]; rfl) | simp only [List.append_assoc]) (by simp [be_length]) (by omega)]
    · rw [enc_list]; exact (congrArg (Nat.cast : Nat → Int) (getOr_be _ [] _ 0 1 2 rfl rfl (by decide))).symm
    · rw [enc_list, getOr_be _ (be 1 2 ++ (be 4 T ++ be 2 I)) _ 7 2 I (by first | (simp only [List.append_assoc]; rfl) | simp only [List.append_assoc]) (by simp [be_length]) (by omega)]
    · rw [enc_list, getOr_be _ (be 1 2 ++ (be 4 T ++ (be 2 I ++ be 2 I))) [] 9 4 S (by first | (simp only [List.append_assoc]; rfl) | simp only [List.append_assoc]) (by simp [be_length]) (by omega)]
  · have e : encE (3 : Int).toNat (T : Int).toNat (I : Int).toNat (0 : Int).toNat (0 : Int).toNat (⟨#[]⟩ : ByteArray).data.toList (0 : Int).toNat (0 : Int).toNat = be 1 3 ++ (be 4 T ++ (be 2 I ++ [])) := by
      simp [encE, headE]
    rw [e]
    refine ⟨?_, ?_, ?_, .inr (.inr ⟨by decide, by decide, rfl, rfl, rfl, rfl, rfl⟩)⟩
    · rw [enc_list, getOr_be _ (be 1 3) _ 1 4 T rfl (be_length _ _) (by omega)]
    · rw [enc_list, getOr_be _ (be 1 3 ++ be 4 T) [] 5 2 I (by first | (simp only [List.append_assoc]; rfl) | simp only [List.append_assoc]) (by simp [be_length]) (by omega)]
    · rw [enc_list]; exact (congrArg (Nat.cast : Nat → Int) (getOr_be _ [] _ 0 1 3 rfl rfl (by decide))).symm
/-- one text reads as one entry -/
theorem Rd.same {s : ByteArray} {kd tx ix pk pn : Int} {b : ByteArray} {ct sm : Int} {kd' tx' ix' pk' pn' : Int} {b' : ByteArray} {ct' sm' : Int} (h : Rd s kd tx ix pk pn b ct sm) (h' : Rd s kd' tx' ix' pk' pn' b' ct' sm') :
    kd = kd' ∧ tx = tx' ∧ ix = ix' ∧ pk = pk' ∧ pn = pn' ∧ b = b' ∧ ct = ct' ∧ sm = sm' := by
  obtain ⟨t1, i1, k1, r1⟩ := h
  obtain ⟨t2, i2, k2, r2⟩ := h'
  have ek : kd = kd' := by rw [k1, k2]
  refine ⟨ek, by rw [t1, t2], by rw [i1, i2], ?_⟩
  rcases r1 with ⟨a1, -, a2, a3, a4, a5, a6⟩ | ⟨a1, a2, a3, a4, a5, a6⟩ | ⟨a0, a1, a2, a3, a4, a5, a6⟩ <;> rcases r2 with ⟨c1, -, c2, c3, c4, c5, c6⟩ | ⟨c1, c2, c3, c4, c5, c6⟩ | ⟨c0, c1, c2, c3, c4, c5, c6⟩
  all_goals first
    | (exfalso; omega)
    | exact ⟨by rw [a2, c2], by rw [a3, c3], by rw [a4, c4], by rw [a5, c5], by rw [a6, c6]⟩
theorem entB_eq {kd tx ix pk pn : Int} {b : ByteArray} {ct sm kd' tx' ix' pk' pn' : Int} {b' : ByteArray} {ct' sm' : Int} (h : entB kd tx ix pk pn b ct sm kd' tx' ix' pk' pn' b' ct' sm' = true) :
    kd = kd' ∧ tx = tx' ∧ ix = ix' ∧ pk = pk' ∧ pn = pn' ∧ b = b' ∧ ct = ct' ∧ sm = sm' := by
  unfold entB pageB at h
  simp only [Bool.and_eq_true, beq_iff_eq] at h
  obtain ⟨h1, h2, h3, ⟨h4, h5, h6⟩, h7, h8⟩ := h
  refine ⟨h1, h2, h3, h4, h5, ?_, h7, h8⟩
  rw [Go.ByteArray.toList_eq, Go.ByteArray.toList_eq] at h6
  apply ByteArray.ext
  apply Array.toList_inj.1
  exact h6
/-- entries have the same bytes just if they are the same -/
theorem apart {kd tx ix pk pn : Int} {b : ByteArray} {ct sm kd' tx' ix' pk' pn' : Int} {b' : ByteArray} {ct' sm' : Int} (hs : 0 ≤ sm) (hs2 : sm < 4294967296) (hs' : 0 ≤ sm') (hs2' : sm' < 4294967296)
    (h : mayE kd tx ix pk pn b ct sm) (h' : mayE kd' tx' ix' pk' pn' b' ct' sm') :
    ((encR kd tx ix pk pn b ct sm).1.toList == (encR kd' tx' ix' pk' pn' b' ct' sm').1.toList) = entB kd tx ix pk pn b ct sm kd' tx' ix' pk' pn' b' ct' sm' := by
  by_cases hq : (encR kd tx ix pk pn b ct sm).1 = (encR kd' tx' ix' pk' pn' b' ct' sm').1
  · have hr := rd_enc hs hs2 h
    rw [hq] at hr
    obtain ⟨rfl, rfl, rfl, rfl, rfl, rfl, rfl, rfl⟩ := hr.same (rd_enc hs' hs2' h')
    rw [entB_self]; simp
  · rw [ba_other hq]
    cases hB : entB kd tx ix pk pn b ct sm kd' tx' ix' pk' pn' b' ct' sm' with
    | false => rfl
    | true =>
      obtain ⟨rfl, rfl, rfl, rfl, rfl, rfl, rfl, rfl⟩ := entB_eq hB
      exact absurd rfl hq
end Go.Proofs.YtigaddpjmgncmaaDoor.En
