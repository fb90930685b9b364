/- Pages of which one has one bit turned: their text, and its sum. Plain. -/
import Derived.Test.YtigaddpjmgncmaaDoorEnDcA
import Derived.Test.YtigaddpjmgncmaaDoorSmSeenM
namespace Go.Proofs.YtigaddpjmgncmaaDoor.En
open Go.RowKit
open Go.Proofs.YtigaddpjmgncmaaDoor.Fd (be be_length)
open Go.Proofs.YtigaddpjmgncmaaDoor.Sm

theorem seen_one (l : List UInt8) (q r : Nat) (hq : q < l.length) (hr : r < 8) : sumB (l.set q (l[q] ^^^ ((1 : UInt8) <<< (UInt8.ofNat r)))) ≠ sumB l := by
  have h1 := alo_set l Sm.full q ((1 : UInt8) <<< (UInt8.ofNat r)) hq
  rw [wd_shl r hr] at h1
  refine seen_end _ _ (1#32 <<< r) (8 * (l.length - q)) ?_ ?_
  · have : ∀ r : Fin 8, (1#32 <<< r.val) ≠ 0#32 := by decide
    exact this ⟨r, hr⟩
  · rw [low_all]; exact h1
theorem encT_may {i : Nat} {p : PageT} (hi : i ≤ 999) (h : mayS p.1 p.2.1 p.2.2) : (encT i p).data.toList = headE 1 1 i ++ (be 1 p.1.toNat ++ (be 2 p.2.1.toNat ++ p.2.2.data.toList)) := by
  unfold encT
  rw [encR_yes ⟨by decide, by decide, by omega, by omega, .inl ⟨rfl, h, rfl, rfl⟩⟩]
  show (encE _ _ _ _ _ _ _ _).toArray.toList = _
  rw [List.toList_toArray]
  simp [encE]
/-- a list's text, of which one page's is another of the same length -/
theorem textS_set (L M : List PageT) (k : Nat) (hk : k < L.length) (hl : M.length = L.length) (ho : ∀ i (h : i < L.length), i ≠ k → M[i] = L[i]) (q : Nat) (v : UInt8) (hq : q < (encT k L[k]).data.toList.length)
    (he : (encT k M[k]).data.toList = (encT k L[k]).data.toList.set q v) :
    ∀ n, n ≤ L.length → textS M n = if n ≤ k then textS L n else (textS L n).set ((textS L k).length + q) v := by
  intro n
  induction n with
  | zero => intro _; simp [textS]
  | succ n ih =>
    intro hn
    have ih := ih (by omega)
    rw [textS_next M n (by omega), textS_next L n (by omega), ih]
    by_cases h1 : n < k
    · rw [if_pos (by omega), if_pos (by omega), ho n (by omega) (by omega)]
    · by_cases h2 : n = k
      · subst h2
        rw [if_pos (Nat.le_refl _), if_neg (by omega), he, List.set_append_right _ _ (by omega)]
        congr 2; omega
      · rw [if_neg (by omega), if_neg (by omega), ho n (by omega) h2, List.set_append_left]
        have h3 : textS L (k + 1) = textS L k ++ (encT k L[k]).data.toList := textS_next L k hk
        have hm : ∀ a b, a ≤ b → (textS L a).length ≤ (textS L b).length := by
          intro a b hab
          induction hab with
          | refl => exact Nat.le_refl _
          | step _ ih2 =>
            refine Nat.le_trans ih2 ?_
            rename_i m _
            by_cases hmL : m < L.length
            · rw [textS_next L m hmL, List.length_append]; omega
            · simp [textS, List.take_of_length_le (show L.zipIdx.length ≤ m by simp; omega), List.take_of_length_le (show L.zipIdx.length ≤ m + 1 by simp; omega)]
        have h4 := hm (k + 1) n (by omega)
        rw [h3, List.length_append] at h4
        omega
/-- one bit of one body turned: the sums are unlike -/
theorem sums_apart (L : List PageT) (k at' r : Nat) (hk : k < L.length) (hn : L.length ≤ 60) (hm : ∀ p ∈ L, mayS p.1 p.2.1 p.2.2) (ha : at' < L[k].2.2.data.toList.length) (hr : r < 8) (b : ByteArray)
    (hb : b.data.toList = L[k].2.2.data.toList.set at' (L[k].2.2.data.toList[at'] ^^^ ((1 : UInt8) <<< (UInt8.ofNat r)))) :
    sumB (textS (L.set k (L[k].1, L[k].2.1, b)) L.length) ≠ sumB (textS L L.length) := by
  have m0 := hm L[k] (List.getElem_mem _)
  have hsz : b.size = L[k].2.2.size := by
    have h1 : b.data.toList.length = b.size := by simp
    have h2 : L[k].2.2.data.toList.length = L[k].2.2.size := by simp
    rw [← h1, ← h2, hb, List.length_set]
  have hne : 0 < L[k].2.2.size := by
    have h2 : L[k].2.2.data.toList.length = L[k].2.2.size := by simp
    omega
  have m1 : mayS L[k].1 L[k].2.1 b := by
    obtain ⟨h0, h1, h2, h3, h4, h5⟩ := m0
    refine ⟨fun h => ?_, h1, h2, h3, h4, by omega⟩
    have := h0 h
    rw [En.full _ hne] at this
    cases this
  have e1 := encT_may (i := k) (p := L[k]) (by omega) m0
  have e2 := encT_may (i := k) (p := (L[k].1, L[k].2.1, b)) (by omega) m1
  have hlen : (headE 1 1 k ++ (be 1 L[k].1.toNat ++ be 2 L[k].2.1.toNat)).length = 10 := by simp [headE_length, be_length]
  have e1' : (encT k L[k]).data.toList = (headE 1 1 k ++ (be 1 L[k].1.toNat ++ be 2 L[k].2.1.toNat)) ++ L[k].2.2.data.toList := by rw [e1]; simp only [List.append_assoc]
  have he : (encT k (L[k].1, L[k].2.1, b)).data.toList = (encT k L[k]).data.toList.set (10 + at') (L[k].2.2.data.toList[at'] ^^^ ((1 : UInt8) <<< (UInt8.ofNat r))) := by
    rw [e2, e1', List.set_append_right _ _ (by rw [hlen]; omega), hlen, Nat.add_sub_cancel_left, ← hb]
    simp only [List.append_assoc]
  have hq : 10 + at' < (encT k L[k]).data.toList.length := by rw [e1', List.length_append, hlen]; omega
  have h := textS_set L (L.set k (L[k].1, L[k].2.1, b)) k hk (by simp) (fun i h hik => by simp [Ne.symm hik]) (10 + at') _ hq (by
    rw [← he]; congr 2; simp) L.length (Nat.le_refl _)
  rw [h, if_neg (by omega)]
  have hk2 : textS L (k + 1) = textS L k ++ (encT k L[k]).data.toList := textS_next L k hk
  have hlt : ∀ n, k + 1 ≤ n → n ≤ L.length → ∃ R, textS L n = textS L (k + 1) ++ R := by
    intro n hn1
    induction hn1 with
    | refl => intro _; exact ⟨[], by simp⟩
    | step _ ih =>
      rename_i m _
      intro hm2
      obtain ⟨R, hR⟩ := ih (by omega)
      exact ⟨R ++ (encT m L[m]).data.toList, by rw [textS_next L m (by omega), hR, List.append_assoc]⟩
  obtain ⟨R, hR⟩ := hlt L.length (by omega) (Nat.le_refl _)
  have hP : (textS L k).length + (10 + at') < (textS L L.length).length := by rw [hR, hk2]; simp only [List.length_append]; omega
  have hx : (textS L L.length)[(textS L k).length + (10 + at')] = L[k].2.2.data.toList[at'] := by
    have h9 : (textS L L.length)[(textS L k).length + (10 + at')]? = some L[k].2.2.data.toList[at'] := by
      rw [hR, hk2, List.append_assoc, List.getElem?_append_right (by omega), Nat.add_sub_cancel_left, List.getElem?_append_left (by omega), e1', List.getElem?_append_right (by rw [hlen]; omega), hlen, Nat.add_sub_cancel_left]
      exact List.getElem?_eq_getElem ha
    exact (List.getElem?_eq_some_iff.1 h9).2
  rw [← hx]
  exact seen_one _ _ r hP hr
end Go.Proofs.YtigaddpjmgncmaaDoor.En
