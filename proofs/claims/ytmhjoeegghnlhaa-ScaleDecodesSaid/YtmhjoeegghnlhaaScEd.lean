/- What is encoded is decoded: plain. -/
import Derived.Test.YtmhjoeegghnlhaaScDec
namespace Go.Proofs.Ytmhjoeegghnlhaa.Sc
open Go.RowKit
open Go.Lib (hid)
open Go.Proofs.Ytmhjoeegghnlhaa.Ky Go.Proofs.Ytmhjoeegghnlhaa.Bk
open Go.Proofs.Ytmhjoeegghnlhaa

theorem getAt_mid (X T Z : List UInt8) : Fd.getAt (X ++ (T ++ Z)) X.length T.length = T := by
  unfold Fd.getAt; rw [List.drop_left, List.take_left]
theorem encP_at (l : List Nat) (i : Nat) (h : i < l.length) : Fd.getAt (encP l) (1 + 4 * i) 4 = Fd.be 4 l[i] := by
  have h1 := getAt_mid (Fd.be 1 l.length ++ (l.take i).flatMap (Fd.be 4)) (Fd.be 4 l[i]) ((l.drop (i + 1)).flatMap (Fd.be 4))
  rw [headP_len l i (Nat.le_of_lt h), Fd.be_length] at h1
  rw [← h1]
  congr 1
  unfold encP
  rw [List.append_assoc]
  congr 1
  rw [← List.flatMap_cons, ← List.flatMap_append, ← List.drop_eq_getElem_cons h, List.take_append_drop]
theorem extract_all (l t : List UInt8) (E : Nat) (h : l.length = E) : ((⟨(l ++ t).toArray⟩ : ByteArray).extract 0 E).data.toList = l := by
  rw [ByteArray.data_extract]; simp [← h]
theorem extract_rest (l t : List UInt8) (E : Nat) (h : l.length = E) : (⟨(l ++ t).toArray⟩ : ByteArray).extract E (⟨(l ++ t).toArray⟩ : ByteArray).size = ⟨t.toArray⟩ := by
  apply ByteArray.ext
  rw [ByteArray.data_extract]
  show (l ++ t).toArray.extract E (l ++ t).toArray.size = t.toArray
  apply Array.ext'
  simp [← h]
theorem rdR_enc (l : List Nat) (t : List UInt8) (hl : l.length ≤ 255) (hf : ∀ x ∈ l, x < 4294967296) : rdR ⟨(encP l ++ t).toArray⟩ = some (l, ⟨t.toArray⟩) := by
  have hsz : (⟨(encP l ++ t).toArray⟩ : ByteArray).size = 1 + 4 * l.length + t.length := by
    show (encP l ++ t).toArray.size = _
    rw [List.size_toArray, List.length_append, encP_len]
  have h0 : 0 < (⟨(encP l ++ t).toArray⟩ : ByteArray).size := by omega
  have hk : ((⟨(encP l ++ t).toArray⟩ : ByteArray)[0]'h0).toNat = l.length := by
    show ((encP l ++ t).toArray[0]'h0).toNat = _
    have : (encP l ++ t).toArray[0]'h0 = Fd.beB 1 l.length 0 := by
      simp [encP, Fd.be]
    rw [this]
    simp [Fd.beB]
    omega
  unfold rdR
  rw [dif_pos h0, if_pos (by rw [hk, hsz]; omega), hk, extract_rest _ _ _ (encP_len l)]
  congr 2
  apply List.ext_getElem
  · simp
  · intro i h1 h2
    rw [List.getElem_map, List.getElem_range]
    unfold rdF
    rw [extract_all _ _ _ (encP_len l), encP_at l i h2, Fd.num_be]
    · exact hf _ (List.getElem_mem h2)
theorem decN_enc (bs : List (List Nat)) (t : List UInt8) (h : ∀ l ∈ bs, (∀ x ∈ l, x < 4294967296) ∧ l.length ≤ 255) : decN bs.length ⟨(encS bs ++ t).toArray⟩ = some (bs, ⟨t.toArray⟩) := by
  induction bs with
  | nil => rfl
  | cons l m ih =>
    have h1 := h l (List.mem_cons_self ..)
    rw [show encS (l :: m) ++ t = encP l ++ (encS m ++ t) by unfold encS; rw [List.flatMap_cons, List.append_assoc], List.length_cons, decN, rdR_enc l _ h1.2 h1.1]
    show (decN m.length _).map _ = _
    rw [ih fun l hl => h l (List.mem_cons_of_mem _ hl)]
    rfl
end Go.Proofs.Ytmhjoeegghnlhaa.Sc
