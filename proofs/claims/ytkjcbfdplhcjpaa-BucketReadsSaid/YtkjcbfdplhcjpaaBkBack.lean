/- What is written is read. -/
import Derived.Test.YtkjcbfdplhcjpaaBkDec2
namespace Go.Proofs.Ytkjcbfdplhcjpaa.Bk
open Go.Proofs.Ytkjcbfdplhcjpaa.Ky

theorem nx_mid (s P q S : List UInt8) (b : Bool) (a n : Nat) (hs : s = P ++ (q ++ S)) (ha : a = P.length) (hn : n = q.length) : nx s (a, b) n = (q, (a + n, b)) := by
  subst hs ha hn
  unfold nx
  rw [if_pos (by simp)]
  simp [Fd.getAt]
theorem nm_mid (s P S : List UInt8) (b : Bool) (a m v : Nat) (hs : s = P ++ (Fd.be m v ++ S)) (ha : a = P.length) (hv : v < 256 ^ m) : nm s (a, b) m = (v, (a + m, b)) := by
  have h := nx_mid s P (Fd.be m v) S b a m hs ha (Fd.be_length m v).symm
  unfold nm
  rw [h, Fd.num_be m v hv]
theorem keyS_mid (s P S : List UInt8) (k : List Nat) (b : Bool) (a : Nat) (hs : s = P ++ (encK k ++ S)) (ha : a = P.length) (hk : ∀ x ∈ k, x < 4294967296) (j : Nat) (hj : j ≤ k.length) : keyS s j (a, b) = (k.take j, (a + 4 * j, b)) := by
  induction j with
  | zero => rfl
  | succ j ih =>
    have hlt : j < k.length := by omega
    have e0 : k.take j ++ k[j] :: k.drop (j + 1) = k := by rw [← List.drop_eq_getElem_cons hlt, List.take_append_drop]
    have e : encK k = encK (k.take j) ++ (Fd.be 4 k[j] ++ encK (k.drop (j + 1))) := by
      refine (congrArg encK e0.symm).trans ?_
      unfold encK
      rw [List.flatMap_append, List.flatMap_cons]
    have h := nm_mid s (P ++ encK (k.take j)) (encK (k.drop (j + 1)) ++ S) b (a + 4 * j) 4 k[j] (by rw [hs, e]; simp) (by rw [List.length_append, encK_length, List.length_take, ha]; omega) (hk _ (List.getElem_mem hlt))
    unfold keyS
    rw [ih (by omega), h, List.take_succ_eq_append_getElem hlt]
    rfl
theorem recS_mid (s P S : List UInt8) (r : Rec) (b : Bool) (a dim : Nat) (hs : s = P ++ (encR r ++ S)) (ha : a = P.length) (hk : ∀ x ∈ r.1, x < 4294967296) (hd : r.1.length = dim) (ht : r.2.size < 256) :
    recS s dim (a, b) = (r, (a + (encR r).length, b)) := by
  subst hd
  obtain ⟨k, t⟩ := r
  have h1 := keyS_mid s P (Fd.be 1 t.size ++ t.data.toList ++ S) k b a (by rw [hs]; simp [encR]) ha hk k.length (Nat.le_refl _)
  rw [List.take_length] at h1
  have h2 := nm_mid s (P ++ encK k) (t.data.toList ++ S) b (a + 4 * k.length) 1 t.size (by rw [hs]; simp [encR]) (by rw [List.length_append, encK_length, ha]) ht
  have h3 := nx_mid s (P ++ encK k ++ Fd.be 1 t.size) t.data.toList S b (a + 4 * k.length + 1) t.size (by rw [hs]; simp [encR]) (by rw [List.length_append, List.length_append, encK_length, Fd.be_length, ha]) (Fd.size_list t).symm
  unfold recS
  show (((keyS s k.length (a, b)).1, _), _) = _
  rw [h1]
  simp only
  rw [h2]
  simp only
  rw [h3, encR_length]
  simp only
  congr 2
  omega
theorem recsS_mid (s P S : List UInt8) (L : List Rec) (b : Bool) (a dim : Nat) (hs : s = P ++ (L.flatMap encR ++ S)) (ha : a = P.length) (hk : ∀ r ∈ L, (∀ x ∈ r.1, x < 4294967296) ∧ r.1.length = dim ∧ r.2.size < 256) (j : Nat) (hj : j ≤ L.length) :
    recsS s dim j (a, b) = (L.take j, (a + ((L.take j).flatMap encR).length, b)) := by
  induction j with
  | zero => rfl
  | succ j ih =>
    have hlt : j < L.length := by omega
    obtain ⟨g1, g2, g3⟩ := hk _ (List.getElem_mem hlt)
    have e0 : L.take j ++ L[j] :: L.drop (j + 1) = L := by rw [← List.drop_eq_getElem_cons hlt, List.take_append_drop]
    have e : L.flatMap encR = (L.take j).flatMap encR ++ (encR L[j] ++ (L.drop (j + 1)).flatMap encR) := by
      refine (congrArg (List.flatMap encR) e0.symm).trans ?_
      rw [List.flatMap_append, List.flatMap_cons]
    have h := recS_mid s (P ++ (L.take j).flatMap encR) ((L.drop (j + 1)).flatMap encR ++ S) L[j] b (a + ((L.take j).flatMap encR).length) dim (by rw [hs, e]; simp) (by rw [List.length_append, ha]) g1 g2 g3
    unfold recsS
    rw [ih (by omega)]
    simp only
    rw [h, encR_take L j hlt, List.take_succ_eq_append_getElem hlt, List.length_append, Nat.add_assoc]
/-- what is written is read -/
theorem read_back (L : List Rec) (dim : Nat) (hk : ∀ r ∈ L, (∀ x ∈ r.1, x < 4294967296) ∧ r.1.length = dim ∧ r.2.size < 256) (hl : L.length < 256) : ∃ a, readR (encL L) dim = (L, (a, false)) := by
  have h1 := nm_mid (encL L) [] (L.flatMap encR) false 0 1 L.length (by simp [encL]) rfl hl
  have h2 := recsS_mid (encL L) (Fd.be 1 L.length) [] L false (0 + 1) dim (by simp [encL]) (by rw [Fd.be_length]) hk L.length (Nat.le_refl _)
  unfold readR
  rw [h1]
  simp only
  rw [h2, List.take_length]
  exact ⟨_, rfl⟩
theorem dec_back {L : List Rec} {dim cap : Int} (h : encOk L dim cap = true) (hd : 1 ≤ dim ∧ dim ≤ 6) (hf : ∀ r ∈ L, ∀ x ∈ r.1, x < 4294967296) : decR (encS L dim cap) dim cap = (L, 0) := by
  have h0 := h
  unfold encOk at h0
  simp only [Bool.and_eq_true] at h0
  obtain ⟨_, hm, ht, hfi⟩ := h0
  have hfit := fits_230 hfi ht
  have hk : ∀ r ∈ L, (∀ x ∈ r.1, x < 4294967296) ∧ r.1.length = dim.toNat ∧ r.2.size < 256 := fun r hr => by
    have h1 := List.all_eq_true.1 hm r hr
    simp only [mayR, Bool.and_eq_true, decide_eq_true_eq] at h1
    exact ⟨hf r hr, by omega, by omega⟩
  obtain ⟨a, ha⟩ := read_back L dim.toNat hk (by omega)
  have hdec : decOk dim cap = true := by unfold decOk; rw [ht]; simp; omega
  unfold decR
  rw [if_pos hdec, encYes h]
  show (if (readR (encL L) dim.toNat).2.2 then _ else _) = _
  rw [ha]
  simp [encYes h]
theorem enc_back {s : ByteArray} {dim cap : Int} (h : (decR s dim cap).2 = 0) : encOk (decR s dim cap).1 dim cap = true ∧ encS (decR s dim cap).1 dim cap = s := by
  unfold decR at h ⊢
  by_cases hd : decOk dim cap = true
  · rw [if_pos hd] at h ⊢
    by_cases hc : (readR s.data.toList dim.toNat).2.2 = true
    · rw [if_pos hc] at h; simp at h
    · rw [if_neg hc] at h ⊢
      by_cases he : encS (readR s.data.toList dim.toNat).1 dim cap = s
      · rw [if_pos he]
        refine ⟨?_, he⟩
        cases hok : encOk (readR s.data.toList dim.toNat).1 dim cap with
        | true => rfl
        | false =>
          exfalso
          rw [encNo hok] at he
          subst he
          exact hc (by rfl)
      · rw [if_neg he] at h; simp at h
  · rw [if_neg hd] at h; simp at h
theorem dec_none_len {s : ByteArray} {dim cap : Int} (h : (decR s dim cap).2 ≠ 0) : (decR s dim cap).1 = [] := by
  unfold decR at h ⊢
  split
  · rename_i hd
    rw [if_pos hd] at h
    split
    · rfl
    · rename_i hc
      rw [if_neg hc] at h
      split
      · rename_i he; rw [if_pos he] at h; exact absurd rfl h
      · rfl
  · rfl
end Go.Proofs.Ytkjcbfdplhcjpaa.Bk
