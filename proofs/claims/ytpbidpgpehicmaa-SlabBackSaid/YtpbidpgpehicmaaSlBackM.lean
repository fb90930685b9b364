/- What was grown shrinks back: plain. -/
import Derived.Test.YtpbidpgpehicmaaSlUni
namespace Go.Proofs.Ytpbidpgpehicmaa.Sl
open Go.RowKit Go.Shelf

theorem back_one (sz i : Nat) (h : i < sz) : ((List.range (sz + 1)).filter fun n => decide (n ≠ i + 1)).map (fun m => if m > i then m - 1 else m) = List.range sz := by
  have H : ∀ k, ((List.range k).filter fun n => decide (n ≠ i + 1)).map (fun m => if m > i then m - 1 else m) = List.range (if k ≤ i + 1 then k else k - 1) := by
    intro k
    induction k with
    | zero => simp
    | succ k ih =>
      rw [List.range_succ, List.filter_append, List.map_append, ih]
      rcases Nat.lt_trichotomy k (i + 1) with hk | hk | hk
      · rw [List.filter_cons_of_pos (by simp; omega), List.filter_nil, List.map_singleton, if_neg (show ¬ k > i by omega), if_pos (show k ≤ i + 1 by omega), if_pos (show k + 1 ≤ i + 1 by omega), List.range_succ]
      · rw [List.filter_cons_of_neg (by simp; omega), List.filter_nil, List.map_nil, List.append_nil, if_pos (show k ≤ i + 1 by omega), if_neg (show ¬ k + 1 ≤ i + 1 by omega), Nat.add_sub_cancel]
      · rw [List.filter_cons_of_pos (by simp; omega), List.filter_nil, List.map_singleton, if_pos (show k > i by omega), if_neg (show ¬ k ≤ i + 1 by omega), if_neg (show ¬ k + 1 ≤ i + 1 by omega)]
        obtain ⟨m, rfl⟩ : ∃ m, k = m + 1 := ⟨k - 1, by omega⟩
        simp only [Nat.add_sub_cancel, List.range_succ]
  rw [H (sz + 1), if_neg (by omega), Nat.add_sub_cancel]
theorem back_all (o sz i : Nat) (h : i < sz) : ((List.range (o * (sz + 1))).filter fun n => decide (n % (sz + 1) ≠ i + 1)).map (decR sz i) = List.range (o * sz) := by
  induction o with
  | zero => simp
  | succ o ih =>
    rw [range_mul, range_mul, List.filter_append, List.map_append, ih, List.filter_map, List.map_map]
    have e : (List.range (sz + 1)).filter ((fun n => decide (n % (sz + 1) ≠ i + 1)) ∘ fun x => o * (sz + 1) + x) = (List.range (sz + 1)).filter fun n => decide (n ≠ i + 1) := by
      apply List.filter_congr
      intro n hn
      rw [List.mem_range] at hn
      show decide ((o * (sz + 1) + n) % (sz + 1) ≠ i + 1) = _
      rw [Nat.add_comm, Nat.add_mul_mod_self_right, Nat.mod_eq_of_lt hn]
    rw [e, ← back_one sz i h, List.map_map]
    congr 1
    apply List.map_congr_left
    intro a ha
    have ha' := List.mem_range.1 (List.mem_filter.1 ha).1
    show decR sz i (o * (sz + 1) + a) = o * sz + _
    unfold decR
    have e2 : (o * (sz + 1) + a) / (sz + 1) = o := by
      rw [Nat.add_comm, Nat.add_mul_div_right _ _ (by omega), Nat.div_eq_of_lt ha', Nat.zero_add]
    have e3 : (o * (sz + 1) + a) % (sz + 1) = a := by
      rw [Nat.add_comm, Nat.add_mul_mod_self_right, Nat.mod_eq_of_lt ha']
    rw [e2, e3]
theorem flat_lenf {α : Type} (L Q : Nat) (f : Nat → List α) (h : ∀ n, n < Q → (f n).length = L) : ((List.range Q).flatMap f).length = Q * L := by
  induction Q with
  | zero => simp
  | succ Q ih => rw [List.range_succ, List.flatMap_append, List.flatMap_cons, List.flatMap_nil, List.append_nil, List.length_append, ih fun n hn => h n (by omega), h Q (by omega), Nat.add_mul, Nat.one_mul]
theorem flat_row {α : Type} (L Q : Nat) (f : Nat → List α) (h : ∀ n, n < Q → (f n).length = L) (q : Nat) (hq : q < Q) : rowL ((List.range Q).flatMap f) L q = f q := by
  induction Q with
  | zero => omega
  | succ Q ih =>
    have hlen := flat_lenf L Q f fun n hn => h n (by omega)
    rw [List.range_succ, List.flatMap_append, List.flatMap_cons, List.flatMap_nil, List.append_nil]
    unfold rowL
    by_cases hlt : q < Q
    · have h1 : (q + 1) * L ≤ Q * L := Nat.mul_le_mul_right _ hlt
      rw [Nat.add_mul, Nat.one_mul] at h1
      rw [List.drop_append_of_le_length (by omega), List.take_append_of_le_length (by rw [List.length_drop]; omega)]
      exact ih (fun n hn => h n (by omega)) hlt
    · obtain rfl : q = Q := by omega
      rw [← hlen, List.drop_left, ← h q (by omega), List.take_length]
theorem flat_self {α : Type} (C : List α) (L Q : Nat) : (List.range Q).flatMap (rowL C L) = C.take (Q * L) := by
  induction Q with
  | zero => simp
  | succ Q ih =>
    rw [List.range_succ, List.flatMap_append, List.flatMap_cons, List.flatMap_nil, List.append_nil, ih, Nat.add_mul, Nat.one_mul, List.take_add]
    rfl
section
variable {S : List Nat} {C : List Int} {d i : Nat}
/-- what is grown, row by row -/
theorem grow_rows (F : Fits S C) (hd : d < S.length) (hi : i < S.getD d 1) : growC S C d i = (List.range (prodL (S.take d) * (S.getD d 1 + 1))).flatMap fun q => rowL C (prodL (S.drop (d + 1))) (decR (S.getD d 1) i q) := by
  have hp : 0 < prodL (S.drop (d + 1)) := prodL_pos _ fun s hs => F.pos s (List.mem_of_mem_drop hs)
  have hq : C.length / prodL (S.drop (d + 1)) = prodL (S.take d) * S.getD d 1 := by
    rw [F.len, prod_at S d hd, ← Nat.mul_assoc, Nat.mul_div_cancel _ hp]
  unfold growC
  rw [hq]
  have e : (List.range (prodL (S.take d) * S.getD d 1)).flatMap (fun n => if n % S.getD d 1 = i then rowL C (prodL (S.drop (d + 1))) n ++ rowL C (prodL (S.drop (d + 1))) n else rowL C (prodL (S.drop (d + 1))) n) =
      ((List.range (prodL (S.take d) * S.getD d 1)).flatMap (fun n => if n % S.getD d 1 = i then [n, n] else [n])).flatMap (rowL C (prodL (S.drop (d + 1)))) := by
    rw [List.flatMap_assoc]
    congr 1
    funext n
    split <;> simp
  rw [e, twice_all _ _ _ hi, List.flatMap_map]
theorem decR_lt (o sz i q : Nat) (h : i < sz) (hq : q < o * (sz + 1)) : decR sz i q < o * sz := by
  have hm := List.mem_map_of_mem (f := decR sz i) (List.mem_range.2 hq)
  rw [← twice_all o sz i h] at hm
  obtain ⟨n, hn, hx⟩ := List.mem_flatMap.1 hm
  rw [List.mem_range] at hn
  split at hx
  · simp at hx; omega
  · simp at hx; omega
theorem grow_row (F : Fits S C) (hd : d < S.length) (hi : i < S.getD d 1) (q : Nat) (hq : q < prodL (S.take d) * (S.getD d 1 + 1)) : rowL (growC S C d i) (prodL (S.drop (d + 1))) q = rowL C (prodL (S.drop (d + 1))) (decR (S.getD d 1) i q) := by
  rw [grow_rows F hd hi]
  have hC : C.length = (prodL (S.take d) * S.getD d 1) * prodL (S.drop (d + 1)) := by rw [F.len, prod_at S d hd, Nat.mul_assoc]
  exact (flat_row (prodL (S.drop (d + 1))) _ _ (fun n hn => rowL_len C _ _ _ (decR_lt _ _ _ _ hi hn) hC) q hq)
theorem back_shr (F : Fits S C) (hd : d < S.length) (hi : i < S.getD d 1) :
    shrOk (growC S C d i) (prodL (S.drop (d + 1))) (S.getD d 1 + 1) i (prodL (S.take d) * (S.getD d 1 + 1)) ∧ shrC (growC S C d i) (prodL (S.drop (d + 1))) (S.getD d 1 + 1) i (prodL (S.take d) * (S.getD d 1 + 1)) = C := by
  have hC : C.length = (prodL (S.take d) * S.getD d 1) * prodL (S.drop (d + 1)) := by rw [F.len, prod_at S d hd, Nat.mul_assoc]
  refine ⟨fun n hn hm => ?_, ?_⟩
  · rw [grow_row F hd hi n hn, grow_row F hd hi (n - 1) (by omega)]
    have hn' := Nat.div_add_mod n (S.getD d 1 + 1)
    obtain ⟨u, hu⟩ : ∃ u, n / (S.getD d 1 + 1) = u := ⟨_, rfl⟩
    rw [hm, hu] at hn'
    have e : decR (S.getD d 1) i n = decR (S.getD d 1) i (n - 1) := by
      obtain rfl : n = i + 1 + u * (S.getD d 1 + 1) := by rw [← hn', Nat.mul_comm]; omega
      unfold decR
      rw [show i + 1 + u * (S.getD d 1 + 1) - 1 = i + u * (S.getD d 1 + 1) by omega, Nat.add_mul_div_right _ _ (by omega), Nat.add_mul_mod_self_right, Nat.add_mul_div_right _ _ (by omega), Nat.add_mul_mod_self_right, Nat.div_eq_of_lt (show i + 1 < S.getD d 1 + 1 by omega), Nat.div_eq_of_lt (show i < S.getD d 1 + 1 by omega), Nat.mod_eq_of_lt (show i + 1 < S.getD d 1 + 1 by omega), Nat.mod_eq_of_lt (show i < S.getD d 1 + 1 by omega), if_pos (by omega), if_neg (by omega)]
      omega
    rw [e]
  · rw [shrC_eq]
    have e : ((List.range (prodL (S.take d) * (S.getD d 1 + 1))).filter fun n => decide (n % (S.getD d 1 + 1) ≠ i + 1)).flatMap (rowL (growC S C d i) (prodL (S.drop (d + 1)))) =
        (((List.range (prodL (S.take d) * (S.getD d 1 + 1))).filter fun n => decide (n % (S.getD d 1 + 1) ≠ i + 1)).map (decR (S.getD d 1) i)).flatMap (rowL C (prodL (S.drop (d + 1)))) := by
      rw [List.flatMap_map, List.flatMap_def, List.flatMap_def]
      congr 1
      apply List.map_congr_left
      intro n hn
      exact grow_row F hd hi n (List.mem_range.1 (List.mem_filter.1 hn).1)
    rw [e, back_all _ _ _ hi, flat_self, ← hC, List.take_length]
end
/-- what Grow answered 0 to comes back by Shrink -/
theorem back_ok {S : List Nat} {C : List Int} (F : Fits S C) (d i : Int) (h : (growU S C d i).1 = 0) :
    ∃ D I : Nat, d = D ∧ i = I ∧ D < S.length ∧ I < S.getD D 1 ∧ growU S C d i = (0, S.set D (S.getD D 1 + 1), growC S C D I) ∧ shrinkU (S.set D (S.getD D 1 + 1)) (growC S C D I) d i = (0, S, C) ∧ (growC S C D I).length * S.getD D 1 = C.length * (S.getD D 1 + 1) ∧ (growC S C D I).length ≤ 4096 := by
  unfold growU at h ⊢
  split at h
  · rename_i hh
    obtain ⟨D, I, rfl, rfl, hD, hI⟩ := has_nat S d i hh
    rw [Int.toNat_natCast, Int.toNat_natCast] at *
    split at h
    · rename_i hm
      have F2 := grow_fits S C F D I hD hI hm
      have hs2 : (S.set D (S.getD D 1 + 1)).getD D 1 = S.getD D 1 + 1 := by
        rw [List.getD_eq_getElem?_getD, List.getElem?_set_self hD]; rfl
      have hdr : (S.set D (S.getD D 1 + 1)).drop (D + 1) = S.drop (D + 1) := by rw [List.drop_set_of_lt (by omega)]
      have hp : 0 < prodL (S.drop (D + 1)) := prodL_pos _ fun s hs => F.pos s (List.mem_of_mem_drop hs)
      have hgl := grow_len S C F D I hD hI
      have hq : (growC S C D I).length / prodL (S.drop (D + 1)) = prodL (S.take D) * (S.getD D 1 + 1) := by
        rw [hgl, prod_set S D _ hD, ← Nat.mul_assoc, Nat.mul_div_cancel _ hp]
      have hbk := back_shr F hD hI
      have hb : ∀ J : Nat, J < S.getD D 1 + 1 → hasB (zs (S.set D (S.getD D 1 + 1))) (D : Int) (J : Int) = true := fun J hJ => by
        unfold hasB
        simp only [Bool.and_eq_true, decide_eq_true_eq, zs_len, Int.toNat_natCast, List.length_set]
        rw [zs_at _ D (by rw [List.length_set]; exact hD)]
        refine ⟨⟨⟨by omega, by omega⟩, by omega⟩, ?_⟩
        have : (S.set D (S.getD D 1 + 1))[D]'(by rw [List.length_set]; exact hD) = S.getD D 1 + 1 := by rw [List.getElem_set_self]
        rw [this]; omega
      refine ⟨D, I, rfl, rfl, hD, hI, by rw [if_pos hh, if_pos hm], ?_, ?_, ?_⟩
      · unfold shrinkU
        rw [if_pos (by rw [Bool.and_eq_true]; exact ⟨hb I (by omega), hb (I + 1) (by omega)⟩)]
        simp only [Int.toNat_natCast]
        rw [if_pos (by rw [hs2, hdr, hq]; exact hbk.1)]
        simp only [hs2, hdr, hq, hbk.2, Nat.add_sub_cancel, List.set_set]
        have : S.set D (S.getD D 1) = S := by
          rw [List.getD_eq_getElem?_getD, List.getElem?_eq_getElem hD]
          exact List.set_getElem_self hD
        rw [this]
      · rw [hgl, prod_set S D _ hD, F.len, prod_at S D hD]
        generalize S.getD D 1 = z
        generalize prodL (S.take D) = x
        generalize prodL (S.drop (D + 1)) = y
        generalize z + 1 = u
        ac_rfl
      · rw [hgl]; exact F2.most
    · simp at h
  · simp at h
end Go.Proofs.Ytpbidpgpehicmaa.Sl
