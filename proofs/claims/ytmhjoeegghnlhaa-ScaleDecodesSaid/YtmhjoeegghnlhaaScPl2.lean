/- Plain facts of a point's cell and a box's cells. -/
import Derived.Test.YtmhjoeegghnlhaaScPl
import Derived.Test.YtmhjoeegghnlhaaScSiz
import Derived.Test.YtmhjoeegghnlhaaScBox2
namespace Go.Proofs.Ytmhjoeegghnlhaa.Sc
open Go.RowKit
open Go.Proofs.Ytmhjoeegghnlhaa.Ky Go.Proofs.Ytmhjoeegghnlhaa.Bk

/-- numbers as the program has them -/
def zs (l : List Nat) : List Int := l.map fun (n : Nat) => (n : Int)
theorem zs_len (l : List Nat) : (zs l).length = l.length := by simp [zs]
theorem zs_at (l : List Nat) (j : Nat) : (zs l).getD j 0 = ((l.getD j 0 : Nat) : Int) := by
  unfold zs
  rw [List.getD_eq_getElem?_getD, List.getD_eq_getElem?_getD, List.getElem?_map]
  cases l[j]? <;> rfl
theorem zs_set (l : List Nat) (i x : Nat) : (zs l).set i (x : Int) = zs (l.set i x) := by unfold zs; rw [List.map_set]
theorem is_ci {V : World} {g : Nat} {C : List Nat} (h : V.heap[g]? = some (.cells (ci C).toArray 3 (0, 0))) (hb : ∀ x ∈ C, x ≤ 1000) : Is V (some ⟨g, 0, none⟩) (zs C) := by
  refine ⟨fun j hj => ⟨g, 0, rfl, lt_of h, ?_⟩, fun j hj => ?_⟩
  · rw [cell_of_row _ _ _ _ _ _ h, Nat.zero_add]
    have hj' : j < C.length := by rw [zs_len] at hj; exact hj
    simp [ci, zs, hj']
  · have hj' : j < C.length := by rw [zs_len] at hj; exact hj
    have := hb C[j] (List.getElem_mem hj')
    have e : (zs C)[j] = (C[j] : Int) := by simp [zs]
    rw [e]; omega
theorem cellL_at {bs : List (List Nat)} {k : List Nat} (h : k.length = bs.length) {j : Nat} (hj : j < bs.length) : (cellL bs k).getD j 0 = itv (bs.getD j []) (k.getD j 0) := by
  have hk : j < k.length := by omega
  unfold cellL
  rw [List.getD_eq_getElem?_getD, List.getD_eq_getElem?_getD, List.getD_eq_getElem?_getD, List.getElem?_zipWith, List.getElem?_eq_getElem hj, List.getElem?_eq_getElem hk]
  rfl
theorem getD_mem {bs : List (List Nat)} {j : Nat} (hj : j < bs.length) : bs.getD j [] ∈ bs := by
  rw [List.getD_eq_getElem?_getD, List.getElem?_eq_getElem hj]; exact List.getElem_mem hj
theorem cellL_le {bs : List (List Nat)} {k : List Nat} (hu : upS bs) (h : k.length = bs.length) : ∀ x ∈ cellL bs k, x ≤ 1000 := by
  intro x hx
  obtain ⟨j, hj, rfl⟩ := List.getElem_of_mem hx
  have hjb : j < bs.length := by rw [cellL_len h] at hj; exact hj
  have e := cellL_at h hjb
  rw [List.getD_eq_getElem?_getD, List.getElem?_eq_getElem hj, Option.getD_some] at e
  rw [e]
  have := itv_le (bs.getD j []) (k.getD j 0)
  have := (hu _ (getD_mem hjb)).2.2
  omega
theorem rise_of {bs : List (List Nat)} {k m : List Nat} (hu : upS bs) (h : k.length = bs.length) (h' : m.length = bs.length) (hkm : leAll k m = true) : (List.range bs.length).all (riseS bs (zs (cellL bs k)) (zs (cellL bs m))) = true := by
  rw [List.all_eq_true]
  intro j hj
  have hjb : j < bs.length := List.mem_range.1 hj
  unfold riseS
  rw [zs_at, zs_at, cellL_at h hjb, cellL_at h' hjb]
  have hk : j < k.length := by omega
  have hm : j < m.length := by omega
  have hle := (leAll_iff.1 hkm).2 j hk hm
  have h1 : itv (bs.getD j []) (k.getD j 0) ≤ itv (bs.getD j []) (m.getD j 0) := by
    refine itv_mono (hu _ (getD_mem hjb)).1 ?_
    rw [List.getD_eq_getElem?_getD, List.getD_eq_getElem?_getD, List.getElem?_eq_getElem hk, List.getElem?_eq_getElem hm]
    exact hle
  have h2 := itv_le (bs.getD j []) (m.getD j 0)
  simp only [Bool.and_eq_true, decide_eq_true_eq]
  omega
theorem lowL_len (bs : List (List Nat)) (c : List Int) : (lowL bs c).length = bs.length := by simp [lowL]
theorem highL_len (bs : List (List Nat)) (c : List Int) : (highL bs c).length = bs.length := by simp [highL]
theorem lowL_at (bs : List (List Nat)) (c : List Int) (j : Nat) (h : j < (lowL bs c).length) : (lowL bs c)[j] = lowN (bs.getD j []) (c.getD j 0) := by
  have e : (lowL bs c)[j]? = some (lowN (bs.getD j []) (c.getD j 0)) := by
    have hb : j < bs.length := by rw [lowL_len] at h; exact h
    unfold lowL
    rw [List.getElem?_map, List.getElem?_range hb]; rfl
  rw [List.getElem?_eq_getElem h] at e
  injection e
theorem highL_at (bs : List (List Nat)) (c : List Int) (j : Nat) (h : j < (highL bs c).length) : (highL bs c)[j] = highN (bs.getD j []) (c.getD j 0) := by
  have e : (highL bs c)[j]? = some (highN (bs.getD j []) (c.getD j 0)) := by
    have hb : j < bs.length := by rw [highL_len] at h; exact h
    unfold highL
    rw [List.getElem?_map, List.getElem?_range hb]; rfl
  rw [List.getElem?_eq_getElem h] at e
  injection e
theorem low_of {bs : List (List Nat)} {k : List Nat} (hu : upS bs) (h : k.length = bs.length) : leAll (lowL bs (zs (cellL bs k))) k = true := by
  refine leAll_iff.2 ⟨by rw [lowL_len, h], fun j hj hk => ?_⟩
  have hjb : j < bs.length := by omega
  rw [lowL_at, zs_at, cellL_at h hjb]
  have e : k.getD j 0 = k[j] := by rw [List.getD_eq_getElem?_getD, List.getElem?_eq_getElem hk]; rfl
  rw [e]
  exact low_le (hu _ (getD_mem hjb)).1 _
theorem high_of {bs : List (List Nat)} {k : List Nat} (hu : upS bs) (h : k.length = bs.length) (hf : ∀ x ∈ k, x < 4294967296) : leAll k (highL bs (zs (cellL bs k))) = true := by
  refine leAll_iff.2 ⟨by rw [highL_len, h], fun j hk hj => ?_⟩
  have hjb : j < bs.length := by omega
  rw [highL_at, zs_at, cellL_at h hjb]
  have e : k.getD j 0 = k[j] := by rw [List.getD_eq_getElem?_getD, List.getElem?_eq_getElem hk]; rfl
  rw [e]
  exact le_high (hu _ (getD_mem hjb)).1 (hf _ (List.getElem_mem hk))
theorem in_of {bs : List (List Nat)} {k : List Nat} (hu : upS bs) (h : k.length = bs.length) (hf : ∀ x ∈ k, x < 4294967296) : inB k (lowL bs (zs (cellL bs k))) (highL bs (zs (cellL bs k))) = true := by
  unfold inB; rw [low_of hu h, high_of hu h hf]; rfl
theorem max_of {a b : List Nat} (h : leAll a b = true) : hiOf a b = b := by
  obtain ⟨hl, hh⟩ := leAll_iff.1 h
  unfold hiOf
  apply List.ext_getElem (by simp; omega)
  intro j h1 h2
  have h3 : j < a.length := by omega
  rw [List.getElem_zipWith]
  have := hh j h3 h2
  omega
theorem min_of {a b : List Nat} (h : leAll b a = true) : loOf a b = b := by
  obtain ⟨hl, hh⟩ := leAll_iff.1 h
  unfold loOf
  apply List.ext_getElem (by simp; omega)
  intro j h1 h2
  have h3 : j < a.length := by omega
  rw [List.getElem_zipWith]
  have := hh j h2 h3
  omega
theorem meet_of {al ah lo hi : List Nat} {n : Nat} (hn : 1 ≤ n ∧ n ≤ 6) (h1 : lo.length = n) (h2 : leAll lo hi = true) (h3 : leAll al lo = true) (h4 : leAll hi ah = true) : meetB al ah lo hi = true ∧ meetLo al ah lo hi = lo ∧ meetHi al ah lo hi = hi := by
  have l1 := leAll_len h2
  have l2 := leAll_len h3
  have l3 := leAll_len h4
  have hm : meetB al ah lo hi = true := by
    unfold meetB four boxN mayN
    rw [max_of h3, min_of h4, h2]
    simp
    omega
  exact ⟨hm, by unfold meetLo; rw [if_pos hm, max_of h3], by unfold meetHi; rw [if_pos hm, min_of h4]⟩
/-- the cell above at one coordinate -/
theorem set_at (C : List Nat) (i x j : Nat) (hi : i < C.length) : (C.set i x).getD j 0 = if j = i then x else C.getD j 0 := by
  rw [List.getD_eq_getElem?_getD, List.getD_eq_getElem?_getD]
  by_cases e : j = i
  · subst e; rw [List.getElem?_set_self hi, if_pos rfl]; rfl
  · rw [List.getElem?_set_ne (fun h => e h.symm), if_neg e]
theorem next_rise {bs : List (List Nat)} {k : List Nat} (h : k.length = bs.length) {i : Nat} (hi : i < bs.length) :
    (List.range bs.length).all (riseS bs (zs ((cellL bs k).set i (itv (bs.getD i []) (k.getD i 0) + 1))) (zs ((cellL bs k).set i (itv (bs.getD i []) (k.getD i 0) + 1)))) = decide (itv (bs.getD i []) (k.getD i 0) < (bs.getD i []).length) := by
  have hC : i < (cellL bs k).length := by rw [cellL_len h]; exact hi
  by_cases hlt : itv (bs.getD i []) (k.getD i 0) < (bs.getD i []).length
  · rw [decide_eq_true hlt, List.all_eq_true]
    intro j hj
    have hjb : j < bs.length := List.mem_range.1 hj
    unfold riseS
    rw [zs_at, set_at _ _ _ _ hC]
    split
    · rename_i e
      subst e
      simp only [Bool.and_eq_true, decide_eq_true_eq]
      omega
    · rw [cellL_at h hjb]
      have := itv_le (bs.getD j []) (k.getD j 0)
      simp only [Bool.and_eq_true, decide_eq_true_eq]
      omega
  · rw [decide_eq_false hlt, List.all_eq_false]
    refine ⟨i, List.mem_range.2 hi, ?_⟩
    unfold riseS
    rw [zs_at, set_at _ _ _ _ hC, if_pos rfl]
    simp only [Bool.and_eq_true, decide_eq_true_eq]
    omega
theorem next_low {bs : List (List Nat)} {k : List Nat} (hu : upS bs) (h : k.length = bs.length) {i : Nat} (hi : i < bs.length) (hlt : itv (bs.getD i []) (k.getD i 0) < (bs.getD i []).length) :
    lowN (bs.getD i []) ((zs ((cellL bs k).set i (itv (bs.getD i []) (k.getD i 0) + 1))).getD i 0) = highN (bs.getD i []) ((zs (cellL bs k)).getD i 0) + 1 := by
  have hC : i < (cellL bs k).length := by rw [cellL_len h]; exact hi
  rw [zs_at, set_at _ _ _ _ hC, if_pos rfl, zs_at, cellL_at h hi]
  exact low_next (hu _ (getD_mem hi)).2.1 hlt
theorem next_out {bs : List (List Nat)} {k : List Nat} (hu : upS bs) (h : k.length = bs.length) (hf : ∀ x ∈ k, x < 4294967296) {i : Nat} (hi : i < bs.length) (hlt : itv (bs.getD i []) (k.getD i 0) < (bs.getD i []).length) :
    inB k (lowL bs (zs ((cellL bs k).set i (itv (bs.getD i []) (k.getD i 0) + 1)))) (highL bs (zs ((cellL bs k).set i (itv (bs.getD i []) (k.getD i 0) + 1)))) = false := by
  have hk : i < k.length := by omega
  have e : k.getD i 0 = k[i] := by rw [List.getD_eq_getElem?_getD, List.getElem?_eq_getElem hk]; rfl
  have hb : i < (lowL bs (zs ((cellL bs k).set i (itv (bs.getD i []) (k.getD i 0) + 1)))).length := by rw [lowL_len]; exact hi
  unfold inB
  rw [leAll_no i hb hk, Bool.false_and]
  rw [lowL_at, next_low hu h hi hlt, zs_at, cellL_at h hi]
  have := le_high (hu _ (getD_mem hi)).1 (hf _ (List.getElem_mem hk))
  rw [e]; omega
theorem high_small {bs : List (List Nat)} {k : List Nat} (h : k.length = bs.length) (hb : ∀ l ∈ bs, ∀ x ∈ l, x < 4294967296) {i : Nat} (hi : i < bs.length) (hlt : itv (bs.getD i []) (k.getD i 0) < (bs.getD i []).length) :
    highN (bs.getD i []) ((zs (cellL bs k)).getD i 0) + 1 ≤ 4294967295 := by
  rw [zs_at, cellL_at h hi]
  unfold highN
  have h1 := hb _ (getD_mem hi)
  generalize bs.getD i [] = l at hlt h1 ⊢
  generalize itv l (k.getD i 0) = x at hlt ⊢
  rw [if_pos (by omega), Int.toNat_natCast, List.getD_eq_getElem?_getD, List.getElem?_eq_getElem hlt, Option.getD_some]
  have := h1 _ (List.getElem_mem hlt)
  omega
end Go.Proofs.Ytmhjoeegghnlhaa.Sc
