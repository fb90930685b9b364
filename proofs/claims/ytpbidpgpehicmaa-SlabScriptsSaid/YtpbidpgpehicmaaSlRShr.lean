/- The document's Shrink: plain; where it may not be. -/
import Derived.Test.YtpbidpgpehicmaaSlRGrow2
namespace Go.Proofs.Ytpbidpgpehicmaa.Sl
open Go.RowKit Go.Shelf
open Go.Lib (hid)

section
variable {S : List Nat} {C : List Int} {d i : Nat}
/-- the number at d of a place's cell -/
def sNum (S : List Nat) (d k : Nat) : Nat := k / prodL (S.drop (d + 1)) % S.getD d 1
theorem getD_self (hd : d < S.length) : S[d]? = some (S.getD d 1) := by
  rw [List.getD_eq_getElem?_getD, List.getElem?_eq_getElem hd]; rfl
theorem scell_at (hd : d < S.length) (k : Nat) : (cellL S k)[d]? = some (sNum S d k) := by
  rw [cellL_at S k d hd]
  unfold sNum
  rw [List.getD_eq_getElem?_getD, List.getElem?_eq_getElem hd]; rfl
theorem scell_ok (F : Fits S C) (hd : d < S.length) (hi : i < S.getD d 1) (k : Nat) : okC S ((cellL S k).set d i) = true :=
  okC_set S _ d i (S.getD d 1) hd (by rw [set_same S d _ (getD_self hd)]; exact cellL_ok S k F.pos) hi
theorem sh_place (F : Fits S C) (hd : d < S.length) (k : Nat) (hk : k < C.length) (hn : sNum S d k = i + 1) : placeL S ((cellL S k).set d i) = k - prodL (S.drop (d + 1)) := by
  have hs := split_at S d hd
  have hl : (S.take d).length = d := by rw [List.length_take]; omega
  have h := placeL_set (S.take d) (S.drop (d + 1)) (S.getD d 1) (S.getD d 1) i k
  rw [hl, ← hs] at h
  have hp := prod_at S d hd
  rw [F.len, hp] at hk
  unfold sNum at hn
  have hL : 0 < prodL (S.drop (d + 1)) := prodL_pos _ fun s hs => F.pos s (List.mem_of_mem_drop hs)
  have hz : 0 < S.getD d 1 := by
    rw [List.getD_eq_getElem?_getD, List.getElem?_eq_getElem hd]; exact F.pos _ (List.getElem_mem hd)
  rw [h]
  generalize prodL (S.drop (d + 1)) = L at *
  generalize S.getD d 1 = z at *
  generalize prodL (S.take d) = a at *
  have h1 : k / (z * L) < a := (Nat.div_lt_iff_lt_mul (Nat.mul_pos hz hL)).2 hk
  rw [Nat.mod_eq_of_lt h1]
  have h2 := Nat.div_add_mod k (z * L)
  have h3 : k % (z * L) = k % L + L * (k / L % z) := by rw [Nat.mul_comm z L, Nat.mod_mul]
  rw [hn] at h3
  rw [h3, Nat.mul_comm (z * L) (k / (z * L))] at h2
  generalize k / (z * L) * (z * L) = u at *
  rw [Nat.mul_add, Nat.mul_one, Nat.mul_comm L i] at h2
  omega
theorem shrOk_iff (L sz Q : Nat) (hL : 0 < L) (hC : C.length = Q * L) : shrOk C L sz i Q ↔ ∀ k, k < C.length → k / L % sz = i + 1 → C.getD (k - L) 0 = C.getD k 0 := by
  unfold shrOk
  constructor
  · intro h k hk hn
    have hq : k / L < Q := (Nat.div_lt_iff_lt_mul hL).2 (by omega)
    have h1 := h (k / L) hq hn
    have hn1 : 1 ≤ k / L := by
      rcases Nat.eq_zero_or_pos (k / L) with e | e
      · rw [e, Nat.zero_mod] at hn; omega
      · exact e
    have a1 : (k / L + 1) * L ≤ C.length := by rw [hC]; exact Nat.mul_le_mul_right _ hq
    have a2 : (k / L - 1 + 1) * L ≤ C.length := by rw [hC]; exact Nat.mul_le_mul_right _ (by omega)
    have h2 := (rowL_same (0 : Int) C L (k / L) (k / L - 1) a1 a2).1 h1 (k % L) (Nat.mod_lt _ hL)
    have h3 := Nat.div_add_mod k L
    rw [Nat.mul_comm] at h3
    rw [h3] at h2
    rw [h2]
    congr 1
    have e : (k / L - 1) * L = k / L * L - L := by rw [Nat.sub_mul, Nat.one_mul]
    have h4 : L ≤ k / L * L := Nat.le_mul_of_pos_left _ hn1
    rw [e]; omega
  · intro h n hn hm
    have hn1 : 1 ≤ n := by
      rcases Nat.eq_zero_or_pos n with e | e
      · rw [e, Nat.zero_mod] at hm; omega
      · exact e
    have a1 : (n + 1) * L ≤ C.length := by rw [hC]; exact Nat.mul_le_mul_right _ hn
    have a2 : (n - 1 + 1) * L ≤ C.length := by rw [hC]; exact Nat.mul_le_mul_right _ (by omega)
    refine (rowL_same (0 : Int) C L n (n - 1) a1 a2).2 fun r hr => ?_
    have e1 : (n * L + r) / L = n := by rw [Nat.add_comm, Nat.add_mul_div_right _ _ hL, Nat.div_eq_of_lt hr, Nat.zero_add]
    have a3 := a1
    rw [Nat.add_mul, Nat.one_mul] at a3
    have := h (n * L + r) (by omega) (by rw [e1]; exact hm)
    rw [← this]
    congr 1
    have e : (n - 1) * L = n * L - L := by rw [Nat.sub_mul, Nat.one_mul]
    have h4 : L ≤ n * L := Nat.le_mul_of_pos_left _ hn1
    rw [e]; omega
/-- what stays so far -/
def hstep (S : List Nat) (C : List Int) (d i j : Nat) : List Int := ((List.range j).filter fun k => decide (sNum S d k ≠ i + 1)).map fun k => C.getD k 0
theorem hstep_succ (j : Nat) (hj : j < C.length) : hstep S C d i (j + 1) = if sNum S d j ≠ i + 1 then hstep S C d i j ++ [C[j]] else hstep S C d i j := by
  unfold hstep
  rw [List.range_succ, List.filter_append, List.map_append]
  split
  · rename_i h
    rw [List.filter_cons_of_pos (p := fun k => decide (sNum S d k ≠ i + 1)) (by simpa using h), List.filter_nil, List.map_singleton, List.getD_eq_getElem?_getD, List.getElem?_eq_getElem hj]; rfl
  · rename_i h
    rw [List.filter_cons_of_neg (p := fun k => decide (sNum S d k ≠ i + 1)) (by simpa using h), List.filter_nil, List.map_nil, List.append_nil]
theorem hstep_len (j : Nat) : (hstep S C d i j).length ≤ j := by
  unfold hstep
  rw [List.length_map]
  exact Nat.le_trans (List.length_filter_le _ _) (by simp)
theorem hstep_all (F : Fits S C) (hd : d < S.length) : hstep S C d i C.length = shrC C (prodL (S.drop (d + 1))) (S.getD d 1) i (C.length / prodL (S.drop (d + 1))) ∧ (C.length = C.length / prodL (S.drop (d + 1)) * prodL (S.drop (d + 1))) := by
  have hp : 0 < prodL (S.drop (d + 1)) := prodL_pos _ fun s hs => F.pos s (List.mem_of_mem_drop hs)
  have hC : C.length = C.length / prodL (S.drop (d + 1)) * prodL (S.drop (d + 1)) := by
    rw [F.len, prod_at S d hd, ← Nat.mul_assoc, Nat.mul_div_cancel _ hp]
  refine ⟨?_, hC⟩
  unfold shrC
  rw [stay_eq (0 : Int) C _ _ _ _ hp (by omega), ← hC]
  rfl
end
theorem rget_s {K : Nat → Prop} {w W : World} {b g h k m : Nat} {S : List Nat} {C : List Int} (H : RF w K b g h k m S C W) (F : Fits S C) {d i : Nat} (hd : d < S.length) (hi : i < S.getD d 1) (j G cG : Nat) (hj : j < C.length) (hn : sNum S d j = i + 1) (hr : Row W G (zs ((cellL S j).set d i))) :
    Calls Try.prog 19 #[.pointer (some ⟨b, 0, none⟩), .slice (some ⟨G, 0, none⟩) S.length cG] W fun e W' => e = .returned (.tuple #[.int .i64 (C.getD (j - prodL (S.drop (d + 1))) 0), .int .i64 0]) ∧ ∃ n, W' = W.drewN n := by
  have hl : (zs ((cellL S j).set d i)).length = S.length := by rw [zs_len, List.length_set, cellL_length]
  have := rGet_ok b _ _ _ _ S C W H.rb F.len (zs ((cellL S j).set d i)) (some ⟨G, 0, none⟩) cG hr.cells F.some F.pos (Nat.le_trans F.most (by decide)) (by rw [hl]; have := F.few; omega)
  rw [hl, get_any S _ C F.some (scell_ok F hd hi j), sh_place F hd j hj hn] at this
  exact this
theorem has_four2 (S : List Nat) (d i : Int) (h : (hasB (zs S) d i && hasB (zs S) d (i + 1)) = false) : d < 0 ∨ (S.length : Int) ≤ d ∨ i < 0 ∨ ∃ D : Nat, d = D ∧ D < S.length ∧ ((S.getD D 1 : Nat) : Int) - 1 ≤ i := by
  cases h1 : hasB (zs S) d i with
  | false =>
    rcases has_four S d i h1 with e | e | e | ⟨D, e1, e2, e3⟩
    · exact .inl e
    · exact .inr (.inl e)
    · exact .inr (.inr (.inl e))
    · exact .inr (.inr (.inr ⟨D, e1, e2, by omega⟩))
  | true =>
    rw [h1, Bool.true_and] at h
    rcases has_four S d (i + 1) h with e | e | e | ⟨D, e1, e2, e3⟩
    · exact .inl e
    · exact .inr (.inl e)
    · exact .inr (.inr (.inl (by omega)))
    · exact .inr (.inr (.inr ⟨D, e1, e2, by omega⟩))
set_option maxRecDepth 100000 in
set_option maxHeartbeats 4000000 in
theorem rshrink_bad {K : Nat → Prop} {w : World} {b g h k m : Nat} {S : List Nat} {C : List Int} (H0 : RF w K b g h k m S C w) (F : Fits S C) (d i : Int) (hn : (hasB (zs S) d i && hasB (zs S) d (i + 1)) = false) :
    Calls Try.prog 15 #[.pointer (some ⟨b, 0, none⟩), .int .i64 d, .int .i64 i] w fun e V' => e = .returned (.int .i64 1) ∧ V' = w := by
  obtain ⟨d0, d1⟩ := H0.cells
  have hsz := H0.size
  clear H0
  have h1 := has_four2 S d i hn
  by_cases h0 : d < 0
  · have e1 : decide (d < 0) = true := decide_eq_true h0
    clear hn hsz h1
    go_enter Try.func15, Try.ntmps15
    go_wp2_with fail
    go_ret
    exact ⟨rfl, rfl⟩
  · obtain ⟨D, rfl⟩ : ∃ D : Nat, d = D := ⟨d.toNat, by omega⟩
    have e1 : decide ((D : Int) < 0) = false := decide_eq_false h0
    by_cases h2 : S.length ≤ D
    · have e2 : decide ((S.length : Int) ≤ (D : Int)) = true := decide_eq_true (by omega)
      have e2' : decide (S.length ≤ D) = true := decide_eq_true (by omega)
      clear hn hsz h1 h0 h2
      go_enter Try.func15, Try.ntmps15
      go_wp2_with fail
      go_ret
      exact ⟨rfl, rfl⟩
    · have e2 : decide ((S.length : Int) ≤ (D : Int)) = false := decide_eq_false (by omega)
      have e2' : decide (S.length ≤ D) = false := decide_eq_false (by omega)
      by_cases h3 : i < 0
      · have e3 : decide (i < 0) = true := decide_eq_true h3
        clear hn hsz h1 h0 h2
        go_enter Try.func15, Try.ntmps15
        go_wp2_with fail
        go_ret
        exact ⟨rfl, rfl⟩
      · have e3 : decide (i < 0) = false := decide_eq_false h3
        have h4 : ((S.getD D 1 : Nat) : Int) - 1 ≤ i := by
          rcases h1 with h1 | h1 | h1 | ⟨D', e, _, h⟩
          · omega
          · omega
          · omega
          · obtain rfl : D = D' := by omega
            exact h
        have d2 := hsz D (by omega)
        obtain ⟨hz1, hz2⟩ := sz_most S C F D (by omega)
        have e4 : decide (((S.getD D 1 : Nat) : Int) - 1 ≤ i) = true := decide_eq_true h4
        have z0 : (0 : Int) ≤ (D : Int) := by omega
        have z1 : (D : Int) < (S.length : Int) := by omega
        clear hn hsz h1 h0 h3 h4 F
        generalize S.getD D 1 = sz at *
        go_enter Try.func15, Try.ntmps15
        go_wp2_with fail
        go_ret
        exact ⟨rfl, rfl⟩
end Go.Proofs.Ytpbidpgpehicmaa.Sl
