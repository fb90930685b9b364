/- Plain facts of a range that was filled; sizes and cells that are kept aside. -/
import Derived.Test.YtpbidpgpehicmaaSlGro
namespace Go.Proofs.Ytpbidpgpehicmaa.Sl
open Go.RowKit Go.Shelf
open Go.Lib (hid)

theorem within_low (L H : List Nat) (h : withinL L L H = true) : withinL H L H = true := by
  induction L generalizing H with
  | nil => cases H <;> rfl
  | cons l L ih => cases H with
    | nil => rfl
    | cons x H =>
      simp only [withinL, Bool.and_eq_true, decide_eq_true_eq] at h ⊢
      exact ⟨⟨h.1.2, Nat.le_refl _⟩, ih H h.2⟩
theorem within_at (L H : List Nat) (h : withinL L L H = true) (j : Nat) (h1 : j < L.length) (h2 : j < H.length) : L[j] ≤ H[j] := by
  induction L generalizing H j with
  | nil => simp at h1
  | cons l L ih => cases H with
    | nil => simp at h2
    | cons x H =>
      simp only [withinL, Bool.and_eq_true, decide_eq_true_eq] at h
      cases j with
      | zero => exact h.1.2
      | succ j => exact ih H h.2 j (by simpa using h1) (by simpa using h2)
theorem countL_take (L H : List Nat) (k : Nat) (h1 : k < L.length) (h2 : k < H.length) : countL (L.take (k + 1)) (H.take (k + 1)) = countL (L.take k) (H.take k) * (H[k] + 1 - L[k]) := by
  induction L generalizing H k with
  | nil => simp at h1
  | cons l L ih => cases H with
    | nil => simp at h2
    | cons x H =>
      cases k with
      | zero => simp [countL]
      | succ k =>
        have := ih H k (by simpa using h1) (by simpa using h2)
        simp only [List.take_succ_cons, countL, List.getElem_cons_succ] at this ⊢
        rw [this, Nat.mul_assoc]
theorem countL_le (S L H : List Nat) (h : okC S H = true) (hs : ∀ s ∈ S, 0 < s) (k : Nat) : countL (L.take k) (H.take k) ≤ prodL S := by
  induction S generalizing L H k with
  | nil => cases H with
    | nil => cases L <;> cases k <;> simp [countL, prodL]
    | cons x H => simp [okC] at h
  | cons s t ih =>
    have hp := prodL_pos (s :: t) hs
    cases H with
    | nil => simp [okC] at h
    | cons x H => cases L with
      | nil => simp only [List.take_nil, countL]; omega
      | cons l L =>
        cases k with
        | zero => simp only [List.take_zero, countL]; omega
        | succ k =>
          simp only [okC, Bool.and_eq_true, decide_eq_true_eq] at h
          simp only [List.take_succ_cons, countL, prodL]
          exact Nat.mul_le_mul (by omega) (ih L H h.2 (fun y hy => hs y (by simp [hy])) k)
theorem firsts_same (n : Nat) (x : Int) : firstsA (List.replicate (n + 1) x) = [x] := by
  unfold firstsA
  have h : ∀ n, (List.replicate n x).foldl addI [x] = [x] := fun n => by
    induction n with
    | zero => rfl
    | succ n ih => rw [List.replicate_succ, List.foldl_cons, show addI [x] x = [x] by simp [addI], ih]
  rw [List.replicate_succ, List.foldl_cons, show addI [] x = [x] by simp [addI]]
  exact h n
section
variable {S L H : List Nat} {C : List Int} {N : Int}
/-- the places of a range -/
def plcs (S L H : List Nat) : List Nat := (rangeL L H).map (placeL S)
theorem plcs_len : (plcs S L H).length = countL L H := by unfold plcs; rw [List.length_map, rangeL_length]
theorem plcs_mem (h1 : okC S L = true) (h2 : okC S H = true) (hs : ∀ s ∈ S, 0 < s) (c : List Nat) (hc : okC S c = true) (hw : withinL c L H = true) : placeL S c ∈ plcs S L H := by
  unfold plcs
  rw [places_eq S L H h1 h2 hs]
  exact List.mem_filter.2 ⟨List.mem_range.2 (placeL_lt S c hc), by rw [cellL_place S c hc]; exact hw⟩
theorem plcs_lt (h1 : okC S L = true) (h2 : okC S H = true) (hs : ∀ s ∈ S, 0 < s) (p : Nat) (hp : p ∈ plcs S L H) : p < prodL S := by
  unfold plcs at hp
  rw [places_eq S L H h1 h2 hs] at hp
  exact List.mem_range.1 (List.mem_filter.1 hp).1
theorem fill_in_at (F : Fits S C) (h1 : okC S L = true) (h2 : okC S H = true) (p : Nat) (hp : p ∈ plcs S L H) : (fillL N (plcs S L H) C)[p]? = some N := by
  have hlt := plcs_lt h1 h2 F.pos p hp
  unfold fillL
  rw [set_all, if_pos ⟨hp, by rw [F.len]; exact hlt⟩]
theorem fill_seen (F : Fits S C) (h1 : okC S L = true) (h2 : okC S H = true) (hw : withinL L L H = true) : firstsA (atL (fillL N (plcs S L H) C) (plcs S L H)) = [N] := by
  have e : atL (fillL N (plcs S L H) C) (plcs S L H) = List.replicate (plcs S L H).length N := by
    unfold atL
    rw [List.eq_replicate_iff]
    refine ⟨by simp, fun b hb => ?_⟩
    obtain ⟨p, hp, rfl⟩ := List.mem_map.1 hb
    rw [List.getD_eq_getElem?_getD, fill_in_at F h1 h2 p hp]; rfl
  have h0 := List.length_pos_of_mem (plcs_mem h1 h2 F.pos L h1 hw)
  obtain ⟨n, hn⟩ : ∃ n, (plcs S L H).length = n + 1 := ⟨(plcs S L H).length - 1, by omega⟩
  rw [e, hn, firsts_same]
theorem fill_get (F : Fits S C) (h1 : okC S L = true) (h2 : okC S H = true) (c : List Nat) (hc : okC S c = true) (hw : withinL c L H = true) (hy : cellB (zs S) (zs c) = true) : getAns S (fillL N (plcs S L H) C) (zs c) = (N, 0) := by
  unfold getAns
  rw [if_pos hy, zs_nat, List.getD_eq_getElem?_getD, fill_in_at F h1 h2 _ (plcs_mem h1 h2 F.pos c hc hw)]; rfl
theorem fill_each (i : Nat) (hi : i < C.length) (hi2 : i < (fillL N (plcs S L H) C).length) : (fillL N (plcs S L H) C)[i] = N ∨ (fillL N (plcs S L H) C)[i] = C[i] := by
  have e : (fillL N (plcs S L H) C)[i]? = some (fillL N (plcs S L H) C)[i] := List.getElem?_eq_getElem hi2
  unfold fillL at e
  rw [set_all, List.getElem?_eq_getElem hi] at e
  split at e
  · injection e with e; left; unfold fillL; exact e.symm
  · injection e with e; right; unfold fillL; exact e.symm
theorem fill_count (F : Fits S C) (h1 : okC S L = true) (h2 : okC S H = true) : countL L H ≤ (fillL N (plcs S L H) C).count N := by
  have hlen : (fillL N (plcs S L H) C).length = prodL S := by rw [fillL_length]; exact F.len
  have hget : ∀ p ∈ plcs S L H, (fillL N (plcs S L H) C).getD p 0 = N := fun p hp => by
    rw [List.getD_eq_getElem?_getD, fill_in_at F h1 h2 p hp]; rfl
  have hsub : (plcs S L H).Sublist (List.range (prodL S)) := by
    unfold plcs; rw [places_eq S L H h1 h2 F.pos]; exact List.filter_sublist
  generalize fillL N (plcs S L H) C = X at hlen hget
  have hX : X = (List.range (prodL S)).map fun i => X.getD i 0 := by
    apply List.ext_getElem
    · simp [hlen]
    · intro i h _
      simp [List.getElem?_eq_getElem h]
  rw [← plcs_len (S := S), hX, List.count, List.countP_map]
  refine Nat.le_trans ?_ (hsub.countP_le)
  rw [List.countP_eq_length.2]
  · exact Nat.le_refl _
  · intro p hp
    show (X.getD p 0 == N) = true
    rw [hget p hp]; simp
end
theorem count_take (X : List Int) (N : Int) (i : Nat) (hi : i < X.length) : (X.take (i + 1)).count N = (X.take i).count N + if X[i] = N then 1 else 0 := by
  rw [List.take_succ_eq_append_getElem hi, List.count_append]
  congr 1
  rw [List.count_singleton]
  simp [beq_iff_eq]
/-- what lies in K's blocks stays -/
theorem CellsD.on {K : Nat → Prop} {V V' : World} {p : Option Addr} {l : List Value} (h : CellsD (fun j => ¬ K j) V p l) (ho : On K V V') : CellsD (fun j => ¬ K j) V' p l :=
  h.keep ho.size fun k hk hn => ho.block' k (Classical.not_not.1 hn) hk
theorem CellsD.mono {D D' : Nat → Prop} {V : World} {p : Option Addr} {l : List Value} (h : CellsD D V p l) (hd : ∀ j, j < V.heap.size → D' j → D j) : CellsD D' V p l := fun j hj => by
  obtain ⟨b, off, e, hlt, hn, hc⟩ := h j hj
  exact ⟨b, off, e, hlt, fun hn' => hn (hd b hlt hn'), hc⟩
theorem lv_cellsK {K : Nat → Prop} {V : World} {b : Nat} {S : List Nat} {C : List Int} (h : Lv K V b S C) :
    Calls Try.prog 26 #[.pointer (some ⟨b, 0, none⟩)] V fun e V' => ∃ p c, e = .returned (.slice p C.length c) ∧ ∃ K' : Nat → Prop, (∀ j, K j → K' j) ∧ Lv K' V' b S C ∧ CellsD (fun j => ¬ K' j) V' p (iv C) ∧ Below V.heap.size V V' := by
  refine (lv_cells h).mono ?_
  rintro e V' ⟨p, c, rfl, _, hb, hc⟩
  exact ⟨p, c, rfl, _, fun j hj => .inl hj, h.more hb, hc.mono fun j hj hn => Classical.not_not.1 fun hge => hn (.inr ⟨Nat.not_lt.1 hge, hj⟩), hb⟩
theorem lv_sizesK {K : Nat → Prop} {V : World} {b : Nat} {S : List Nat} {C : List Int} (h : Lv K V b S C) :
    Calls Try.prog 25 #[.pointer (some ⟨b, 0, none⟩)] V fun e V' => ∃ p c, e = .returned (.slice p S.length c) ∧ ∃ K' : Nat → Prop, (∀ j, K j → K' j) ∧ Lv K' V' b S C ∧ CellsD (fun j => ¬ K' j) V' p (iv (zs S)) ∧ Below V.heap.size V V' := by
  obtain ⟨g, k, hs, _⟩ := h.ex
  have hf := h.fit
  refine (sizes_ok hs (by rw [zs_len]; have := h.fit.few; omega)).mono ?_
  rintro e V' ⟨p, c, rfl, _, hc, hb, h0⟩
  obtain ⟨rfl, hr⟩ := h0 (by rw [zs_len]; exact List.length_pos_iff.2 hf.some)
  refine ⟨_, c, by rw [zs_len], _, fun j hj => .inl hj, h.more hb, fun j hj => ?_, hb⟩
  rw [iv_length] at hj
  exact ⟨_, 0, rfl, hr.lt, fun hn => hn (.inr ⟨by omega, hr.lt⟩), by rw [Nat.zero_add, hr.cell j hj, iv_at _ j hj]⟩
end Go.Proofs.Ytpbidpgpehicmaa.Sl
