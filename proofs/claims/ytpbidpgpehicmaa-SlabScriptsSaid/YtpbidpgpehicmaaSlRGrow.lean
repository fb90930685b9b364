/- The document's Grow. -/
import Derived.Test.YtpbidpgpehicmaaSlRSeen
namespace Go.Proofs.Ytpbidpgpehicmaa.Sl
open Go.RowKit Go.Shelf
open Go.Lib (hid)

theorem RF.rb {w wr : World} {K : Nat → Prop} {b g h k m : Nat} {S : List Nat} {X : List Int} (H : RF w K b g h k m S X wr) : Rb wr b (some ⟨g, 0, none⟩) (some ⟨h, 0, none⟩) k m (zs S) X :=
  ⟨by rw [zs_len]; exact H.hd, H.sz.cells, H.co.cells⟩
theorem RF.size {w wr : World} {K : Nat → Prop} {b g h k m : Nat} {S : List Nat} {X : List Int} (H : RF w K b g h k m S X wr) (d : Nat) (hd : d < S.length) : wr.cell? ⟨g, d, none⟩ = some (.int .i64 ((S.getD d 1 : Nat) : Int)) := by
  have := H.sz.cell d (by rw [zs_len]; exact hd)
  rw [List.getD_eq_getElem?_getD, List.getElem?_eq_getElem hd]
  simpa [zs] using this
theorem okC_set (S c : List Nat) (d x s' : Nat) (hd : d < S.length) (h : okC (S.set d s') c = true) (hx : x < S.getD d 1) : okC S (c.set d x) = true := by
  induction S generalizing c d with
  | nil => simp at hd
  | cons s t ih => cases c with
    | nil => cases d <;> simp [okC] at h
    | cons y c => cases d with
      | zero =>
        simp only [List.set_cons_zero, okC, Bool.and_eq_true, decide_eq_true_eq] at h ⊢
        exact ⟨by simpa using hx, h.2⟩
      | succ d =>
        simp only [List.set_cons_succ, okC, Bool.and_eq_true, decide_eq_true_eq] at h ⊢
        exact ⟨h.1, ih c d (by simpa using hd) h.2 (by simpa using hx)⟩
theorem okC_at2 (S c : List Nat) (h : okC S c = true) (j : Nat) (h1 : j < c.length) (h2 : j < S.length) : c[j] < S[j] := by
  induction S generalizing c j with
  | nil => simp at h2
  | cons s t ih => cases c with
    | nil => simp at h1
    | cons x y =>
      simp only [okC, Bool.and_eq_true, decide_eq_true_eq] at h
      cases j with
      | zero => exact h.1
      | succ j => exact ih y h.2 j (by simpa using h1) (by simpa using h2)
theorem cell_yes2 (S c : List Nat) (hS : S ≠ []) (h : okC S c = true) : cellB (zs S) (zs c) = true := by
  have hl := okC_length S c h
  refine pre_cell S (zs c) hS (by rw [zs_len]; exact hl.symm) fun j hj => ?_
  rw [zs_len] at hj
  refine ⟨by rw [zs_len]; exact hj, by omega, ?_⟩
  have := okC_at2 S c h j hj (by omega)
  simp only [zs, List.getElem_map]
  omega
theorem get_any (S c : List Nat) (C : List Int) (hS : S ≠ []) (h : okC S c = true) : getAns S C (zs c) = (C.getD (placeL S c) 0, 0) := by
  unfold getAns
  rw [if_pos (cell_yes2 S c hS h), zs_nat]
/-- the number at d of a place's cell in the sizes that were grown -/
def gNum (S : List Nat) (d k : Nat) : Nat := k / prodL (S.drop (d + 1)) % (S.getD d 1 + 1)
/-- what the document's Grow reads for place k -/
def gVal (S : List Nat) (C : List Int) (d i k : Nat) : Int := C.getD (placeL S ((cellL (S.set d (S.getD d 1 + 1)) k).set d (if gNum S d k > i then gNum S d k - 1 else gNum S d k))) 0
section
variable {S : List Nat} {C : List Int} {d i : Nat}
theorem gcell_at (hd : d < S.length) (k : Nat) : (cellL (S.set d (S.getD d 1 + 1)) k)[d]? = some (gNum S d k) := by
  have h := cellL_at (S.set d (S.getD d 1 + 1)) k d (by rw [List.length_set]; exact hd)
  rw [h, List.getElem_set_self]
  unfold gNum
  rw [List.drop_set_of_lt (by omega)]
theorem set_same (c : List Nat) (d v : Nat) (h : c[d]? = some v) : c.set d v = c := by
  obtain ⟨hd, e⟩ := List.getElem?_eq_some_iff.1 h
  rw [← e]; exact List.set_getElem_self hd
theorem gNum_lt (k : Nat) : gNum S d k < S.getD d 1 + 1 := Nat.mod_lt _ (by omega)
theorem gcell_ok (F : Fits S C) (hd : d < S.length) (hi : i < S.getD d 1) (k : Nat) : okC S ((cellL (S.set d (S.getD d 1 + 1)) k).set d (if gNum S d k > i then gNum S d k - 1 else gNum S d k)) = true := by
  refine okC_set S _ d _ (S.getD d 1 + 1) hd (cellL_ok _ k fun s hs => ?_) ?_
  · rw [set_split S d _ hd] at hs
    rcases List.mem_append.1 hs with h | h
    · exact F.pos s (List.mem_of_mem_take h)
    · rcases List.mem_cons.1 h with rfl | h
      · omega
      · exact F.pos s (List.mem_of_mem_drop h)
  · have := gNum_lt (S := S) (d := d) k
    split <;> omega
theorem gVal_all (F : Fits S C) (hd : d < S.length) (hi : i < S.getD d 1) : growC S C d i = (List.range (prodL (S.set d (S.getD d 1 + 1)))).map (gVal S C d i) := grow_cells S C F d i hd hi
end
theorem has_four (S : List Nat) (d i : Int) (h : hasB (zs S) d i = false) : d < 0 ∨ (S.length : Int) ≤ d ∨ i < 0 ∨ ∃ D : Nat, d = D ∧ D < S.length ∧ ((S.getD D 1 : Nat) : Int) ≤ i := by
  by_cases h1 : d < 0
  · exact .inl h1
  · by_cases h2 : (S.length : Int) ≤ d
    · exact .inr (.inl h2)
    · by_cases h3 : i < 0
      · exact .inr (.inr (.inl h3))
      · right; right; right
        obtain ⟨D, rfl⟩ : ∃ D : Nat, d = D := ⟨d.toNat, by omega⟩
        refine ⟨D, rfl, by omega, ?_⟩
        have hD : D < S.length := by omega
        rw [← Int.not_lt]
        intro hlt
        have : hasB (zs S) (D : Int) i = true := by
          unfold hasB
          simp only [Bool.and_eq_true, decide_eq_true_eq, zs_len, Int.toNat_natCast]
          rw [zs_at S D hD]
          refine ⟨⟨⟨by omega, by omega⟩, by omega⟩, ?_⟩
          rw [List.getD_eq_getElem?_getD, List.getElem?_eq_getElem hD] at hlt
          exact hlt
        rw [h] at this; cases this
set_option maxRecDepth 100000 in
set_option maxHeartbeats 4000000 in
theorem rgrow_bad {K : Nat → Prop} {w : World} {b g h k m : Nat} {S : List Nat} {C : List Int} (H0 : RF w K b g h k m S C w) (d i : Int) (hn : hasB (zs S) d i = false) :
    Calls Try.prog 13 #[.pointer (some ⟨b, 0, none⟩), .int .i64 d, .int .i64 i] w fun e V' => e = .returned (.int .i64 1) ∧ V' = w := by
  obtain ⟨d0, d1⟩ := H0.cells
  have hsz := H0.size
  clear H0
  rcases has_four S d i hn with h1 | h1
  · have e1 : decide (d < 0) = true := decide_eq_true h1
    clear hn hsz h1
    go_enter Try.func13, Try.ntmps13
    go_wp2_with fail
    go_ret
    exact ⟨rfl, rfl⟩
  · by_cases h0 : d < 0
    · have e1 : decide (d < 0) = true := decide_eq_true h0
      clear hn hsz h1
      go_enter Try.func13, Try.ntmps13
      go_wp2_with fail
      go_ret
      exact ⟨rfl, rfl⟩
    · obtain ⟨D, rfl⟩ : ∃ D : Nat, d = D := ⟨d.toNat, by omega⟩
      have e1 : decide ((D : Int) < 0) = false := decide_eq_false h0
      by_cases h2 : S.length ≤ D
      · have e2 : decide ((S.length : Int) ≤ (D : Int)) = true := decide_eq_true (by omega)
        have e2' : decide (S.length ≤ D) = true := decide_eq_true (by omega)
        clear hn hsz h1 h0 h2
        go_enter Try.func13, Try.ntmps13
        go_wp2_with fail
        go_ret
        exact ⟨rfl, rfl⟩
      · have e2 : decide ((S.length : Int) ≤ (D : Int)) = false := decide_eq_false (by omega)
        have e2' : decide (S.length ≤ D) = false := decide_eq_false (by omega)
        by_cases h3 : i < 0
        · have e3 : decide (i < 0) = true := decide_eq_true h3
          clear hn hsz h1 h0 h2
          go_enter Try.func13, Try.ntmps13
          go_wp2_with fail
          go_ret
          exact ⟨rfl, rfl⟩
        · have e3 : decide (i < 0) = false := decide_eq_false h3
          have h4 : ((S.getD D 1 : Nat) : Int) ≤ i := by
            rcases h1 with h1 | h1 | ⟨D', e, _, h⟩
            · omega
            · omega
            · obtain rfl : D = D' := by omega
              exact h
          have d2 := hsz D (by omega)
          have e4 : decide (((S.getD D 1 : Nat) : Int) ≤ i) = true := decide_eq_true h4
          have z0 : (0 : Int) ≤ (D : Int) := by omega
          have z1 : (D : Int) < (S.length : Int) := by omega
          clear hn hsz h1 h0 h3 h4
          generalize S.getD D 1 = sz at *
          go_enter Try.func13, Try.ntmps13
          go_wp2_with fail
          go_ret
          exact ⟨rfl, rfl⟩
set_option maxRecDepth 100000 in
set_option maxHeartbeats 4000000 in
theorem rgrow_lim {K : Nat → Prop} {w : World} {b g h k m : Nat} {S : List Nat} {C : List Int} (H0 : RF w K b g h k m S C w) (F : Fits S C) (d i : Nat) (hd : d < S.length) (hi : i < S.getD d 1) (hover : 4096 < C.length / S.getD d 1 * (S.getD d 1 + 1)) :
    Calls Try.prog 13 #[.pointer (some ⟨b, 0, none⟩), .int .i64 (d : Int), .int .i64 (i : Int)] w fun e V' => e = .returned (.int .i64 4) ∧ ∃ n, V' = w.drewN n := by
  obtain ⟨d0, d1⟩ := H0.cells
  have d2 := H0.size d hd
  obtain ⟨hsz1, hszm⟩ := sz_most S C F d hd
  obtain ⟨sz, hsz⟩ : ∃ sz, S.getD d 1 = sz := ⟨_, rfl⟩
  rw [hsz] at hi hover hsz1 hszm d2
  have hS6 := F.few
  obtain ⟨q, hq⟩ : ∃ q, q = C.length / sz := ⟨_, rfl⟩
  obtain ⟨tot, htot⟩ : ∃ tot, tot = q * (sz + 1) := ⟨_, rfl⟩
  rw [← hq, ← htot] at hover
  have hC4 : C.length ≤ 4096 := by rw [F.len]; exact F.most
  have hq4 : q ≤ 4096 := by rw [hq]; exact Nat.le_trans (Nat.div_le_self _ _) hC4
  have htm : tot ≤ 4096 * 4097 := by rw [htot]; exact Nat.mul_le_mul hq4 (by omega)
  have a1 : (C.length : Int) / (sz : Int) = (q : Int) := by rw [hq]; rfl
  have A3 := hid (mul_in2 q sz tot htot (Nat.le_trans htm (by decide)))
  have a4 : decide ((4096 : Int) < wrap64 ((q : Int) * ((sz : Int) + 1))) = true := by rw [A3.out]; exact over_in tot hover
  have a5 : ¬ (sz : Int) = 0 := by omega
  have e1 : decide ((d : Int) < 0) = false := by simp
  have e2 : decide ((S.length : Int) ≤ (d : Int)) = false := decide_eq_false (by omega)
  have e2' : decide (S.length ≤ d) = false := decide_eq_false (by omega)
  have e3 : decide ((i : Int) < 0) = false := by simp
  have e4 : decide ((sz : Int) ≤ (i : Int)) = false := decide_eq_false (by omega)
  have e4' : decide (sz ≤ i) = false := decide_eq_false (by omega)
  have z0 : (0 : Int) ≤ (d : Int) := by omega
  have z1 : (d : Int) < (S.length : Int) := by omega
  clear H0 F hsz hC4 htot hq htm hover hi hd
  go_enter Try.func13, Try.ntmps13
  go_wp2_with fail
  go_quiet (fail)
  go_wp2_with fail
  go_ret
  exact ⟨rfl, nq, rfl⟩
end Go.Proofs.Ytpbidpgpehicmaa.Sl
