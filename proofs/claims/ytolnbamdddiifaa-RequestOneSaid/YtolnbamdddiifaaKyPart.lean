/- Partial of both sides. -/
import Derived.Test.YtolnbamdddiifaaKyRep
namespace Go.Proofs.Ytolnbamdddiifaa.Ky
open Go.RowKit
open Go.Lib (hid)

/-- a list of numbers that came in -/
structure Is (w : World) (p : Option Addr) (l : List Int) : Prop where
  cells : ∀ j, (hj : j < l.length) → ∃ b off, p = some ⟨b, off, none⟩ ∧ b < w.heap.size ∧ w.cell? ⟨b, off + j, none⟩ = some (.int .i64 l[j])
  fit : ∀ j, (hj : j < l.length) → -9223372036854775808 ≤ l[j] ∧ l[j] ≤ 9223372036854775807
theorem Is.below {w w' : World} {p : Option Addr} {l : List Int} (h : Is w p l) (hb : Below w.heap.size w w') : Is w' p l :=
  ⟨fun j hj => by
    obtain ⟨b, off, e, hlt, hc⟩ := h.cells j hj
    exact ⟨b, off, e, Nat.lt_of_lt_of_le hlt hb.size, (hb.cell hlt).trans hc⟩, h.fit⟩
/-- the first k put in -/
def putsK (b : List Nat) (at_ : List Int) (k : List Nat) (j : Nat) : List Nat := puts b (at_.take j) (k.take j)
theorem puts_snoc (b : List Nat) (at_ : List Int) (k : List Nat) (c : Int) (x : Nat) (h : at_.length = k.length) : puts b (at_ ++ [c]) (k ++ [x]) = (puts b at_ k).set c.toNat x := by
  induction at_ generalizing b k with
  | nil => cases k with
    | nil => rfl
    | cons _ _ => simp at h
  | cons a l ih => cases k with
    | nil => simp at h
    | cons y m => simp only [List.cons_append, puts]; exact ih _ _ (by simpa using h)
theorem putsK_more (b : List Nat) (at_ : List Int) (k : List Nat) (j : Nat) (h : at_.length = k.length) (h1 : j < at_.length) (h2 : j < k.length) : (putsK b at_ k j).set at_[j].toNat k[j] = putsK b at_ k (j + 1) := by
  unfold putsK
  rw [List.take_succ_eq_append_getElem h1, List.take_succ_eq_append_getElem h2, puts_snoc _ _ _ _ _ (by simp; omega)]
theorem putsK_all (b : List Nat) (at_ : List Int) (k : List Nat) (h : at_.length = k.length) : putsK b at_ k at_.length = puts b at_ k := by
  unfold putsK; rw [List.take_length, h, List.take_length]
theorem puts_length (b : List Nat) (at_ : List Int) (k : List Nat) : (puts b at_ k).length = b.length := by
  induction at_ generalizing b k with
  | nil => cases k <;> rfl
  | cons a l ih => cases k with
    | nil => rfl
    | cons y m => simp only [puts]; rw [ih]; simp
theorem puts_fit (b : List Nat) (at_ : List Int) (k : List Nat) (hb : ∀ x ∈ b, x < 4294967296) (hk : ∀ x ∈ k, x < 4294967296) : ∀ x ∈ puts b at_ k, x < 4294967296 := by
  induction at_ generalizing b k with
  | nil => cases k <;> exact hb
  | cons a l ih => cases k with
    | nil => exact hb
    | cons y m =>
      simp only [puts]
      refine ih _ _ (fun x hx => ?_) (fun x hx => hk x (by simp [hx]))
      rcases List.mem_or_eq_of_mem_set hx with h | rfl
      · exact hb x h
      · exact hk _ (by simp)
/-- what the next one may be at least, behind the first j -/
def leastK (at_ : List Int) : Nat → Int
  | 0 => 0
  | j + 1 => at_.getD j 0 + 1
theorem rises_drop (dim : Nat) (at_ : List Int) (j : Nat) (h : j < at_.length) : rises dim (leastK at_ j) (at_.drop j) = (decide (leastK at_ j ≤ at_[j]) && (decide (at_[j] < dim) && rises dim (leastK at_ (j + 1)) (at_.drop (j + 1)))) := by
  rw [List.drop_eq_getElem_cons h]
  simp only [rises, leastK]
  rw [List.getD_eq_getElem?_getD, List.getElem?_eq_getElem h]; rfl
/-- the loop's relation -/
def PR (w : World) (g8 gl gh D : Nat) (at_ : List Int) (k : List Nat) (lv iv : Value) (wr : World) : Prop :=
  ∃ j : Nat, j ≤ at_.length ∧ iv = .int .i64 j ∧ lv = .int .i64 (leastK at_ j) ∧ rises D (leastK at_ j) (at_.drop j) = rises D 0 at_ ∧ (0 ≤ leastK at_ j ∧ leastK at_ j ≤ D) ∧
    Own wr gl (putsK (List.replicate D 0) at_ k j) ∧ Own wr gh (putsK (List.replicate D 4294967295) at_ k j) ∧ wr.heap[g8]? = some (.cells #[.slice (some ⟨gl, 0, none⟩) D D, .slice (some ⟨gh, 0, none⟩) D D] 25 (0, 0)) ∧
    wr.heap[w.heap.size]? = some (.cells #[Value.slice none 0 0, .slice none 0 0] 25 (0, 0)) ∧ Below w.heap.size w wr
theorem part_no {w w' : World} {dim : Int} {at_ : List Int} {k : List Nat} (h : partOk dim at_ k = false) (hb : Below w.heap.size w w') :
    NewBox w (partLo dim at_ k) (partHi dim at_ k) (.int .i64 (err (partOk dim at_ k))) (.returned (.tuple #[.agg #[.slice none 0 0, .slice none 0 0], .int .i64 1])) w' := by
  have e1 : partLo dim at_ k = [] := by simp [partLo, h]
  have e2 : partHi dim at_ k = [] := by simp [partHi, h]
  rw [h, e1, e2]
  exact ⟨none, 0, none, 0, rfl, Pt.nil _ _, Pt.nil _ _, hb⟩
theorem part_yes {w w' : World} {D gl gh : Nat} {at_ : List Int} {k : List Nat} (h : partOk (D : Int) at_ k = true) (hk : ∀ x ∈ k, x < 4294967296)
    (h1 : Own w' gl (puts (List.replicate D 0) at_ k)) (h2 : Own w' gh (puts (List.replicate D 4294967295) at_ k)) (hb : Below w.heap.size w w') :
    NewBox w (partLo D at_ k) (partHi D at_ k) (.int .i64 (err (partOk D at_ k))) (.returned (.tuple #[.agg #[.slice (some ⟨gl, 0, none⟩) D D, .slice (some ⟨gh, 0, none⟩) D D], .int .i64 0])) w' := by
  have e1 : partLo D at_ k = puts (List.replicate D 0) at_ k := by simp [partLo, h, lowW]
  have e2 : partHi D at_ k = puts (List.replicate D 4294967295) at_ k := by simp [partHi, h, highW]
  rw [h, e1, e2]
  refine ⟨_, D, _, D, by rw [puts_length, puts_length, List.length_replicate, List.length_replicate]; rfl, h1.pt (puts_fit _ _ _ (rep_fit _ _ (by omega)) hk), h2.pt (puts_fit _ _ _ (rep_fit _ _ (by omega)) hk), hb⟩
/-- nothing but the result's variable is stored to, once more -/
theorem zero_again {w V : World} (hb : Below w.heap.size w V) (hz : V.heap[w.heap.size]? = some (.cells #[Value.slice none 0 0, .slice none 0 0] 25 (0, 0))) :
    Below w.heap.size w ((V.setCell ⟨w.heap.size, 0, none⟩ (.slice none 0 0)).setCell ⟨w.heap.size, 1, none⟩ (.slice none 0 0)) ∧ ((V.setCell ⟨w.heap.size, 0, none⟩ (.slice none 0 0)).setCell ⟨w.heap.size, 1, none⟩ (.slice none 0 0)).cell? ⟨w.heap.size, 0, none⟩ = some (.slice none 0 0) ∧ ((V.setCell ⟨w.heap.size, 0, none⟩ (.slice none 0 0)).setCell ⟨w.heap.size, 1, none⟩ (.slice none 0 0)).cell? ⟨w.heap.size, 1, none⟩ = some (.slice none 0 0) :=
  have h := store_out (lo := []) (hi := []) (A := none) (A' := none) hb (Nat.le_refl _) hz (Pt.nil _ _) (Pt.nil _ _) (.slice none 0 0) (.slice none 0 0) (by simp)
  ⟨h.2.2.1, h.2.2.2⟩
set_option maxRecDepth 100000 in
set_option maxHeartbeats 4000000 in
theorem partial_ok (dim : Int) (at_ : List Int) (k : List Nat) (p q : Option Addr) (c1 c2 : Nat) (w : World) (h1 : Is w p at_) (h2 : Pt w q k) (hl : at_.length ≤ 1000000) :
    Calls Try.prog 16 #[.int .i64 dim, .slice p at_.length c1, .slice q k.length c2] w (NewBox w (partLo dim at_ k) (partHi dim at_ k) (.int .i64 (err (partOk dim at_ k)))) := by
  obtain ⟨oz, hoz⟩ : ∃ o, o = Obj.cells #[Value.slice none 0 0, .slice none 0 0] 25 := ⟨_, rfl⟩
  have HB0 := hid (below_alloc w oz)
  have HZ0 := hid (show (w.alloc oz).heap[w.heap.size]? = some (.cells #[Value.slice none 0 0, .slice none 0 0] 25 (0, 0)) by rw [hoz]; exact heap_alloc_new w _)
  have HM := hid fun w' => may_ok dim w'
  subst hoz
  have z := zero_cells HZ0.out
  have HS := hid (zero_again HB0.out HZ0.out)
  by_cases hd : 1 ≤ dim ∧ dim ≤ 6
  · have hm : mayB dim = true := by simp [mayB]; omega
    rw [hm] at HM
    by_cases hlen : at_.length = k.length
    · obtain ⟨D, rfl⟩ : ∃ D : Nat, dim = (D : Int) := ⟨dim.toNat, by omega⟩
      have HR : Hid (partOk (D : Int) at_ k = rises D 0 at_) := hid (by simp [partOk, hd, hlen])
      have HW := hid fun w' => whole_two D w' hd
      have HD := hid hd
      have e1 : ((at_.length : Int) != (k.length : Int)) = false := by simp [hlen]
      have HLEN := hid hlen
      have HI := hid fun (w' : World) (h : Below w.heap.size w w') => And.intro (h1.below h) (h2.below h)
      have HKF := hid (pt_mem h2)
      have HK0 := hid h2
      clear hm hd hlen h1 h2 HS
      go_enter Try.func16, Try.ntmps16
      go_wp2_with (first | (go_at_call 23; refine (HM.out _).mono ?_; rintro e w' ⟨rfl, rfl⟩) | (go_at_call 24; refine (HW.out _).mono ?_; rintro e w4 ⟨gl, gh, rfl, o1, o2, on, og1, og2, hb⟩; have HO := hid (And.intro o1 (And.intro o2 (And.intro on (And.intro og1 og2)))); have HB4 := hid hb; clear o1 o2 on og1 og2 hb z))
      have HX := hid (show Own (w4.alloc (.cells #[Value.slice (some ⟨gl, 0, none⟩) D D, .slice (some ⟨gh, 0, none⟩) D D] 25)) gl (List.replicate D 0) ∧ Own (w4.alloc (.cells #[Value.slice (some ⟨gl, 0, none⟩) D D, .slice (some ⟨gh, 0, none⟩) D D] 25)) gh (List.replicate D 4294967295) ∧ (w4.alloc (.cells #[Value.slice (some ⟨gl, 0, none⟩) D D, .slice (some ⟨gh, 0, none⟩) D D] 25)).heap[w4.heap.size]? = some (.cells #[Value.slice (some ⟨gl, 0, none⟩) D D, .slice (some ⟨gh, 0, none⟩) D D] 25) ∧ (w4.alloc (.cells #[Value.slice (some ⟨gl, 0, none⟩) D D, .slice (some ⟨gh, 0, none⟩) D D] 25)).heap[w.heap.size]? = some (.cells #[Value.slice none 0 0, .slice none 0 0] 25 (0, 0)) ∧ Below w.heap.size w (w4.alloc (.cells #[Value.slice (some ⟨gl, 0, none⟩) D D, .slice (some ⟨gh, 0, none⟩) D D] 25)) ∧ gl < w4.heap.size ∧ gh < w4.heap.size by
        have hz4 := (HB4.out.block _ (lt_of HZ0.out)).trans HZ0.out
        have hb4 := HB0.out.trans (HB4.out.mono HB0.out.size)
        exact ⟨HO.out.1.alloc _, HO.out.2.1.alloc _, heap_alloc_new _ _, (Below.heap_alloc _ _ _ (lt_of hz4)).trans hz4, hb4.alloc hb4.size _, HO.out.1.lt, HO.out.2.1.lt⟩)
      have HNE := hid (show gl ≠ gh ∧ w.heap.size < gl ∧ w.heap.size < gh by have := HO.out.2.2; simp at this; omega)
      clear HO HB4 HM HW HZ0 HB0 e1
      generalize w4.alloc (.cells #[Value.slice (some ⟨gl, 0, none⟩) D D, .slice (some ⟨gh, 0, none⟩) D D] 25) = V at HX ⊢
      generalize w4.heap.size = g8 at HX ⊢
      go_loopw [9, 27] (fun lv iv wr => PR w g8 gl gh D at_ k lv iv wr) (fun _ iv _ => at_.length - (intOf iv).toNat)
      case atStart => exact ⟨0, by omega, rfl, rfl, rfl, by simp [leastK], HX.out.1, HX.out.2.1, HX.out.2.2.1, HX.out.2.2.2.1, HX.out.2.2.2.2.1⟩
      case round =>
        obtain ⟨j, hj, rfl, rfl, hrs, hle, o1, o2, hb8, hz, hb⟩ := hrel
        have HRS := hid hrs; have HLE := hid hle; have HO1 := hid o1; have HO2 := hid o2; have H8 := hid hb8; have HZ := hid hz; have HB := hid hb
        have x0 : wr.cell? ⟨g8, 0, none⟩ = some (.slice (some ⟨gl, 0, none⟩) D D) := by rw [cell_of_row _ _ _ _ _ _ hb8]; rfl
        have x1 : wr.cell? ⟨g8, 1, none⟩ = some (.slice (some ⟨gh, 0, none⟩) D D) := by rw [cell_of_row _ _ _ _ _ _ hb8]; rfl
        have HGG := hid (show gl ≠ g8 ∧ gh ≠ g8 by have h := HX.out.2.2.2.2.2; omega)
        clear hrs o1 o2 hb8 hz hb
        have hle1 := hle.1
        have hle2 := hle.2
        clear hle
        by_cases hlt : j < at_.length
        · have hjk : j < k.length := by have := HLEN.out; omega
          obtain ⟨I1, I2⟩ := HI.out _ HB.out
          obtain ⟨b1, f1, rfl, l1, d1⟩ := I1.cells j hlt
          obtain ⟨b2, f2, rfl, l2, dw⟩ := HK0.out.cells j hjk
          have d2 := (HB.out.cell (p := ⟨b2, f2 + j, none⟩) l2).trans dw
          clear dw
          have HRD := hid (rises_drop D at_ j hlt)
          have HPM := hid (putsK_more (List.replicate D 0) at_ k j HLEN.out hlt hjk)
          have HPN := hid (putsK_more (List.replicate D 4294967295) at_ k j HLEN.out hlt hjk)
          have hL : leastK at_ (j + 1) = at_[j] + 1 := by simp only [leastK]; rw [List.getD_eq_getElem?_getD, List.getElem?_eq_getElem hlt]; rfl
          have HL := hid hL; clear hL
          generalize at_[j] = ci at d1 HRD HPM HPN HL
          generalize k[j] = xv at d2 HPM HPN
          generalize leastK at_ j = le at hle1 hle2 HRD HRS HLE ⊢
          by_cases t1 : ci < le
          · have HP : Hid (partOk (D : Int) at_ k = false) := hid (by rw [HR.out, ← HRS.out, HRD.out]; simp; omega)
            have z := zero_cells HZ.out
            have HS := hid (zero_again HB.out HZ.out)
            go_wp2_with fail
            have z2 := HS.out.2
            refine bodyPost_ret (v := .tuple #[.agg #[.slice none 0 0, .slice none 0 0], .int .i64 1]) (by simp [results, Try.results16, go_sem, z2]) rfl ?_
            exact part_no HP.out HS.out.1
          · have e1 : decide (ci < le) = false := by simpa using t1
            by_cases t2 : (D : Int) ≤ ci
            · have HP : Hid (partOk (D : Int) at_ k = false) := hid (by rw [HR.out, ← HRS.out, HRD.out]; simp; omega)
              have z := zero_cells HZ.out
              have HS := hid (zero_again HB.out HZ.out)
              go_wp2_with fail
              have z2 := HS.out.2
              refine bodyPost_ret (v := .tuple #[.agg #[.slice none 0 0, .slice none 0 0], .int .i64 1]) (by simp [results, Try.results16, go_sem, z2]) rfl ?_
              exact part_no HP.out HS.out.1
            · have e2 : decide ((D : Int) ≤ ci) = false := by simpa using t2
              obtain ⟨C, rfl⟩ : ∃ C : Nat, ci = (C : Int) := ⟨ci.toNat, by omega⟩
              have hCD : C < D := by omega
              have y1 := HO1.out.cell C (by rw [putsK, puts_length, List.length_replicate]; exact hCD)
              have y2 := HO2.out.cell C (by rw [putsK, puts_length, List.length_replicate]; exact hCD)
              have z1 := HO1.out.frozen C
              have z2 := HO2.out.frozen C
              generalize (putsK (List.replicate D 0) at_ k j)[C]'_ = u1 at y1
              generalize (putsK (List.replicate D 4294967295) at_ k j)[C]'_ = u2 at y2
              have HN1 : Hid (Own ((wr.drew.setCell ⟨gl, C, none⟩ (.int .u32 (xv : Int))).setCell ⟨gh, C, none⟩ (.int .u32 (xv : Int))) gl (putsK (List.replicate D 0) at_ k (j + 1))) := hid (by
                rw [← HPM.out, Int.toNat_natCast]; exact (HO1.out.drew.set C xv).far (by show gl ≠ gh; exact HNE.out.1) _)
              have HN2 : Hid (Own ((wr.drew.setCell ⟨gl, C, none⟩ (.int .u32 (xv : Int))).setCell ⟨gh, C, none⟩ (.int .u32 (xv : Int))) gh (putsK (List.replicate D 4294967295) at_ k (j + 1))) := hid (by
                rw [← HPN.out, Int.toNat_natCast]; exact (HO2.out.drew.far (p := ⟨gl, C, none⟩) (by show gh ≠ gl; exact HNE.out.1.symm) _).set C xv)
              have HN3 := hid (show ((wr.drew.setCell ⟨gl, C, none⟩ (.int .u32 (xv : Int))).setCell ⟨gh, C, none⟩ (.int .u32 (xv : Int))).heap[g8]? = some (.cells #[.slice (some ⟨gl, 0, none⟩) D D, .slice (some ⟨gh, 0, none⟩) D D] 25 (0, 0)) by
                rw [Below.heap_setCell _ ⟨gh, C, none⟩ _ _ (by show g8 ≠ gh; exact HGG.out.2.symm), Below.heap_setCell _ ⟨gl, C, none⟩ _ _ (by show g8 ≠ gl; exact HGG.out.1.symm)]; exact H8.out)
              have HN4 := hid (show ((wr.drew.setCell ⟨gl, C, none⟩ (.int .u32 (xv : Int))).setCell ⟨gh, C, none⟩ (.int .u32 (xv : Int))).heap[w.heap.size]? = some (.cells #[Value.slice none 0 0, .slice none 0 0] 25 (0, 0)) by
                rw [Below.heap_setCell _ ⟨gh, C, none⟩ _ _ (by show w.heap.size ≠ gh; have := HNE.out.2.2; omega), Below.heap_setCell _ ⟨gl, C, none⟩ _ _ (by show w.heap.size ≠ gl; have := HNE.out.2.1; omega)]; exact HZ.out)
              have HN5 := hid ((HB.out.drew.setCell (p := ⟨gl, C, none⟩) (by show w.heap.size ≤ gl; have := HNE.out.2.1; omega) (.int .u32 (xv : Int))).setCell (p := ⟨gh, C, none⟩) (by show w.heap.size ≤ gh; have := HNE.out.2.2; omega) (.int .u32 (xv : Int)))
              have HN6 : Hid (rises D (leastK at_ (j + 1)) (at_.drop (j + 1)) = rises D 0 at_) := hid (by
                rw [← HRS.out, HRD.out]
                have b1 : decide (le ≤ (C : Int)) = true := by simp; omega
                have b2 : decide ((C : Int) < (D : Int)) = true := by simp; omega
                rw [b1, b2]; rfl)
              have hD6 := HD.out.2
              have y3 : (wr.setCell ⟨gl, C, none⟩ (.int .u32 (xv : Int))).cell? ⟨gh, C, none⟩ = some (.int .u32 (u2 : Int)) := by
                rw [World.cell?_setCell_other _ _ _ _ (fun e => by injection e with e1 _ _; have := HNE.out.1; first | exact this e1 | exact this e1.symm)]; exact y2
              have y4 : (wr.setCell ⟨gl, C, none⟩ (.int .u32 (xv : Int))).cell? ⟨g8, 1, none⟩ = some (.slice (some ⟨gh, 0, none⟩) D D) := by
                rw [World.cell?_setCell_other _ _ _ _ (fun e => by injection e with e1 _ _; have := HGG.out.1; first | exact this e1 | exact this e1.symm)]; exact x1
              have y5 : (wr.setCell ⟨gl, C, none⟩ (.int .u32 (xv : Int))).cell? ⟨b2, f2 + j, none⟩ = some (.int .u32 (xv : Int)) := by
                rw [World.cell?_setCell_other _ _ _ _ (fun e => by injection e with e1 _ _; have := HNE.out.2.1; omega)]; exact d2
              clear HPM HPN HRD t1 t2 l1 l2
              go_wp2_with fail
              go_region
              all_goals
                go_wp2_with fail
                go_roundw
                case rel => exact ⟨j + 1, by omega, by go_num, by rw [HL.out], HN6.out, by rw [HL.out]; omega, HN1.out, HN2.out, HN3.out, HN4.out, HN5.out⟩
                case measure => simp [intOf]; omega
        · obtain rfl : j = at_.length := by omega
          have HP : Hid (partOk (D : Int) at_ k = true) := hid (by rw [HR.out, ← HRS.out, List.drop_length]; rfl)
          have HQ1 : Hid (Own wr gl (puts (List.replicate D 0) at_ k)) := hid (by rw [← putsK_all _ _ _ HLEN.out]; exact HO1.out)
          have HQ2 : Hid (Own wr gh (puts (List.replicate D 4294967295) at_ k)) := hid (by rw [← putsK_all _ _ _ HLEN.out]; exact HO2.out)
          have z := zero_cells HZ.out
          have HS := hid (store_out (lo := []) (hi := []) (A := none) (A' := none) HB.out (Nat.le_refl _) HZ.out (Pt.nil _ _) (Pt.nil _ _) (.slice (some ⟨gl, 0, none⟩) D D) (.slice (some ⟨gh, 0, none⟩) D D) (by simp))
          go_wp2_with fail
          have z2 := HS.out.2.2.2
          refine bodyPost_ret (v := .tuple #[.agg #[.slice (some ⟨gl, 0, none⟩) D D, .slice (some ⟨gh, 0, none⟩) D D], .int .i64 0]) (by simp [results, Try.results16, go_sem, z2]) rfl ?_
          have hn := HNE.out
          exact part_yes HP.out HKF.out ((HQ1.out.far (p := ⟨w.heap.size, 0, none⟩) (by show gl ≠ w.heap.size; omega) _).far (p := ⟨w.heap.size, 1, none⟩) (by show gl ≠ w.heap.size; omega) _)
            ((HQ2.out.far (p := ⟨w.heap.size, 0, none⟩) (by show gh ≠ w.heap.size; omega) _).far (p := ⟨w.heap.size, 1, none⟩) (by show gh ≠ w.heap.size; omega) _) HS.out.2.2.1
    · have e1 : ((at_.length : Int) != (k.length : Int)) = true := by simp; omega
      have HP : Hid (partOk dim at_ k = false) := hid (by simp [partOk, hlen])
      clear hm hd hlen
      go_enter Try.func16, Try.ntmps16
      go_wp2_with (go_at_call 23; refine (HM.out _).mono ?_; rintro e w' ⟨rfl, rfl⟩)
      have z2 := HS.out.2
      refine bodyPost_ret (v := .tuple #[.agg #[.slice none 0 0, .slice none 0 0], .int .i64 1]) (by simp [results, Try.results16, go_sem]) rfl ?_
      exact part_no HP.out (by first | exact HS.out.1 | exact HB0.out)
  · have hm : mayB dim = false := by simp [mayB]; omega
    rw [hm] at HM
    have HP : Hid (partOk dim at_ k = false) := hid (by simp [partOk, hd])
    clear hm hd
    go_enter Try.func16, Try.ntmps16
    go_wp2_with (go_at_call 23; refine (HM.out _).mono ?_; rintro e w' ⟨rfl, rfl⟩)
    have z2 := HS.out.2
    refine bodyPost_ret (v := .tuple #[.agg #[.slice none 0 0, .slice none 0 0], .int .i64 1]) (by simp [results, Try.results16, go_sem]) rfl ?_
    exact part_no HP.out (by first | exact HS.out.1 | exact HB0.out)
end Go.Proofs.Ytolnbamdddiifaa.Ky
