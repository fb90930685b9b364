/- Open of the document's answer, of bytes whose sum is right; and as one. -/
import Derived.Test.YtfedkhomplffoaaPgRef3
namespace Go.Proofs.Ytfedkhomplffoaa.Pg
open Go.RowKit
open Go.Lib (hid)
open Go.Proofs.Ytfedkhomplffoaa.Fd (Area Row Upd rowOf be be_length be_at beB num getAt putAt on_below on_upd)
open Go.Proofs.Ytfedkhomplffoaa.Sm (U B32 sumB U_lo U_hi)

theorem refSeal_at {k n : Nat} {b r : List UInt8} {F : Int} (w : World) (hr : sealX k n b = r) (hF : sealE k n b = F) :
    Calls Try.prog 11 #[.agg #[.int .i64 k, .int .i64 n, .string ⟨b.toArray⟩]] w fun e w' => e = .returned (.tuple #[.string ⟨r.toArray⟩, .int .i64 F]) ∧ Below w.heap.size w w' := by
  refine refSeal_zat (k := (k : Int)) (n := (n : Int)) (b := ⟨b.toArray⟩) w ?_ ?_
  · rw [← hr]; unfold sealZ sealX; simp
  · rw [← hF]; unfold errZ sealE; simp
theorem narrow_at {s : ByteArray} {t : List UInt8} {x : Nat} (w : World) (hs : s.data.toList = t) (ht : t.length ≤ 4) (hx : num t = x) :
    Calls Try.prog 34 #[.string s] w fun e w' => e = .returned (.int .i64 (x : Int)) ∧ w = w' := by
  subst hs hx
  exact narrow_any s w (by have : s.data.toList.length = s.size := by simp
                           omega)
theorem extract_get (s : ByteArray) (i j : Nat) : (s.extract i j).data.toList = getAt s.data.toList i (j - i) := by
  rw [ByteArray.data_extract]
  unfold Fd.getAt
  simp only [Array.toList_extract, List.extract_eq_take_drop]
theorem openL_big (l : List UInt8) (hl : l.length = 256) (hb : l ≠ blankL) (hs : lowL (sumN (l.take 252)) = l.drop 252) (hm : 244 < num (getAt l 2 2)) : openL l = (0, 0, [], 6) := by
  unfold openL
  rw [if_neg (by omega), if_neg hb, if_neg (by simpa using hs), if_neg (fun h => by have := h.1.2.2.2.2; omega)]

set_option maxHeartbeats 800000 in
theorem refOpen_big (s : ByteArray) (w : World) (h : s.size = 256) (hb : s.data.toList ≠ blankL) (hs : lowL (sumN (s.data.toList.take 252)) = s.data.toList.drop 252) (m : Nat) (hm : num (getAt s.data.toList 2 2) = m) (hbig : 244 < m) :
    Calls Try.prog 17 #[.string s] w fun e w' => e = .returned (.tuple #[.agg #[.int .i64 0, .int .i64 0, .string ⟨#[]⟩], .int .i64 6]) ∧ Below w.heap.size w w' := by
  have e1 : ((s.size : Int) != 256) = false := by simp; omega
  have e2 := str_not s blankL hb
  have h252 : (252 : Int) ≤ (s.size : Int) := by omega
  have h8 : (8 : Int) ≤ (s.size : Int) := by omega
  have h4 : (4 : Int) ≤ (s.size : Int) := by omega
  have hl : s.data.toList.length = 256 := by simp [h]
  obtain ⟨z, hz⟩ : ∃ z, sumN (s.data.toList.take 252) = z := ⟨_, rfl⟩
  obtain ⟨t, ht⟩ : ∃ t, lowL z = t := ⟨_, rfl⟩
  have hzl : z < 4294967296 := by rw [← hz]; exact sumN_lt _
  have hq : (t == (s.extract 252 s.size).toList) = true := by
    rw [ByteArray.toList_eq, h, extract_tail s h, ← ht, ← hz]; simpa using hs
  have hx2 : (s.extract 2 4).data.toList = getAt s.data.toList 2 2 := extract_get s 2 4
  have hl2 : (getAt s.data.toList 2 2).length ≤ 4 := by rw [Fd.getAt_length _ _ _ (by omega)]; omega
  have HX2 := hid hx2; have HL2 := hid hl2; clear hx2 hl2
  have HZ := hid hz; have HT := hid ht; have HZL := hid hzl; have HM := hid hm
  have H := hid (And.intro h (And.intro hb hs)); clear h hb hs hz ht hzl hm
  go_enter Try.func17, Try.ntmps17
  go_wp2_with (first
    | (go_at_call 15; refine (refBlank_any _).mono ?_; rintro e w1 ⟨rfl, hb⟩; have HR := hid (Res.made hb); clear hb))
  go_region_held3 (fun _ => True) (trivial)
    (first
      | (go_at_call 28; refine (refSum_head _ HZ.out).mono ?_; rintro e w2 ⟨rfl, rfl⟩)
      | (go_at_call 27; refine (low_nat _ HZL.out HT.out).mono ?_; rintro e w2 ⟨rfl, hb⟩; replace HR := hid (HR.out.drew.on hb); clear hb))
  have c := HR.out.cells
  have f := HR.out.free
  go_wp2_with (go_at_call 34; refine (narrow_at _ HX2.out HL2.out HM.out).mono ?_; rintro e w3 ⟨rfl, rfl⟩)
  refine bodyPost_ret (v := .tuple #[.agg #[.int .i64 0, .int .i64 0, .string ⟨#[]⟩], .int .i64 6]) (by simp [results, Try.results17, go_sem, c]) rfl ⟨rfl, ?_⟩
  exact ((HR.out.below.setCell (Nat.le_refl _) _).setCell (Nat.le_refl _) _).setCell (Nat.le_refl _) _

/-- what the document's Open has laid ahead of its last test -/
structure Last2 (w : World) (D : Nat) (k n : Nat) (b : List UInt8) (wr : World) : Prop where
  res : Res w wr
  box : Box wr D k n ⟨b.toArray⟩
theorem Last2.made {w w2 w6 : World} {k n : Nat} {b : List UInt8} (h : Res w w2)
    (hb : Below (w2.alloc (.cells #[.int .i64 k, .int .i64 n, .string ⟨b.toArray⟩] 23)).drew.heap.size (w2.alloc (.cells #[.int .i64 k, .int .i64 n, .string ⟨b.toArray⟩] 23)).drew w6) : Last2 w w2.heap.size k n b w6 :=
  ⟨((h.on ((Below.refl _ _).alloc (Nat.le_refl _) _)).drew).on hb, ((Box.made w2 k n _).drew).below hb⟩
set_option maxRecDepth 100000 in
set_option maxHeartbeats 1600000 in
theorem refOpen_rest (s : ByteArray) (w : World) (h : s.size = 256) (hb : s.data.toList ≠ blankL) (hs : lowL (sumN (s.data.toList.take 252)) = s.data.toList.drop 252)
    (k n m : Nat) (b r : List UInt8) (F : Int) (hk : num (getAt s.data.toList 0 1) = k) (hn : num (getAt s.data.toList 4 4) = n) (hm : num (getAt s.data.toList 2 2) = m) (hsmall : m ≤ 244) (hbd : bodyL s.data.toList m = b) (hr : sealX k n b = r) (hF : sealE k n b = F) :
    Calls Try.prog 17 #[.string s] w fun e w' => e = .returned (if r = s.data.toList then .tuple #[.agg #[.int .i64 k, .int .i64 n, .string ⟨b.toArray⟩], .int .i64 0] else .tuple #[.agg #[.int .i64 0, .int .i64 0, .string ⟨#[]⟩], .int .i64 6]) ∧ Below w.heap.size w w' := by
  have e1 : ((s.size : Int) != 256) = false := by simp; omega
  have e2 := str_not s blankL hb
  have h252 : (252 : Int) ≤ (s.size : Int) := by omega
  have h8 : (8 : Int) ≤ (s.size : Int) := by omega
  have h4 : (4 : Int) ≤ (s.size : Int) := by omega
  have hl : s.data.toList.length = 256 := by simp [h]
  obtain ⟨z, hz⟩ : ∃ z, sumN (s.data.toList.take 252) = z := ⟨_, rfl⟩
  obtain ⟨t, ht⟩ : ∃ t, lowL z = t := ⟨_, rfl⟩
  have hzl : z < 4294967296 := by rw [← hz]; exact sumN_lt _
  have hq : (t == (s.extract 252 s.size).toList) = true := by
    rw [ByteArray.toList_eq, h, extract_tail s h, ← ht, ← hz]; simpa using hs
  have hx2 : (s.extract 2 4).data.toList = getAt s.data.toList 2 2 := extract_get s 2 4
  have hl2 : (getAt s.data.toList 2 2).length ≤ 4 := by rw [Fd.getAt_length _ _ _ (by omega)]; omega
  have HX2 := hid hx2; have HL2 := hid hl2; clear hx2 hl2
  have HZ := hid hz; have HT := hid ht; have HZL := hid hzl; have HM := hid hm
  have hx4 : (s.extract 4 8).data.toList = getAt s.data.toList 4 4 := extract_get s 4 8
  have hl4 : (getAt s.data.toList 4 4).length ≤ 4 := by rw [Fd.getAt_length _ _ _ (by omega)]; omega
  have hs0 : 0 < s.size := by omega
  have hx0 : (s[0]'hs0).toNat = k := by
    rw [← hk]
    have e : getAt s.data.toList 0 1 = [s[0]'hs0] := by
      unfold Fd.getAt
      rw [List.drop_zero, List.take_succ_eq_append_getElem (by omega)]
      rfl
    rw [e]; simp [num]
  have hx8 : s.extract 8 (8 + m) = ⟨b.toArray⟩ := by
    have e : (s.extract 8 (8 + m)).data.toList = b := by
      rw [extract_get, ← hbd]; unfold bodyL; rw [if_pos (by omega)]; congr 1; omega
    rw [← e]
  have hmw : IntKind.i64.wrap (8 + (m : Int)) = 8 + (m : Int) := IntWalk.i64_in _ (by omega)
  have hm8 : (8 + (m : Int)) ≤ (s.size : Int) := by omega
  have hm9 : (0 : Int) ≤ 8 + (m : Int) := by omega
  have hmt : (8 + (m : Int)).toNat = 8 + m := by omega
  have hsl : ∀ w' : World, (Instr.slice 9 (.string s) (some (.int .i64 8)) (some (.int .i64 (8 + (m : Int)))) none).run Try.prog w' = .ok (.string ⟨b.toArray⟩) w' := fun w' => by
    rw [run_slice_string w' 9 s .i64 .i64 8 (8 + (m : Int)) Try.underlying9 (by omega) (by omega) (by omega), hmt]
    show Result.ok (Value.string (s.extract 8 (8 + m))) w' = _
    rw [hx8]
  have hk256 : k < 256 := by rw [← hx0]; exact (s[0]'hs0).toNat_lt
  have hkw : IntKind.i64.wrap (k : Int) = (k : Int) := IntWalk.i64_in _ (by omega)
  have hF01 : F = 1 ∨ F = 0 := by rw [← hF]; unfold sealE; split <;> simp
  have HX4 := hid hx4; have HL4 := hid hl4; have HN := hid hn; have HR2 := hid hr; have HF := hid hF
  have hrF : F = 1 → r ≠ s.data.toList := by
    intro e1 e2
    rw [← hF] at e1; rw [← hr] at e2
    unfold sealE at e1; unfold sealX at e2
    by_cases hp : mayP k n b.length
    · rw [if_pos hp] at e1; cases e1
    · rw [if_neg hp] at e2; rw [← e2] at hl; cases hl
  have H := hid (And.intro h (And.intro hb hs)); clear h hb hs hz ht hzl hm hx4 hl4 hk hn hbd hr hF hl hx8 hmt hk256
  rcases hF01 with rfl | rfl
  · have hne := hrF rfl
    rw [if_neg hne]
    clear hrF hne
    go_enter Try.func17, Try.ntmps17
    go_wp2_with (first
      | (go_at_call 15; refine (refBlank_any _).mono ?_; rintro e w1 ⟨rfl, hb⟩; have HR := hid (Res.made hb); clear hb))
    go_region_held3 (fun _ => True) (trivial)
      (first
        | (go_at_call 28; refine (refSum_head _ HZ.out).mono ?_; rintro e w2 ⟨rfl, rfl⟩)
        | (go_at_call 27; refine (low_nat _ HZL.out HT.out).mono ?_; rintro e w2 ⟨rfl, hb⟩; replace HR := hid (HR.out.drew.on hb); clear hb))
    go_wp2_with (go_at_call 34; refine (narrow_at _ HX2.out HL2.out HM.out).mono ?_; rintro e w3 ⟨rfl, rfl⟩)
    go_region_held3 (fun _ => True) (trivial)
      (first
        | (go_at_call 34; refine (narrow_at _ HX4.out HL4.out HN.out).mono ?_; rintro e w3 ⟨rfl, rfl⟩))
    all_goals
      go_wp2_with (go_at_call 11; refine (refSeal_at _ HR2.out HF.out).mono ?_; rintro e w6 ⟨rfl, hb⟩; have HL := hid (Last2.made HR.out hb); clear hb; have c := HL.out.res.cells; have f := HL.out.res.free; have d0 := HL.out.box.c0; have d1 := HL.out.box.c1; have d2 := HL.out.box.c2)
      refine bodyPost_ret (v := .tuple #[.agg #[.int .i64 0, .int .i64 0, .string ⟨#[]⟩], .int .i64 6]) (by simp [results, Try.results17, go_sem, c]) rfl ⟨rfl, ?_⟩
      exact ((HL.out.res.below.setCell (Nat.le_refl _) _).setCell (Nat.le_refl _) _).setCell (Nat.le_refl _) _
  · clear hrF
    by_cases hrl : r = s.data.toList
    · have e5 : (r == s.toList) = true := by rw [ByteArray.toList_eq]; simpa using hrl
      rw [if_pos hrl]
      have HQ := hid hrl; clear hrl
      go_enter Try.func17, Try.ntmps17
      go_wp2_with (first
        | (go_at_call 15; refine (refBlank_any _).mono ?_; rintro e w1 ⟨rfl, hb⟩; have HR := hid (Res.made hb); clear hb))
      go_region_held3 (fun _ => True) (trivial)
        (first
          | (go_at_call 28; refine (refSum_head _ HZ.out).mono ?_; rintro e w2 ⟨rfl, rfl⟩)
          | (go_at_call 27; refine (low_nat _ HZL.out HT.out).mono ?_; rintro e w2 ⟨rfl, hb⟩; replace HR := hid (HR.out.drew.on hb); clear hb))
      go_wp2_with (go_at_call 34; refine (narrow_at _ HX2.out HL2.out HM.out).mono ?_; rintro e w3 ⟨rfl, rfl⟩)
      go_region_held3 (fun _ => True) (trivial)
        (first
          | (go_at_call 34; refine (narrow_at _ HX4.out HL4.out HN.out).mono ?_; rintro e w3 ⟨rfl, rfl⟩))
      all_goals
        go_wp2_with (go_at_call 11; refine (refSeal_at _ HR2.out HF.out).mono ?_; rintro e w6 ⟨rfl, hb⟩; have HL := hid (Last2.made HR.out hb); clear hb; have c := HL.out.res.cells; have f := HL.out.res.free; have d0 := HL.out.box.c0; have d1 := HL.out.box.c1; have d2 := HL.out.box.c2)
        refine bodyPost_ret (v := .tuple #[.agg #[.int .i64 k, .int .i64 n, .string ⟨b.toArray⟩], .int .i64 0]) (by simp [results, Try.results17, go_sem, c]) rfl ⟨rfl, ?_⟩
        exact ((HL.out.res.below.setCell (Nat.le_refl _) _).setCell (Nat.le_refl _) _).setCell (Nat.le_refl _) _
    · have e5 : (r == s.toList) = false := by rw [ByteArray.toList_eq]; simpa using hrl
      rw [if_neg hrl]
      have HQ := hid hrl; clear hrl
      go_enter Try.func17, Try.ntmps17
      go_wp2_with (first
        | (go_at_call 15; refine (refBlank_any _).mono ?_; rintro e w1 ⟨rfl, hb⟩; have HR := hid (Res.made hb); clear hb))
      go_region_held3 (fun _ => True) (trivial)
        (first
          | (go_at_call 28; refine (refSum_head _ HZ.out).mono ?_; rintro e w2 ⟨rfl, rfl⟩)
          | (go_at_call 27; refine (low_nat _ HZL.out HT.out).mono ?_; rintro e w2 ⟨rfl, hb⟩; replace HR := hid (HR.out.drew.on hb); clear hb))
      go_wp2_with (go_at_call 34; refine (narrow_at _ HX2.out HL2.out HM.out).mono ?_; rintro e w3 ⟨rfl, rfl⟩)
      go_region_held3 (fun _ => True) (trivial)
        (first
          | (go_at_call 34; refine (narrow_at _ HX4.out HL4.out HN.out).mono ?_; rintro e w3 ⟨rfl, rfl⟩))
      all_goals
        go_wp2_with (go_at_call 11; refine (refSeal_at _ HR2.out HF.out).mono ?_; rintro e w6 ⟨rfl, hb⟩; have HL := hid (Last2.made HR.out hb); clear hb; have c := HL.out.res.cells; have f := HL.out.res.free; have d0 := HL.out.box.c0; have d1 := HL.out.box.c1; have d2 := HL.out.box.c2)
        refine bodyPost_ret (v := .tuple #[.agg #[.int .i64 0, .int .i64 0, .string ⟨#[]⟩], .int .i64 6]) (by simp [results, Try.results17, go_sem, c]) rfl ⟨rfl, ?_⟩
        exact ((HL.out.res.below.setCell (Nat.le_refl _) _).setCell (Nat.le_refl _) _).setCell (Nat.le_refl _) _

/-- the document's Open's answer -/
theorem refOpen_at {k n e : Nat} {b : List UInt8} (s : ByteArray) (w : World) (h : openL s.data.toList = (k, n, b, e)) :
    Calls Try.prog 17 #[.string s] w fun r w' => r = .returned (.tuple #[.agg #[.int .i64 (k : Int), .int .i64 (n : Int), .string ⟨b.toArray⟩], .int .i64 (e : Int)]) ∧ Below w.heap.size w w' := by
  have hsl : s.data.toList.length = s.size := by simp
  by_cases h1 : s.size = 256
  · by_cases h2 : s.data.toList = blankL
    · have : openL s.data.toList = (0, 0, [], 0) := by unfold openL; rw [if_neg (by omega), if_pos h2]
      rw [this] at h; simp only [Prod.mk.injEq] at h; obtain ⟨rfl, rfl, rfl, rfl⟩ := h
      exact refOpen_blank s w h1 h2
    · by_cases h3 : lowL (sumN (s.data.toList.take 252)) = s.data.toList.drop 252
      · by_cases h5 : 244 < num (getAt s.data.toList 2 2)
        · rw [openL_big _ (by omega) h2 h3 h5] at h
          simp only [Prod.mk.injEq] at h; obtain ⟨rfl, rfl, rfl, rfl⟩ := h
          exact refOpen_big s w h1 h2 h3 _ rfl h5
        · have hr := refOpen_rest s w h1 h2 h3 _ _ _ _ _ _ rfl rfl rfl (by omega) rfl rfl rfl
          rw [openL_form _ (by omega) h2 h3] at h
          by_cases h4 : sealX (num (getAt s.data.toList 0 1)) (num (getAt s.data.toList 4 4)) (bodyL s.data.toList (num (getAt s.data.toList 2 2))) = s.data.toList
          · rw [if_pos h4] at h hr; simp only [Prod.mk.injEq] at h; obtain ⟨rfl, rfl, rfl, rfl⟩ := h
            exact hr
          · rw [if_neg h4] at h hr; simp only [Prod.mk.injEq] at h; obtain ⟨rfl, rfl, rfl, rfl⟩ := h
            exact hr
      · have : openL s.data.toList = (0, 0, [], 7) := by unfold openL; rw [if_neg (by omega), if_neg h2, if_pos h3]
        rw [this] at h; simp only [Prod.mk.injEq] at h; obtain ⟨rfl, rfl, rfl, rfl⟩ := h
        exact refOpen_sum s w h1 h2 h3
  · have : openL s.data.toList = (0, 0, [], 9) := by unfold openL; rw [if_pos (by omega)]
    rw [this] at h; simp only [Prod.mk.injEq] at h; obtain ⟨rfl, rfl, rfl, rfl⟩ := h
    exact refOpen_cut s w h1
end Go.Proofs.Ytfedkhomplffoaa.Pg
