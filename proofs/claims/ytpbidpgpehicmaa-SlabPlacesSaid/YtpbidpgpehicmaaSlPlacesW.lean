/- SlabPlaces walked. -/
import Derived.Test.YtpbidpgpehicmaaSlLive2
import Derived.Test.YtpbidpgpehicmaaSlGro
import Derived.Test.YtpbidpgpehicmaaSlCell
namespace Go.Proofs.Ytpbidpgpehicmaa.Sl
open Go.RowKit Go.Shelf
open Go.Lib (hid)

theorem okC_at (S c : List Nat) (h : okC S c = true) (j : Nat) (h1 : j < c.length) (h2 : j < S.length) : c[j] < S[j] := by
  induction S generalizing c j with
  | nil => simp at h2
  | cons s t ih => cases c with
    | nil => simp at h1
    | cons x y =>
      simp only [okC, Bool.and_eq_true, decide_eq_true_eq] at h
      cases j with
      | zero => exact h.1
      | succ j => exact ih y h.2 j (by simpa using h1) (by simpa using h2)
theorem cell_yes (S c : List Nat) (hS : S ≠ []) (h : okC S c = true) : cellB (zs S) (zs c) = true := by
  have hl := okC_length S c h
  refine pre_cell S (zs c) hS (by rw [zs_len]; exact hl.symm) fun j hj => ?_
  rw [zs_len] at hj
  refine ⟨by rw [zs_len]; exact hj, by omega, ?_⟩
  have := okC_at S c h j hj (by omega)
  simp only [zs, List.getElem_map]
  omega
theorem zs_back (c : List Nat) : (zs c).map Int.toNat = c := by
  unfold zs; rw [List.map_map]
  conv => rhs; rw [← List.map_id c]
  apply List.map_congr_left
  intro a _; simp
theorem place_cell (S : List Nat) (C : List Int) (F : Fits S C) (n : Nat) (hn : n < C.length) : placeAns S (zs (cellL S n)) = (n, 0) := by
  unfold placeAns
  rw [if_pos (cell_yes S _ F.some (cellL_ok S n F.pos)), zs_back, placeL_cell, Nat.mod_eq_of_lt (by rw [← F.len]; exact hn)]
theorem get_cell (S : List Nat) (C : List Int) (F : Fits S C) (n : Nat) (hn : n < C.length) : getAns S C (zs (cellL S n)) = (C[n], 0) := by
  unfold getAns
  rw [if_pos (cell_yes S _ F.some (cellL_ok S n F.pos)), zs_back, placeL_cell, Nat.mod_eq_of_lt (by rw [← F.len]; exact hn), List.getD_eq_getElem?_getD, List.getElem?_eq_getElem hn, Option.getD_some]
section
variable {K : Nat → Prop} {V : World} {b : Nat} {S : List Nat} {C : List Int}
theorem lv_place_n (h : Lv K V b S C) (n : Nat) (hn : n < C.length) (g : Nat) (hg : Row V g (zs (cellL S n))) :
    Calls Try.prog 20 #[.pointer (some ⟨b, 0, none⟩), .slice (some ⟨g, 0, none⟩) S.length S.length] V fun e V' => e = .returned (.tuple #[.int .i64 n, .int .i64 0]) ∧ ∃ n, V' = V.drewN n := by
  have hl : (zs (cellL S n)).length = S.length := by rw [zs_len, cellL_length]
  have := lv_place h (zs (cellL S n)) (some ⟨g, 0, none⟩) S.length hg.cells (by rw [hl]; have := h.fit.few; omega)
  rw [place_cell S C h.fit n hn, hl] at this
  exact this
theorem lv_get_n (h : Lv K V b S C) (n : Nat) (hn : n < C.length) (g : Nat) (hg : Row V g (zs (cellL S n))) :
    Calls Try.prog 18 #[.pointer (some ⟨b, 0, none⟩), .slice (some ⟨g, 0, none⟩) S.length S.length] V fun e V' => e = .returned (.tuple #[.int .i64 C[n], .int .i64 0]) ∧ ∃ n, V' = V.drewN n := by
  have hl : (zs (cellL S n)).length = S.length := by rw [zs_len, cellL_length]
  have := lv_get h (zs (cellL S n)) (some ⟨g, 0, none⟩) S.length hg.cells (by rw [hl]; have := h.fit.few; omega)
  rw [get_cell S C h.fit n hn, hl] at this
  exact this
end
theorem prodAns_fits {S : List Nat} {C : List Int} (F : Fits S C) : prodAns (zs S) = some C.length := by
  unfold prodAns
  have h0 : 0 < S.length := List.length_pos_iff.2 F.some
  have h6 := F.few
  rw [if_pos (by rw [zs_len]; omega), prodN_zs 1 S F.pos (by rw [Nat.one_mul]; exact F.most), Nat.one_mul, F.len]
theorem ints_same (l : List Int) (p q : Option Addr) (c c' : Nat) (w : World) (hp : CellsAt w p (iv l)) (hq : CellsAt w q (iv l)) (hl : l.length ≤ 1000000) :
    Calls Try.prog 24 #[.slice p l.length c, .slice q l.length c'] w fun e w' => e = .returned (.bool true) ∧ Below w.heap.size w w' := by
  have h := ints_ok l l p q c c' w hp hq hl
  rw [decide_eq_true (rfl : l = l)] at h
  exact h.mono fun e w' ⟨h1, n, h2⟩ => ⟨h1, by rw [h2]; exact below_drewN (Below.refl _ _) n⟩
end Go.Proofs.Ytpbidpgpehicmaa.Sl
namespace Go.Proofs.Ytpbidpgpehicmaa
open Go.RowKit Go.Shelf
open Go.Lib (hid)
open Go.ChangeShapes Go.WideShapes Go.Joins
open Go.Proofs.Ytpbidpgpehicmaa.Sl
set_option maxRecDepth 100000 in
theorem SlabPlaces_open1 {H : Type} {enc : TypeId × Value → H} {W : World} {base : Nat} {v : Value} {d : DataW H} {p : List MemPlace} (hv : Value.okWide Try.prog W .any base 22 v) (h : DataW.Trod enc Try.prog W 0 (fun _ => true) true 22 v d p) : ∃ a len cap, v = .slice a len cap ∧ IsOps W a len := open_Ops hv h
set_option maxRecDepth 100000 in
set_option maxHeartbeats 8000000 in
theorem SlabPlaces_walk (D : Int) (v : Value) (w : World) (_ : (Lit.int .i64 D).wf = true) (h1 : ∃ a len cap, v = .slice a len cap ∧ IsOps w a len) :
    Calls Try.prog 8 #[.int .i64 D, v] w fun e w' => e = .returned (.bool true) ∧ Below w.heap.size w w' := by
  obtain ⟨a, n, cap, rfl, hs⟩ := h1
  by_cases hd : 1 ≤ D ∧ D ≤ 6
  · have HG := hid (grown_yes D a n cap w hd hs)
    have HD := hid hd
    have e0 : decide (D < 1) = false := decide_eq_false (by omega)
    clear hs hd
    go_enter Try.func8, Try.ntmps8
    go_wp2_with fail
    refine HG.out.mono ?_
    rintro e w1 ⟨b, rfl, S, C, hl, hsd, hb⟩
    obtain rfl : D = (S.length : Int) := by have := HD.out; omega
    have HX := hid hl; have HB := hid hb; have HF := hid hl.fit
    clear hl hb HG hsd
    go_wp2_with fail
    refine (lv_sizes HX.out).mono ?_
    rintro e w2 ⟨p1, c1, rfl, hc, hb⟩
    replace HX := hid (HX.out.next hb); replace HB := hid (HB.out.trans (hb.mono HB.out.size)); have HS := hid hc
    clear hc hb
    go_wp2_with fail
    refine (lv_cells HX.out).mono ?_
    rintro e w3 ⟨p2, c2, rfl, hc, hb, _⟩
    replace HX := hid (HX.out.next hb); replace HB := hid (HB.out.trans (hb.mono HB.out.size)); replace HS := hid (HS.out.below hb); have HC := hid hc
    clear hc hb
    have e1 : ((S.length : Int) != (S.length : Int)) = false := by simp
    go_wp2_with fail
    clear e1 e0
    go_loop [8] (fun i => ∃ k : Nat, k ≤ S.length ∧ i = .int .i64 k) (fun i => S.length - (intOf i).toNat)
    case atStart => exact ⟨0, by omega, rfl⟩
    case round =>
      obtain ⟨k, hk, rfl⟩ := hrel
      by_cases hlt : k < S.length
      · obtain ⟨b1, o1, rfl, lt1, h1⟩ := HS.out k (by rw [iv_length, zs_len]; exact hlt)
        have d1 : w3.cell? ⟨b1, o1 + k, none⟩ = some (.int .i64 (S[k] : Int)) := by have := h1; simp [iv, zs] at this; exact this
        have hp := HF.out.pos S[k] (List.getElem_mem hlt)
        have e1 : decide ((S[k] : Int) < 1) = false := decide_eq_false (by omega)
        have h6 := HF.out.few
        generalize S[k] = s at d1 e1
        clear h1 hp
        go_wp2_with fail
        go_round
        case rel => exact ⟨k + 1, by omega, by go_num⟩
        case measure => simp [intOf]; omega
      · obtain rfl : k = S.length := by omega
        go_wp2_with fail
        go_loopw [9] (fun i wr => ∃ k : Nat, k ≤ C.length ∧ i = .int .i64 k ∧ Below w3.heap.size w3 wr) (fun i _ => C.length - (intOf i).toNat)
        case atStart => exact ⟨0, by omega, rfl, Below.refl _ _⟩
        case round =>
          obtain ⟨k, hk, rfl, hbr⟩ := hrel
          have HBR := hid hbr; clear hbr
          have hCm := HF.out.most
          have hCl := HF.out.len
          by_cases hlt : k < C.length
          · have HLT := hid hlt
            have HW := hid (show wrap64 ((k : Int) + 1) = ((k + 1 : Nat) : Int) from Go.IntWalk.wrap64_in _ (by omega))
            have HCell := hid (rcell_ok S k p1 c1 wr (HS.out.below HBR.out) HF.out.pos (by have := HF.out.few; omega) (by omega))
            clear hCm hCl hk hlt
            go_wp2_with fail
            refine HCell.out.mono ?_
            rintro e w4 ⟨rfl, hr, hb⟩
            have HR := hid hr
            have HB4 := hid (HBR.out.trans (hb.mono HBR.out.size))
            clear hr hb HCell
            go_wp2_with fail
            refine (lv_place_n (HX.out.next HB4.out) k HLT.out _ HR.out).mono ?_
            rintro e w5 ⟨rfl, n5, rfl⟩
            go_wp2_with fail
            refine (lv_get_n ((HX.out.next HB4.out).drewN n5) k HLT.out _ (HR.out.below (below_drewN (Below.refl _ _) n5))).mono ?_
            rintro e w6 ⟨rfl, n6, rfl⟩
            have HB6 := hid (below_drewN (below_drewN HB4.out n5) n6)
            obtain ⟨b2, o2, rfl, lt2, h2⟩ := HC.out.below HB6.out k (by rw [iv_length]; exact HLT.out)
            have d2 : ((w4.drewN n5).drewN n6).cell? ⟨b2, o2 + k, none⟩ = some (.int .i64 C[k]) := by have := h2; simp [iv] at this; exact this
            clear h2 HB4 HR
            generalize (w4.drewN n5).drewN n6 = w7 at *
            have e5 : ((k : Int) != (k : Int)) = false := by simp
            have e6 : (C[k] != C[k]) = false := by simp
            generalize C[k] = x at d2 e6
            go_wp2_with fail
            go_roundw
            case rel => exact ⟨k + 1, HLT.out, by rw [HW.out], HB6.out⟩
            case measure => have := HLT.out; rw [HW.out]; simp [intOf]; omega
          · obtain rfl : k = C.length := by omega
            have HOF := hid (of_ok (zs S) C p1 p2 c1 c2 wr (HS.out.below HBR.out) (HC.out.below HBR.out) (by rw [zs_len]; have := HF.out.few; omega) (by omega) (prodAns_fits HF.out))
            rw [zs_len] at HOF
            have HL := hid (show C.length ≤ 1000000 by omega)
            clear hCm hCl
            go_wp2_with fail
            refine HOF.out.mono ?_
            rintro e w4 ⟨b3, g3, h3, rfl, hs, _, hb⟩
            have HS3 := hid hs
            have HB4 := hid (HBR.out.trans (hb.mono HBR.out.size))
            clear hs hb HOF
            go_wp2_with fail
            refine (cells_ok HS3.out HL.out).mono ?_
            rintro e w5 ⟨p5, c5, rfl, _, hc, hb, _⟩
            have HC5 := hid hc
            have HB5 := hid (HB4.out.trans (hb.mono HB4.out.size))
            clear hc hb HS3 HB4
            go_wp2_with fail
            refine (ints_same C p5 p2 c5 c2 w5 HC5.out (HC.out.below HB5.out) HL.out).mono ?_
            rintro e w6 ⟨rfl, hb⟩
            have HB6 := hid (HB5.out.trans (hb.mono HB5.out.size))
            clear hb HC5 HB5
            go_wp2_with fail
            refine (live_any _).mono ?_
            rintro e w7 ⟨rfl, hb⟩
            have HB7 := hid (HB6.out.trans (hb.mono HB6.out.size))
            clear hb HB6
            go_wp2_with fail
            go_ret
            exact ⟨rfl, HB.out.trans (HB7.out.mono HB.out.size)⟩
  · have HG := hid (grown_no D a n cap w hd hs)
    by_cases h1 : D < 1
    · have e1 : decide (D < 1) = true := decide_eq_true h1
      clear hs hd h1
      go_enter Try.func8, Try.ntmps8
      go_wp2_with fail
      refine HG.out.mono ?_
      rintro e w1 ⟨rfl, hb⟩
      have HB := hid hb; clear hb
      go_wp2_with fail
      refine (live_any _).mono ?_
      rintro e w9 ⟨rfl, hb⟩
      replace HB := hid (HB.out.trans (hb.mono HB.out.size))
      clear hb
      go_wp2_with fail
      go_ret
      exact ⟨rfl, HB.out⟩
    · have e1 : decide (D < 1) = false := decide_eq_false h1
      have e2 : decide (6 < D) = true := decide_eq_true (by omega)
      clear hs hd h1
      go_enter Try.func8, Try.ntmps8
      go_wp2_with fail
      refine HG.out.mono ?_
      rintro e w1 ⟨rfl, hb⟩
      have HB := hid hb; clear hb
      go_wp2_with fail
      refine (live_any _).mono ?_
      rintro e w9 ⟨rfl, hb⟩
      replace HB := hid (HB.out.trans (hb.mono HB.out.size))
      clear hb
      go_wp2_with fail
      go_ret
      exact ⟨rfl, HB.out⟩
end Go.Proofs.Ytpbidpgpehicmaa
