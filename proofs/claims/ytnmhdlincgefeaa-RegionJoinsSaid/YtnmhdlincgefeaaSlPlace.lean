/- place and Place of slab: how many cells are ahead of one. -/
import Derived.Test.YtnmhdlincgefeaaSlMath
import Derived.Test.YtnmhdlincgefeaaSlRange
namespace Go.Proofs.Ytnmhdlincgefeaa.Sl
open Go.RowKit
open Go.Lib (hid)

/-- numbers that are none below 0 -/
def zs (l : List Nat) : List Int := l.map fun (n : Nat) => (n : Int)
theorem zs_len (l : List Nat) : (zs l).length = l.length := by simp [zs]
theorem zs_at (l : List Nat) (k : Nat) (h : k < l.length) : (zs l).getD k 0 = (l[k] : Int) := by
  rw [List.getD_eq_getElem?_getD]; simp [zs, h]
theorem okC_pos (S c : List Nat) (h : okC S c = true) : ∀ s ∈ S, 0 < s := by
  induction S generalizing c with
  | nil => intro s hs; cases hs
  | cons s t ih => cases c with
    | nil => cases h
    | cons x y =>
      simp only [okC, Bool.and_eq_true, decide_eq_true_eq] at h
      intro z hz
      rcases List.mem_cons.1 hz with rfl | hz
      · omega
      · exact ih y h.2 z hz
theorem okC_take (S c : List Nat) (k : Nat) (h : okC S c = true) : okC (S.take k) (c.take k) = true := by
  induction S generalizing c k with
  | nil => cases c with
    | nil => simp [okC]
    | cons x y => cases h
  | cons s t ih => cases c with
    | nil => cases h
    | cons x y => cases k with
      | zero => rfl
      | succ k =>
        simp only [okC, Bool.and_eq_true, decide_eq_true_eq, List.take_succ_cons] at h ⊢
        exact ⟨h.1, ih y k h.2⟩
theorem place_more (S c : List Nat) (k : Nat) (h : okC S c = true) (hk : k < S.length) (hc : k < c.length) : placeL (S.take (k + 1)) (c.take (k + 1)) = placeL (S.take k) (c.take k) * S[k] + c[k] := by
  rw [List.take_succ_eq_append_getElem hk, List.take_succ_eq_append_getElem hc, placeL_append (S.take k) [S[k]] (c.take k) [c[k]] (okC_length _ _ (okC_take S c k h)) rfl]
  simp [prodL, placeL, placeA]
theorem prodL_take (S : List Nat) (k : Nat) (h : ∀ s ∈ S, 0 < s) : prodL (S.take k) ≤ prodL S := by
  have e : prodL S = prodL (S.take k) * prodL (S.drop k) := by rw [← prodL_append, List.take_append_drop]
  have := prodL_pos (S.drop k) fun s hs => h s (List.mem_of_mem_drop hs)
  rw [e]
  exact Nat.le_mul_of_pos_right _ this
theorem place_le (S c : List Nat) (k : Nat) (h : okC S c = true) : placeL (S.take k) (c.take k) < prodL S :=
  Nat.lt_of_lt_of_le (placeL_lt _ _ (okC_take S c k h)) (prodL_take S k (okC_pos S c h))
set_option maxRecDepth 100000 in
set_option maxHeartbeats 2000000 in
theorem place_sz (b : Nat) (p : Option Addr) (k : Nat) (S : List Nat) (w : World) (y0 : w.cell? ⟨b, 0, none⟩ = some (.slice p S.length k)) (hS : CellsAt w p (iv (zs S))) (c : List Nat) (r : Option Addr) (cc : Nat) (hr : CellsAt w r (iv (zs c))) (hok : okC S c = true) (hP : prodL S ≤ 1000000) (hl : c.length ≤ 1000000) :
    Calls Try.prog 55 #[.pointer (some ⟨b, 0, none⟩), .slice r c.length cc] w fun e w' => e = .returned (.int .i64 (placeL S c)) ∧ ∃ n, w' = w.drewN n := by
  have HS := hid hS
  have HR := hid hr
  have HLEN := hid (okC_length S c hok)
  have HOK := hid hok
  clear hS hr hok
  go_enter Try.func55, Try.ntmps55
  go_wp2_with fail
  go_loopw [5, 10] (fun o i wr => ∃ K : Nat, K ≤ c.length ∧ i = .int .i64 K ∧ o = .int .i64 (placeL (S.take K) (c.take K) : Nat) ∧ ∃ n, wr = w.drewN n) (fun _ i _ => c.length - (intOf i).toNat)
  case atStart => exact ⟨0, by omega, rfl, rfl, 0, rfl⟩
  case round =>
    obtain ⟨K, hk, rfl, rfl, n, rfl⟩ := hrel
    by_cases hlt : K < c.length
    · have hls : K < S.length := by have := HLEN.out; omega
      obtain ⟨b1, o1, rfl, lt1, c1⟩ := HS.out K (by rw [iv_length, zs_len]; exact hls)
      obtain ⟨b2, o2, rfl, lt2, c2⟩ := HR.out K (by rw [iv_length, zs_len]; exact hlt)
      have d1 : w.cell? ⟨b1, o1 + K, none⟩ = some (.int .i64 (S[K] : Nat)) := by have := c1; simp [iv, zs] at this; exact this
      have d2 : w.cell? ⟨b2, o2 + K, none⟩ = some (.int .i64 (c[K] : Nat)) := by have := c2; simp [iv, zs] at this; exact this
      clear c1 c2
      have HM := hid (place_more S c K HOK.out hls hlt)
      have hb := place_le S c (K + 1) HOK.out
      rw [HM.out] at hb
      generalize hx : placeL (S.take K) (c.take K) = x at hb HM
      generalize S[K] = s at d1 hb HM
      generalize c[K] = z at d2 hb HM
      have e1 := hid (show wrap64 (wrap64 ((x : Int) * (s : Int)) + (z : Int)) = ((x * s + z : Nat) : Int) by
        rw [Go.IntWalk.wrap64_in ((x : Int) * (s : Int)) (by rw [← Int.natCast_mul]; omega)]
        rw [← Int.natCast_mul, ← Int.natCast_add]; refine Go.IntWalk.wrap64_in _ ?_
        omega)
      clear hx hb
      go_wp2_with fail
      go_roundw
      case rel => exact ⟨K + 1, by omega, by go_num, by rw [HM.out, ← e1.out], _, rfl⟩
      case measure => simp [intOf]; omega
    · obtain rfl : K = c.length := by omega
      have HE : Hid (placeL (S.take c.length) (c.take c.length) = placeL S c) := hid (by
        rw [List.take_length, ← HLEN.out, List.take_length])
      go_wp2_with fail
      go_ret
      exact ⟨by rw [← HE.out]; rfl, n, rfl⟩
theorem place_ok (b : Nat) (p q : Option Addr) (k m : Nat) (S : List Nat) (C : List Int) (w : World) (h : Sb w b p q k m (zs S) C) (c : List Nat) (r : Option Addr) (cc : Nat) (hr : CellsAt w r (iv (zs c))) (hok : okC S c = true) (hP : prodL S ≤ 1000000) (hl : c.length ≤ 1000000) :
    Calls Try.prog 55 #[.pointer (some ⟨b, 0, none⟩), .slice r c.length cc] w fun e w' => e = .returned (.int .i64 (placeL S c)) ∧ ∃ n, w' = w.drewN n :=
  place_sz b p k S w (by have := h.cell0; rwa [zs_len] at this) h.sz c r cc hr hok hP hl
theorem cellB_nat (S : List Nat) (l : List Int) (h : cellB (zs S) l = true) : ∃ c : List Nat, l = zs c ∧ okC S c = true := by
  have hl := cellB_len h
  rw [zs_len] at hl
  unfold cellB at h
  simp only [Bool.and_eq_true, List.all_eq_true, List.mem_range] at h
  have hj := h.2
  clear h
  have H : ∀ (j : Nat) (hj1 : j < l.length), 0 ≤ l[j] ∧ l[j] < ((S[j]'(by omega) : Nat) : Int) := by
    intro j hj1
    have := hj j hj1
    unfold hasB at this
    simp only [Bool.and_eq_true, decide_eq_true_eq] at this
    rw [Int.toNat_natCast, zs_at S j (by omega), List.getD_eq_getElem?_getD, List.getElem?_eq_getElem hj1] at this
    exact ⟨this.1.2, this.2⟩
  clear hj
  refine ⟨l.map Int.toNat, ?_, ?_⟩
  · apply List.ext_getElem
    · simp [zs]
    · intro j h1 h2
      simp only [zs, List.getElem_map]
      have := (H j h1).1
      omega
  · induction S generalizing l with
    | nil => cases l with
      | nil => rfl
      | cons x y => cases hl
    | cons s t ih => cases l with
      | nil => cases hl
      | cons x y =>
        simp only [List.map_cons, okC, Bool.and_eq_true, decide_eq_true_eq]
        have h0 := H 0 (by simp)
        simp only [List.getElem_cons_zero] at h0
        refine ⟨by omega, ih y (by simpa using hl) fun j hj => ?_⟩
        have := H (j + 1) (by simpa using hj)
        simpa using this
/-- what Place answers -/
def placeAns (S : List Nat) (l : List Int) : Nat × Int := if cellB (zs S) l = true then (placeL S (l.map Int.toNat), 0) else (0, 1)
theorem placeAns_lt (S : List Nat) (l : List Int) (h : cellB (zs S) l = true) : placeL S (l.map Int.toNat) < prodL S := by
  obtain ⟨c, rfl, hok⟩ := cellB_nat S l h
  rw [show (zs c).map Int.toNat = c by simp [zs, Function.comp_def]]
  exact placeL_lt S c hok
/-- what Get answers -/
def getAns (S : List Nat) (C : List Int) (l : List Int) : Int × Int := if cellB (zs S) l = true then (C.getD (placeL S (l.map Int.toNat)) 0, 0) else (0, 1)
end Go.Proofs.Ytnmhdlincgefeaa.Sl
