/- The document's own slab in memory; its Place. -/
import Derived.Test.YtpbidpgpehicmaaSlPlace
namespace Go.Proofs.Ytpbidpgpehicmaa.Sl
open Go.RowKit
open Go.Lib (hid)

/-- the document's slab at b -/
structure Rb (w : World) (b : Nat) (p q : Option Addr) (k m : Nat) (S C : List Int) : Prop where
  head : w.heap[b]? = some (.cells #[.slice p S.length k, .slice q C.length m] 32 (0, 0))
  sz : CellsAt w p (iv S)
  co : CellsAt w q (iv C)
section
variable {w w' : World} {b : Nat} {p q : Option Addr} {k m : Nat} {S C : List Int}
theorem Rb.lt (h : Rb w b p q k m S C) : b < w.heap.size := (Array.getElem?_eq_some_iff.1 h.head).1
theorem Rb.below (h : Rb w b p q k m S C) (hb : Below w.heap.size w w') : Rb w' b p q k m S C :=
  ⟨(hb.block b h.lt).trans h.head, h.sz.below hb, h.co.below hb⟩
theorem Rb.drewN (h : Rb w b p q k m S C) (n : Nat) : Rb (w.drewN n) b p q k m S C := h.below (below_drewN (Below.refl _ _) n)
theorem Rb.cell0 (h : Rb w b p q k m S C) : w.cell? ⟨b, 0, none⟩ = some (.slice p S.length k) := by
  rw [cell_of_row _ _ _ _ _ _ h.head]; rfl
theorem Rb.cell1 (h : Rb w b p q k m S C) : w.cell? ⟨b, 1, none⟩ = some (.slice q C.length m) := by
  rw [cell_of_row _ _ _ _ _ _ h.head]; rfl
end
/-- the first K numbers are numbers of a cell -/
def PreC (S : List Nat) (l : List Int) (K : Nat) : Prop := ∀ j, j < K → ∃ (h1 : j < l.length) (h2 : j < S.length), 0 ≤ l[j] ∧ l[j] < ((S[j] : Nat) : Int)
theorem pre_ok (S : List Nat) (l : List Int) (hl : l.length = S.length) (h : PreC S l l.length) : okC S (l.map Int.toNat) = true := by
  induction S generalizing l with
  | nil => cases l with
    | nil => rfl
    | cons x y => cases hl
  | cons s t ih => cases l with
    | nil => cases hl
    | cons x y =>
      simp only [List.map_cons, okC, Bool.and_eq_true, decide_eq_true_eq]
      obtain ⟨_, _, h0⟩ := h 0 (by simp)
      simp only [List.getElem_cons_zero] at h0
      refine ⟨by omega, ih y (by simpa using hl) fun j hj => ?_⟩
      obtain ⟨h1, h2, h3⟩ := h (j + 1) (by simpa using hj)
      exact ⟨by simpa using h1, by simpa using h2, by simpa using h3⟩
theorem pre_take (S : List Nat) (l : List Int) (K : Nat) (hK : K ≤ l.length) (hl : l.length = S.length) (h : PreC S l K) : okC (S.take K) ((l.map Int.toNat).take K) = true := by
  rw [← List.map_take]
  refine pre_ok _ _ (by simp [hl]) fun j hj => ?_
  rw [List.length_take] at hj
  obtain ⟨h1, h2, h3⟩ := h j (by omega)
  exact ⟨by rw [List.length_take]; omega, by rw [List.length_take]; omega, by simpa using h3⟩
theorem pre_cell (S : List Nat) (l : List Int) (hS : S ≠ []) (hl : l.length = S.length) (h : PreC S l l.length) : cellB (zs S) l = true := by
  unfold cellB
  simp only [Bool.and_eq_true, decide_eq_true_eq, zs_len, List.all_eq_true, List.mem_range]
  refine ⟨⟨hl, by simpa using hS⟩, fun j hj => ?_⟩
  obtain ⟨h1, h2, h3, h4⟩ := h j hj
  unfold hasB
  simp only [Bool.and_eq_true, decide_eq_true_eq, zs_len, Int.toNat_natCast]
  rw [zs_at S j h2, List.getD_eq_getElem?_getD, List.getElem?_eq_getElem h1]
  exact ⟨⟨⟨by omega, by omega⟩, h3⟩, h4⟩
theorem cell_not (S : List Nat) (l : List Int) (j : Nat) (h1 : j < l.length) (h2 : j < S.length) (h : ¬ (0 ≤ l[j] ∧ l[j] < ((S[j] : Nat) : Int))) : cellB (zs S) l = false := by
  rw [Bool.eq_false_iff]
  intro hc
  apply h
  unfold cellB at hc
  simp only [Bool.and_eq_true, List.all_eq_true, List.mem_range] at hc
  have := hc.2 j h1
  unfold hasB at this
  simp only [Bool.and_eq_true, decide_eq_true_eq] at this
  rw [Int.toNat_natCast, zs_at S j h2, List.getD_eq_getElem?_getD, List.getElem?_eq_getElem h1] at this
  exact ⟨this.1.2, this.2⟩
theorem place_more2 (S c : List Nat) (k : Nat) (hk : k < S.length) (hc : k < c.length) : placeL (S.take (k + 1)) (c.take (k + 1)) = placeL (S.take k) (c.take k) * S[k] + c[k] := by
  rw [List.take_succ_eq_append_getElem hk, List.take_succ_eq_append_getElem hc, placeL_append (S.take k) [S[k]] (c.take k) [c[k]] (by rw [List.length_take, List.length_take]; omega) rfl]
  simp [prodL, placeL, placeA]
theorem place_le2 (S c : List Nat) (k : Nat) (h : okC (S.take k) (c.take k) = true) (hs : ∀ s ∈ S, 0 < s) : placeL (S.take k) (c.take k) < prodL S :=
  Nat.lt_of_lt_of_le (placeL_lt _ _ h) (prodL_take S k hs)
theorem PreC.more {S : List Nat} {l : List Int} {K : Nat} (h : PreC S l K) (h1 : K < l.length) (h2 : K < S.length) (h3 : 0 ≤ l[K]) (h4 : l[K] < ((S[K] : Nat) : Int)) : PreC S l (K + 1) := fun j hj => by
  rcases Nat.lt_or_ge j K with e | e
  · exact h j e
  · obtain rfl : j = K := by omega
    exact ⟨h1, h2, h3, h4⟩
set_option maxRecDepth 100000 in
set_option maxHeartbeats 4000000 in
theorem rPlace_ok (b : Nat) (p q : Option Addr) (k m : Nat) (S : List Nat) (C : List Int) (w : World) (h : Rb w b p q k m (zs S) C) (l : List Int) (r : Option Addr) (cc : Nat) (hr : CellsAt w r (iv l)) (hS : S ≠ []) (hs : ∀ s ∈ S, 0 < s) (hP : prodL S ≤ 1000000) (hl : l.length ≤ 1000000) :
    Calls Try.prog 21 #[.pointer (some ⟨b, 0, none⟩), .slice r l.length cc] w fun e w' => e = .returned (.tuple #[.int .i64 (placeAns S l).1, .int .i64 (placeAns S l).2]) ∧ ∃ n, w' = w.drewN n := by
  have HS := hid h.sz
  have HR := hid hr
  have y0 := h.cell0
  rw [zs_len] at y0
  clear h hr
  by_cases h1 : l.length = S.length
  · have e1 : ((l.length : Int) != (S.length : Int)) = false := by simp [h1]
    have HLEN := hid h1
    have HNE := hid hS
    have HPOS := hid hs
    clear h1 hS hs
    go_enter Try.func21, Try.ntmps21
    go_wp2_with fail
    clear e1
    go_loopw [6, 7] (fun o i wr => ∃ K : Nat, K ≤ l.length ∧ i = .int .i64 K ∧ o = .int .i64 (placeL (S.take K) ((l.map Int.toNat).take K) : Nat) ∧ Hid (PreC S l K) ∧ ∃ n, wr = w.drewN n) (fun _ i _ => l.length - (intOf i).toNat)
    case atStart => exact ⟨0, by omega, rfl, rfl, hid (fun j hj => absurd hj (Nat.not_lt_zero j)), 0, rfl⟩
    case round =>
      obtain ⟨K, hk, rfl, rfl, HPRE, n, rfl⟩ := hrel
      by_cases hlt : K < l.length
      · have hls : K < S.length := by have := HLEN.out; omega
        obtain ⟨b1, o1, rfl, lt1, c1⟩ := HS.out K (by rw [iv_length, zs_len]; exact hls)
        obtain ⟨b2, o2, rfl, lt2, c2⟩ := HR.out K (by rw [iv_length]; exact hlt)
        have d1 : w.cell? ⟨b1, o1 + K, none⟩ = some (.int .i64 (S[K] : Nat)) := by have := c1; simp [iv, zs] at this; exact this
        have d2 : w.cell? ⟨b2, o2 + K, none⟩ = some (.int .i64 l[K]) := by have := c2; simp [iv] at this; exact this
        clear c1 c2
        by_cases hz : 0 ≤ l[K]
        · have e2 : decide (l[K] < (0 : Int)) = false := decide_eq_false (by omega)
          by_cases hy : l[K] < ((S[K] : Nat) : Int)
          · have e3 : decide (((S[K] : Nat) : Int) ≤ l[K]) = false := decide_eq_false (by omega)
            have HPRE2 := hid (HPRE.out.more hlt hls hz hy)
            have HM := hid (place_more2 S (l.map Int.toNat) K hls (by simpa using hlt))
            have hb := place_le2 S (l.map Int.toNat) (K + 1) (pre_take S l (K + 1) (by omega) HLEN.out HPRE2.out) HPOS.out
            rw [HM.out] at hb
            rw [List.getElem_map] at hb HM
            obtain ⟨z, hzz⟩ : ∃ z : Nat, l[K] = (z : Int) := ⟨l[K].toNat, by omega⟩
            rw [hzz] at d2 e2 e3 hb HM
            rw [Int.toNat_natCast] at hb HM
            generalize placeL (S.take K) ((l.map Int.toNat).take K) = x at hb HM
            generalize S[K] = s at d1 hb HM e3
            have E1 := hid (show wrap64 (wrap64 ((x : Int) * (s : Int)) + (z : Int)) = ((x * s + z : Nat) : Int) by
              rw [Go.IntWalk.wrap64_in ((x : Int) * (s : Int)) (by rw [← Int.natCast_mul]; omega)]
              rw [← Int.natCast_mul, ← Int.natCast_add]; refine Go.IntWalk.wrap64_in _ ?_
              omega)
            have e4 : decide (s ≤ z) = false := decide_eq_false (by have := of_decide_eq_false e3; omega)
            clear hb hz hy hzz
            go_wp2_with fail
            go_quiet (fail)
            go_wp2_with fail
            go_quiet (fail)
            go_wp2_with fail
            go_roundw
            case rel => exact ⟨K + 1, by omega, by go_num, by rw [HM.out, ← E1.out], HPRE2, _, rfl⟩
            case measure => simp [intOf]; omega
          · have e3 : decide (((S[K] : Nat) : Int) ≤ l[K]) = true := decide_eq_true (by omega)
            have HN := hid (cell_not S l K hlt hls (by omega))
            generalize l[K] = z at d2 e2 e3
            generalize S[K] = s at d1 e3
            clear hz hy
            go_wp2_with fail
            go_quiet (fail)
            go_wp2_with fail
            go_ret2
            unfold placeAns
            rw [HN.out]
            exact ⟨rfl, _, World.drewN_drewN _ _ _⟩
        · have e2 : decide (l[K] < (0 : Int)) = true := decide_eq_true (by omega)
          have HN := hid (cell_not S l K hlt hls (by omega))
          generalize l[K] = z at d2 e2
          clear hz
          go_wp2_with fail
          go_quiet (fail)
          go_wp2_with fail
          go_ret2
          unfold placeAns
          rw [HN.out]
          exact ⟨rfl, _, World.drewN_drewN _ _ _⟩
      · obtain rfl : K = l.length := by omega
        have HC := hid (pre_cell S l HNE.out HLEN.out HPRE.out)
        have HE : Hid (placeL (S.take l.length) ((l.map Int.toNat).take l.length) = placeL S (l.map Int.toNat)) := hid (by
          rw [HLEN.out, List.take_length, ← HLEN.out, show l.length = (l.map Int.toNat).length by simp, List.take_length])
        go_wp2_with fail
        go_ret2
        unfold placeAns
        rw [HC.out, if_pos rfl, ← HE.out]
        exact ⟨rfl, n, rfl⟩
  · have e1 : ((l.length : Int) != (S.length : Int)) = true := by simp; omega
    have HN : Hid (cellB (zs S) l = false) := hid (by unfold cellB; simp [zs_len, h1])
    clear h1
    go_enter Try.func21, Try.ntmps21
    go_wp2_with fail
    go_ret2
    unfold placeAns
    rw [HN.out]
    exact ⟨rfl, 0, rfl⟩
end Go.Proofs.Ytpbidpgpehicmaa.Sl
