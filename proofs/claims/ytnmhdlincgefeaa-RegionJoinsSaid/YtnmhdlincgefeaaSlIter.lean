/- places of slab: the cells of a range, one behind the other. -/
import Derived.Test.YtnmhdlincgefeaaSlNext
import Derived.Test.YtnmhdlincgefeaaSlSeq
import Derived.Shelf.Abstract
import Derived.Shelf.RegionOpen
import Derived.OwnWalkIn
import Derived.TacticsInMore
import Derived.LoopNIn
import Derived.LoopIn
namespace Go.Proofs.Ytnmhdlincgefeaa.Sl
open Go.RowKit Go.Shelf
open Go.Lib (hid)
attribute [local go_sem] Oper.semAt_some

theorem chain_at {α : Type} (f : α → Option α) (L : List α) (h : chainL f L) (k : Nat) (hk : k < L.length) : f L[k] = L[k + 1]? := by
  induction L generalizing k with
  | nil => exact h.elim
  | cons x t ih => cases t with
    | nil =>
      simp only [List.length_cons, List.length_nil] at hk
      obtain rfl : k = 0 := by omega
      simpa using (show f x = none from h)
    | cons y t => cases k with
      | zero => simpa using h.1
      | succ k =>
        have := ih h.2 k (by simpa using hk)
        simpa using this
theorem range_okC (S lo hi c : List Nat) (hl : okC S lo = true) (hh : okC S hi = true) (hs : ∀ s ∈ S, 0 < s) (hc : c ∈ rangeL lo hi) : okC S c = true := by
  rw [← filter_within S lo hi hl hh hs] at hc
  obtain ⟨n, _, rfl⟩ := List.mem_map.1 (List.mem_filter.1 hc).1
  exact cellL_ok S n hs
theorem okC_le (S c : List Nat) (h : okC S c = true) : ∀ x ∈ c, x ≤ prodL S := by
  induction S generalizing c with
  | nil => cases c with
    | nil => simp
    | cons x y => cases h
  | cons s t ih => cases c with
    | nil => cases h
    | cons x y =>
      have h' := h
      simp only [okC, Bool.and_eq_true, decide_eq_true_eq] at h
      have hp := prodL_pos t fun z hz => okC_pos t y h.2 z hz
      intro z hz
      rcases List.mem_cons.1 hz with rfl | hz
      · show z ≤ s * prodL t
        have := Nat.le_mul_of_pos_right s hp
        omega
      · have := ih y h.2 z hz
        show z ≤ s * prodL t
        have := Nat.le_mul_of_pos_left (prodL t) (show 0 < s by omega)
        omega
/-- what lies below N, the blocks Q apart, is as it was -/
structure Stay (N : Nat) (Q : Nat → Prop) (w w' : World) : Prop where
  size : w.heap.size ≤ w'.heap.size
  block : ∀ k, k < N → ¬ Q k → w'.heap[k]? = w.heap[k]?
theorem Stay.refl (N : Nat) (Q : Nat → Prop) (w : World) : Stay N Q w w := ⟨Nat.le_refl _, fun _ _ _ => rfl⟩
theorem Stay.trans {N : Nat} {Q : Nat → Prop} {a b c : World} (h : Stay N Q a b) (k : Stay N Q b c) : Stay N Q a c := ⟨Nat.le_trans h.size k.size, fun i hi hq => (k.block i hi hq).trans (h.block i hi hq)⟩
theorem Stay.below {N : Nat} {Q : Nat → Prop} {w w' : World} {M : Nat} (h : Below M w w') (hM : N ≤ M) : Stay N Q w w' := ⟨h.size, fun k hk _ => h.block k (Nat.lt_of_lt_of_le hk hM)⟩
theorem Stay.grown {N : Nat} {Q : Nat → Prop} {w w' : World} {G : Nat} (h : w.grownBy w' (some G)) (hN : N ≤ w.heap.size) (hG : N ≤ G) : Stay N Q w w' :=
  ⟨h.size, fun k hk _ => h.block k (Nat.lt_of_lt_of_le hk hN) (fun e => by injection e with e; omega)⟩
theorem Stay.drewN {N : Nat} {Q : Nat → Prop} (w : World) (n : Nat) : Stay N Q w (w.drewN n) := ⟨Nat.le_refl _, fun _ _ _ => rfl⟩
/-- what a round must keep: that, and the iterator's block -/
def Kp (N : Nat) (Q : Nat → Prop) (G : Nat) (w w' : World) : Prop := Stay N Q w w' ∧ (G < w.heap.size → w'.heap[G]? = w.heap[G]?)
theorem Kp.trans {N : Nat} {Q : Nat → Prop} {G : Nat} {a b c : World} (h : Kp N Q G a b) (k : Kp N Q G b c) : Kp N Q G a c :=
  ⟨h.1.trans k.1, fun hG => (k.2 (Nat.lt_of_lt_of_le hG h.1.size)).trans (h.2 hG)⟩
/-- what the iterator reads: its boxes, the slab's sizes, both cells -/
structure ItF (bs bl bh b : Nat) (g p q : Option Addr) (k c1 c2 : Nat) (S lo hi : List Nat) (w : World) : Prop where
  s : w.cell? ⟨bs, 0, none⟩ = some (.pointer (some ⟨b, 0, none⟩))
  l : w.cell? ⟨bl, 0, none⟩ = some (.slice p lo.length c1)
  h : w.cell? ⟨bh, 0, none⟩ = some (.slice q hi.length c2)
  head : w.cell? ⟨b, 0, none⟩ = some (.slice g S.length k)
  sz : CellsAt w g (iv (zs S))
  lo : CellsAt w p (iv (zs lo))
  hi : CellsAt w q (iv (zs hi))
/-- a place, as a number below all -/
def pf (S : List Nat) (h : 0 < prodL S) (c : List Nat) : Fin (prodL S) := ⟨placeL S c % prodL S, Nat.mod_lt _ h⟩
theorem pf_val (S : List Nat) (h : 0 < prodL S) (c : List Nat) (hc : okC S c = true) : (pf S h c).1 = placeL S c := Nat.mod_eq_of_lt (placeL_lt S c hc)
/-- a range's places rise -/
theorem places_rise (S lo hi : List Nat) (hl : okC S lo = true) (hh : okC S hi = true) (hs : ∀ s ∈ S, 0 < s) : ((rangeL lo hi).map (placeL S)).Pairwise (· < ·) := by
  rw [places_eq S lo hi hl hh hs]
  exact List.pairwise_lt_range.filter _
theorem rise_at (S : List Nat) (R : List (List Nat)) (h : (R.map (placeL S)).Pairwise (· < ·)) (k : Nat) (c d : List Nat) (hc : R[k]? = some c) (hd : R[k + 1]? = some d) : placeL S c < placeL S d := by
  obtain ⟨h1, e1⟩ := List.getElem?_eq_some_iff.1 hc
  obtain ⟨h2, e2⟩ := List.getElem?_eq_some_iff.1 hd
  have := List.pairwise_iff_getElem.1 h k (k + 1) (by simpa using h1) (by simpa using h2) (by omega)
  simpa [e1, e2] using this
/-- a row, read off the world -/
def readRow (G n : Nat) (w : World) : List Nat := match w.heap[G]? with
  | some (.cells cs _ _) => (cs.toList.take n).map fun v => (intOf v).toNat
  | _ => []
theorem readRow_row {w : World} {G : Nat} {c : List Nat} (h : Row w G (zs c)) (n : Nat) (hn : c.length = n) : readRow G n w = c := by
  obtain ⟨r, h⟩ := h
  unfold readRow
  rw [h]
  simp only [List.take_append_of_le_length (show n ≤ (iv (zs c)).length by rw [iv_length, zs_len, hn]; exact Nat.le_refl _)]
  rw [List.take_of_length_le (by rw [iv_length, zs_len, hn]; exact Nat.le_refl _)]
  simp [iv, zs, intOf, Function.comp_def]
/-- Clone of a cell -/
theorem clone_zs (l : List Nat) (p : Option Addr) (c : Nat) (w : World) (h : CellsAt w p (iv (zs l))) (hl : l.length ≤ 1000000) (h0 : 0 < l.length) (G : Nat) (hG : w.heap.size + 1 = G) :
    Calls Try.prog 23 #[.slice p l.length c] w fun e w' => ∃ c', e = .returned (.slice (some ⟨G, 0, none⟩) l.length c') ∧ Row w' G (zs l) ∧ Below w.heap.size w w' := by
  subst hG
  have H := clone_ok (zs l) p c w h (by rw [zs_len]; exact hl)
  rw [zs_len] at H
  refine H.mono ?_
  rintro e w' ⟨q, c', rfl, -, -, hb, h1⟩
  obtain ⟨rfl, hr⟩ := h1 (by rw [zs_len]; exact h0)
  exact ⟨c', by rw [zs_len], hr, hb⟩
set_option maxRecDepth 100000 in
set_option maxHeartbeats 2000000 in
theorem places1_in (n : Nat) (hn : 1 ≤ n) (l bs bl bh b : Nat) (g p q : Option Addr) (k c1 c2 : Nat) (S lo hi : List Nat) (hl : okC S lo = true) (hh : okC S hi = true) (hle : withinL lo lo hi = true) (hP : prodL S ≤ 1000000) (hf : S.length ≤ 1000000) (hS0 : 0 < S.length)
    (hp0 : 0 < prodL S) (N : Nat) (Q : Nat → Prop) (w : World) (hN : N ≤ w.heap.size) (hF : ∀ W, Stay N Q w W → ItF bs bl bh b g p q k c1 c2 S lo hi W) (J Jx : List (Fin (prodL S)) → World → Prop) (W : World) (hW : Stay N Q w W)
    (hJ : Minds (W.heap.size + 1) J)
    (hY : ∀ pre x V, J pre V → W.heap.size + 1 < V.heap.size → pre.length < (rangeL lo hi).length → YieldAt Fence.wide (n - 1) Try.prog l #[.int .i64 ((x.1 : Nat) : Int)] V fun e V' =>
      (e = .returned (.bool true) ∧ J (pre ++ [x]) V' ∧ Kp N Q (W.heap.size + 1) V V') ∨ (e = .returned (.bool false) ∧ Jx (pre ++ [x]) V'))
    (h0 : J [] W) :
    CallsIn Fence.wide n Try.prog 54 #[.func (.yield l) #[] #[], .pointer (some ⟨bl, 0, none⟩), .pointer (some ⟨bs, 0, none⟩), .pointer (some ⟨bh, 0, none⟩)] W fun e W' => (∃ v, e = .returned v) ∧
      ((∃ xs, xs = (rangeL lo hi).map (pf S hp0) ∧ J xs W') ∨ (∃ pre, Jx pre W')) := by
  have HLL := hid (okC_length S lo hl)
  have HLH := hid (okC_length S hi hh)
  have f0 := hF W hW
  have y0 := f0.l
  obtain ⟨G, hG⟩ : ∃ G, W.heap.size + 1 = G := ⟨_, rfl⟩
  have HC := hid (clone_zs lo p c1 W f0.lo (by have := HLL.out; omega) (by have := HLL.out; omega) G hG)
  have HSZ := hid hG
  clear hG
  clear f0
  refine callsIn_of_wp Try.func54 rfl trivial ?_ rfl
  simp only [Try.ntmps54, List.size_toArray, List.length_cons, List.length_nil, Nat.reduceAdd, Nat.reduceSub, Array.replicate_succ, Array.replicate_zero, List.push_toArray, List.append_toArray, List.nil_append, List.cons_append]
  gi_wp2_with (first
    | (gi_at_call 23; refine (callsIn_wide.2 HC.out).mono ?_; rintro e W1 ⟨k1, rfl, hr, hb⟩)
    | (refine ⟨trivial, ?_⟩; gi_at_call 23; refine (callsIn_wide.2 HC.out).mono ?_; rintro e W1 ⟨k1, rfl, hr, hb⟩))
  have hG := HSZ.out
  rw [hG] at hJ
  have hR0 := rangeL_ne lo hi hle
  have hR1 := rangeL_head lo hi hle (by have := HLL.out; have := HLH.out; omega)
  have hch := next_range lo hi hle (by have := HLL.out; have := HLH.out; omega)
  have hok : ∀ c ∈ rangeL lo hi, okC S c = true := fun c hc => range_okC S lo hi c hl hh (okC_pos S lo hl) hc
  have hS1 : Stay N Q w W1 := hW.trans (Stay.below hb (Nat.le_trans hN hW.size))
  have hJ1 : J [] W1 := hJ _ _ _ h0 ⟨hb.os, hb.tape, hb.output, hb.size, fun k hk _ => hb.block k hk⟩
  have hpw := places_rise S lo hi hl hh (okC_pos S lo hl)
  have hNG : N ≤ G := by have := hW.size; omega
  have HCH := hid hch; have HOK := hid hok; have HS1 := hid hS1; have HJ1 := hid hJ1; have HR := hid hr; have HF := hid hF; have HJ := hid hJ; have HY := hid hY; have HNG := hid hNG; have HR1 := hid hR1
  have HL0 : Hid (0 < (rangeL lo hi).length) := hid (List.length_pos_iff.2 hR0)
  have HB : Hid (∀ c ∈ rangeL lo hi, c.length = S.length) := hid fun c hc => (okC_length S c (hok c hc)).symm
  have HHI : Hid (∀ x ∈ hi, x ≤ 1000000) := hid fun x hx => Nat.le_trans (okC_le S hi hh x hx) hP
  clear hch hok hS1 hJ1 hr hF hJ hY hNG hR0 hR1 hb y0 hl hh hle hW h0 HC
  obtain ⟨R, hRR⟩ : ∃ R, rangeL lo hi = R := ⟨_, rfl⟩
  rw [hG] at HY
  clear hG
  have HPW := hid hpw
  clear hpw
  rw [hRR] at HCH HOK HR1 HL0 HB HY HPW
  have HRR := hid hRR
  clear hRR
  gi_loopw [8] (fun _ wr => ∃ (k : Nat) (c : List Nat), R[k]? = some c ∧ Row wr G (zs c) ∧ J ((R.take k).map (pf S hp0)) wr ∧ Stay N Q w wr) (fun _ wr => prodL S - placeL S (readRow G S.length wr))
  case atStart =>
    refine ⟨0, lo, by have := HR1.out; rwa [List.head?_eq_getElem?] at this, HR.out, HJ1.out, HS1.out⟩
  case round =>
    obtain ⟨k, c, hkc, hrow, hJk, hst⟩ := hrel
    have hcm : c ∈ R := List.mem_of_getElem? hkc
    have hcl : c.length = lo.length := by rw [HB.out c hcm, HLL.out]
    have hcok := HOK.out c hcm
    have HPL : Hid (Calls Try.prog 55 #[.pointer (some ⟨b, 0, none⟩), .slice (some ⟨G, 0, none⟩) lo.length k1] wr fun e w' => e = .returned (.int .i64 (placeL S c)) ∧ ∃ n, w' = wr.drewN n) := hid (by
      have f := HF.out wr hst
      have := place_sz b g _ S wr f.head f.sz c (some ⟨G, 0, none⟩) k1 hrow.cells hcok hP (by have := HLL.out; omega)
      rwa [hcl] at this)
    have HKC := hid hkc; have HROW := hid hrow; have HJK := hid hJk; have HST := hid hst; have HCL := hid hcl
    have z0 := (HF.out wr hst).s
    clear hkc hrow hJk hst hcl hcm hcok
    gi_wp2_with (first
      | (gi_at_call 55; refine (callsIn_wide.2 HPL.out).mono ?_; rintro e W2 ⟨rfl, n2, rfl⟩)
      | (refine ⟨trivial, ?_⟩; gi_at_call 55; refine (callsIn_wide.2 HPL.out).mono ?_; rintro e W2 ⟨rfl, n2, rfl⟩))
    have hJ2 : J ((R.take k).map (pf S hp0)) (wr.drewN n2) := HJ.out _ _ _ HJK.out ⟨rfl, rfl, rfl, Nat.le_refl _, fun _ _ _ => rfl⟩
    have hklt : k < R.length := (List.getElem?_eq_some_iff.1 HKC.out).1
    have hxs : (R.take k).map (pf S hp0) ++ [pf S hp0 c] = (R.take (k + 1)).map (pf S hp0) := by
      rw [List.take_succ_eq_append_getElem hklt, List.map_append, List.map_singleton, (List.getElem?_eq_some_iff.1 HKC.out).2]
    obtain ⟨fn, tmps, assign, body, hy, hR⟩ := HY.out _ (pf S hp0 c) (wr.drewN n2) hJ2 HROW.out.lt (by rw [List.length_map, List.length_take]; omega)
    rw [pf_val S hp0 c (HOK.out c (List.mem_of_getElem? HKC.out))] at hy
    rw [hxs] at hR
    have HKL := hid hklt
    clear hJ2 hklt hxs z0
    rw [hy]
    gi_wp2
    refine hR.mono ?_
    rintro e W3 (⟨rfl, hJ3, hk3⟩ | ⟨rfl, hJx3⟩)
    · have hst3 : Stay N Q w W3 := (HST.out.trans (Stay.drewN wr n2)).trans hk3.1
      have hrow3 : Row W3 G (zs c) := (HROW.out.drewN n2).keep (hk3.2 (HROW.out.drewN n2).lt)
      have f := HF.out W3 hst3
      have z1 := f.l
      have z2 := f.h
      have hNW : N ≤ W3.heap.size := Nat.le_trans hN hst3.size
      have HNX : Hid (Calls Try.prog 56 #[.slice (some ⟨G, 0, none⟩) lo.length k1, .slice p lo.length c1, .slice q hi.length c2] W3 (Nexted W3 G c lo hi)) := hid (by
        have := next_ok W3 G k1 c lo hi hrow3 p q c1 c2 (fun V hV => (HF.out V (hst3.trans (Stay.grown hV hNW HNG.out))).lo) (fun V hV => (HF.out V (hst3.trans (Stay.grown hV hNW HNG.out))).hi) HCL.out (by rw [HCL.out, ← HLL.out, HLH.out]) HHI.out (by rw [HCL.out, ← HLL.out]; exact hf)
        rwa [HCL.out] at this)
      have HNW := hid hNW
      have HJ3 := hid hJ3; have HST3 := hid hst3
      obtain ⟨hkk, hcv⟩ := List.getElem?_eq_some_iff.1 HKC.out
      have HCA := hid (show nextL c lo hi = R[k + 1]? by have := chain_at _ R HCH.out k hkk; rwa [hcv] at this)
      clear hJ3 hk3 hst3 hrow3 f hNW hcv hkk hy hR
      unfold Nexted at HNX
      cases hnx : nextL c lo hi with
      | some d =>
        rw [hnx] at HNX HCA
        have HD := hid HCA.out.symm
        clear hnx
        gi_wp2_with (first
          | (gi_at_call 56; refine (callsIn_wide.2 HNX.out).mono ?_; rintro e W4 ⟨hg4, rfl, hr4⟩)
          | (refine ⟨trivial, ?_⟩; gi_at_call 56; refine (callsIn_wide.2 HNX.out).mono ?_; rintro e W4 ⟨hg4, rfl, hr4⟩))
        have hdm := HOK.out d (List.mem_of_getElem? HD.out)
        have hdl : d.length = S.length := HB.out d (List.mem_of_getElem? HD.out)
        have hcl : c.length = S.length := HB.out c (List.mem_of_getElem? HKC.out)
        refine ⟨⟨k + 1, d, HD.out, hr4, HJ.out _ _ _ HJ3.out hg4, HST3.out.trans (Stay.grown hg4 HNW.out HNG.out)⟩, ?_⟩
        rw [readRow_row hr4 _ hdl, readRow_row HROW.out _ hcl]
        have h1 := rise_at S R HPW.out k c d HKC.out HD.out
        have h2 := placeL_lt S d hdm
        omega
      | none =>
        rw [hnx] at HNX HCA
        have HD := hid HCA.out.symm
        clear hnx
        gi_wp2_with (first
          | (gi_at_call 56; refine (callsIn_wide.2 HNX.out).mono ?_; rintro e W4 ⟨hg4, rfl⟩)
          | (refine ⟨trivial, ?_⟩; gi_at_call 56; refine (callsIn_wide.2 HNX.out).mono ?_; rintro e W4 ⟨hg4, rfl⟩))
        go_end0
        have hle : R.length ≤ k + 1 := List.getElem?_eq_none_iff.1 HD.out
        exact ⟨⟨_, rfl⟩, .inl ⟨_, by rw [HRR.out, List.take_of_length_le hle], HJ.out _ _ _ HJ3.out hg4⟩⟩
    · gi_wp2
      refine ⟨trivial, ?_⟩
      gi_wp2
      go_end0
      exact ⟨⟨_, rfl⟩, .inr ⟨_, hJx3⟩⟩
/-- places: the receiver and both cells are boxed; the function value captures the boxes -/
theorem places_in (d : Nat) (a x y : Option Addr) (nx cx ny cy : Nat) (w : World) :
    CallsIn Fence.wide d Try.prog 39 #[.pointer a, .slice x nx cx, .slice y ny cy] w fun e w' => e = .returned (.func (.func 54) #[] #[.pointer (some ⟨w.heap.size + 1, 0, none⟩), .pointer (some ⟨w.heap.size, 0, none⟩), .pointer (some ⟨w.heap.size + 1 + 1, 0, none⟩)]) ∧ w' = ((w.alloc (.cells #[.pointer a] 24)).alloc (.cells #[.slice x nx cx] 22)).alloc (.cells #[.slice y ny cy] 22) := by
  refine callsIn_of_wp Try.func39 rfl trivial ?_ rfl
  simp only [Try.ntmps39, List.size_toArray, List.length_cons, List.length_nil, Nat.reduceAdd, Nat.reduceSub, Array.replicate_succ, Array.replicate_zero, List.push_toArray, List.append_toArray, List.nil_append, List.cons_append]
  gi_wp2
  go_ret
  exact ⟨rfl, rfl⟩
end Go.Proofs.Ytnmhdlincgefeaa.Sl
