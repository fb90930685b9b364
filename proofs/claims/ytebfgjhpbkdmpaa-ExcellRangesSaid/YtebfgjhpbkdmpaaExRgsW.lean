/- ExcellRanges walked: the addresses of the cells that any box meets. -/
import Derived.Test.YtebfgjhpbkdmpaaExRRng
import Derived.Test.YtebfgjhpbkdmpaaExBxsW
namespace Go.Proofs.Ytebfgjhpbkdmpaa
open Go.RowKit
open Go.Lib (hid)
open Go.ChangeShapes Go.WideShapes Go.Joins Go.Deep
open Go.Proofs.Ytebfgjhpbkdmpaa.Ky
open Go.Proofs.Ytebfgjhpbkdmpaa.Bk
open Go.Proofs.Ytebfgjhpbkdmpaa.Ex
set_option maxRecDepth 100000 in
theorem ExcellRanges_open0 {H : Type} {enc : TypeId × Value → H} {W : World} {base : Nat} {v : Value} {d : DataW H} {p : List MemPlace} (hv : Value.okWide Try.prog W .any base 28 v) (h : DataW.Trod enc Try.prog W 0 (fun _ => true) true 28 v d p) : BoxV W v := open_boxv hv h
def rgL (bl bh : List Nat) (dim d : Int) : List Nat := if rangeB bl bh dim d then rangeL dim.toNat d.toNat bl bh else []
def AnyList (w : World) (L : List Nat) (x : Int) (e : Ending) (w' : World) : Prop := ∃ p c, e = .returned (.tuple #[.slice p L.length c, .int .i64 x]) ∧ CellsAt w' p (ki L) ∧ Below w.heap.size w w'
theorem range_parts {bl bh : List Nat} {dim d : Int} (h : rangeB bl bh dim d = true) : ∃ n D : Nat, dim = (n : Int) ∧ (1 ≤ n ∧ n ≤ 6) ∧ bl.length = n ∧ bh.length = n ∧ d = (D : Int) ∧ D ≤ 12 ∧ boxB bl bh (n : Int) = true := by
  have h' := h
  unfold rangeB at h'
  rw [Bool.and_eq_true, mayD_iff] at h'
  obtain ⟨hb, D, hd, hD⟩ := h'
  have hb' := hb
  unfold boxB checkB mayB at hb'
  simp only [Bool.and_eq_true, decide_eq_true_eq] at hb'
  obtain ⟨⟨⟨h1, h2⟩, h3⟩, h4⟩ := hb'
  have h5 := leAll_len h4
  exact ⟨bl.length, D, h3.symm, by omega, rfl, h5.symm, hd, hD, by rw [h3]; exact hb⟩
theorem rangeE_any {bl bh : List Nat} (dim d : Int) (p q : Option Addr) (c c' : Nat) (w : World) (hp : Pt w p bl) (hq : Pt w q bh) (hl : bl.length ≤ 1000000) :
    Calls Try.prog 19 #[.agg #[.slice p bl.length c, .slice q bh.length c'], .int .i64 dim, .int .i64 d] w (AnyList w (rgL bl bh dim d) (err (rangeB bl bh dim d))) := by
  cases h : rangeB bl bh dim d with
  | false =>
    rw [show rgL bl bh dim d = [] by unfold rgL; rw [h]; rfl]
    exact (rangeE_no dim d p q c c' w hp hq hl h).mono fun e w' ⟨h1, h2⟩ => ⟨none, 0, h1, fun j hj => absurd hj (by simp [ki]), h2⟩
  | true =>
    obtain ⟨n, D, rfl, hn, h1, h2, rfl, hD, hb⟩ := range_parts h
    rw [show rgL bl bh (n : Int) (D : Int) = rangeL n D bl bh by unfold rgL; rw [h, Int.toNat_natCast, Int.toNat_natCast]; rfl]
    have := rangeE_yes hn hD h1 h2 hb p q c c' w hp hq
    rw [h1, h2]
    exact this
theorem refRange_any {bl bh : List Nat} (dim d : Int) (p q : Option Addr) (c c' : Nat) (w : World) (hp : Pt w p bl) (hq : Pt w q bh) (hl : bl.length ≤ 1000000) :
    Calls Try.prog 20 #[.agg #[.slice p bl.length c, .slice q bh.length c'], .int .i64 dim, .int .i64 d] w (AnyList w (rgL bl bh dim d) (err (rangeB bl bh dim d))) := by
  cases h : rangeB bl bh dim d with
  | false =>
    rw [show rgL bl bh dim d = [] by unfold rgL; rw [h]; rfl]
    exact (refRange_no dim d p q c c' w hp hq hl h).mono fun e w' ⟨h1, h2⟩ => ⟨none, 0, h1, fun j hj => absurd hj (by simp [ki]), h2⟩
  | true =>
    obtain ⟨n, D, rfl, hn, h1, h2, rfl, hD, hb⟩ := range_parts h
    rw [show rgL bl bh (n : Int) (D : Int) = rangeL n D bl bh by unfold rgL; rw [h, Int.toNat_natCast, Int.toNat_natCast]; rfl]
    have := refRange_yes hn hD h1 h2 hb p q c c' w hp hq
    rw [h1, h2]
    exact this
theorem rg_len (bl bh : List Nat) (dim d : Int) : (rgL bl bh dim d).length ≤ 1000000 := by
  unfold rgL
  cases h : rangeB bl bh dim d with
  | false => simp
  | true =>
    obtain ⟨n, D, rfl, hn, h1, h2, rfl, hD, hb⟩ := range_parts h
    rw [if_pos rfl, Int.toNat_natCast, Int.toNat_natCast]
    unfold rangeL
    have := (pow_12 hD).1
    exact Nat.le_trans (List.length_filter_le _ _) (by simp; omega)
theorem ints_same (L : List Nat) (t q : Option Addr) (c c' : Nat) (V : World) (g1 : CellsAt V t (ki L)) (g2 : CellsAt V q (ki L)) (hl : L.length ≤ 1000000) : Calls Try.prog 21 #[.slice t L.length c, .slice q L.length c'] V fun e w' => e = .returned (.bool true) ∧ ∃ n, w' = V.drewN n := by
  rw [← iv_zi] at g1 g2
  have := ints_ok (zi L) (zi L) t q c c' V g1 g2 (by rw [zi_length]; exact hl)
  rw [zi_length, decide_eq_true rfl] at this
  exact this
set_option maxRecDepth 100000 in
set_option maxHeartbeats 4000000 in
theorem ranges_go {bl bh : List Nat} (dim d : Int) (p q : Option Addr) (c c' : Nat) (w : World) (hp : Pt w p bl) (hq : Pt w q bh) (h1 : ¬ 20 < bl.length) (h2 : ¬ 20 < bh.length) (h3 : ¬ (8 < d ∧ d ≤ 12)) :
    Calls Try.prog 4 #[.agg #[.slice p bl.length c, .slice q bh.length c'], .int .i64 dim, .int .i64 d] w fun e w' => e = .returned (.bool true) ∧ Below w.heap.size w w' := by
  obtain ⟨W, hW⟩ : ∃ W, w.alloc (.cells #[Value.slice p bl.length c, .slice q bh.length c'] 28) = W := ⟨_, rfl⟩
  have HB := hid (show Below w.heap.size w W by rw [← hW]; exact below_alloc _ _)
  have HG := hid (show W.heap[w.heap.size]? = some (.cells #[Value.slice p bl.length c, .slice q bh.length c'] 28 (0, 0)) by rw [← hW]; exact heap_alloc_new _ _)
  have z := two_cells HG.out
  have HX := hid fun (V : World) (hb : Below W.heap.size W V) => rangeE_any dim d p q c c' V (hp.below (HB.out.trans (hb.mono HB.out.size))) (hq.below (HB.out.trans (hb.mono HB.out.size))) (by omega)
  have HY := hid fun (V : World) (hb : Below W.heap.size W V) => refRange_any dim d p q c c' V (hp.below (HB.out.trans (hb.mono HB.out.size))) (hq.below (HB.out.trans (hb.mono HB.out.size))) (by omega)
  have HL := hid (rg_len bl bh dim d)
  generalize rgL bl bh dim d = L at HX HY HL
  generalize err (rangeB bl bh dim d) = E1 at HX HY
  unfold AnyList at HX HY
  have e1 : decide ((20 : Int) < (bl.length : Int)) = false := by simp; omega
  have e1' : decide (20 < bl.length) = false := by simp; omega
  have e2 : decide ((20 : Int) < (bh.length : Int)) = false := by simp; omega
  have e2' : decide (20 < bh.length) = false := by simp; omega
  rcases (show ¬ 8 < d ∨ (8 < d ∧ ¬ d ≤ 12) by omega) with h4 | ⟨h4, h5⟩
  · have e3 : decide (8 < d) = false := by simpa using h4
    clear hp hq h1 h2 h3 h4
    go_enter Try.func4, Try.ntmps4
    go_wp2_with fail
    refine (HX.out _ (Below.refl _ _)).mono ?_
    rintro e w1 ⟨p1, c1, rfl, g1, hb⟩
    have H1 := hid hb
    have G1 := hid g1
    have z2 := two_cells ((hb.block _ (lt_of HG.out)).trans HG.out)
    clear g1 hb z hW
    go_wp2_with fail
    refine (HY.out _ H1.out).mono ?_
    rintro e w2 ⟨p2, c2, rfl, g2, hb⟩
    have H2 := hid (H1.out.trans (hb.mono H1.out.size))
    have G2 := hid g2
    have G3 := hid (G1.out.below hb)
    clear g2 hb z2 G1
    go_wp2_with fail
    refine (ints_same L p1 p2 c1 c2 _ G3.out G2.out HL.out).mono ?_
    rintro e w3 ⟨rfl, m, hw⟩
    have H3 := hid (show Below w.heap.size w w3 by rw [hw]; exact HB.out.trans ((below_drewN H2.out m).mono HB.out.size))
    clear hw
    go_wp2_with fail
    refine (Ex.live_any _).mono ?_
    rintro e w4 ⟨rfl, hb⟩
    have H4 := hid (H3.out.trans (hb.mono H3.out.size)); clear hb
    go_wp2_with fail
    go_ret
    exact ⟨rfl, H4.out⟩
  · have e3 : decide (8 < d) = true := by simpa using h4
    have e4 : decide (d ≤ 12) = false := by simpa using h5
    clear hp hq h1 h2 h3 h4 h5
    go_enter Try.func4, Try.ntmps4
    go_wp2_with fail
    refine (HX.out _ (Below.refl _ _)).mono ?_
    rintro e w1 ⟨p1, c1, rfl, g1, hb⟩
    have H1 := hid hb
    have G1 := hid g1
    have z2 := two_cells ((hb.block _ (lt_of HG.out)).trans HG.out)
    clear g1 hb z hW
    go_wp2_with fail
    refine (HY.out _ H1.out).mono ?_
    rintro e w2 ⟨p2, c2, rfl, g2, hb⟩
    have H2 := hid (H1.out.trans (hb.mono H1.out.size))
    have G2 := hid g2
    have G3 := hid (G1.out.below hb)
    clear g2 hb z2 G1
    go_wp2_with fail
    refine (ints_same L p1 p2 c1 c2 _ G3.out G2.out HL.out).mono ?_
    rintro e w3 ⟨rfl, m, hw⟩
    have H3 := hid (show Below w.heap.size w w3 by rw [hw]; exact HB.out.trans ((below_drewN H2.out m).mono HB.out.size))
    clear hw
    go_wp2_with fail
    refine (Ex.live_any _).mono ?_
    rintro e w4 ⟨rfl, hb⟩
    have H4 := hid (H3.out.trans (hb.mono H3.out.size)); clear hb
    go_wp2_with fail
    go_ret
    exact ⟨rfl, H4.out⟩
set_option maxRecDepth 100000 in
set_option maxHeartbeats 4000000 in
theorem ranges_out {n m : Nat} (dim d : Int) (p q : Option Addr) (c c' : Nat) (w : World) (h : 20 < n ∨ 20 < m ∨ (8 < d ∧ d ≤ 12)) :
    Calls Try.prog 4 #[.agg #[.slice p n c, .slice q m c'], .int .i64 dim, .int .i64 d] w fun e w' => e = .returned (.bool true) ∧ Below w.heap.size w w' := by
  obtain ⟨W, hW⟩ : ∃ W, w.alloc (.cells #[Value.slice p n c, .slice q m c'] 28) = W := ⟨_, rfl⟩
  have HB := hid (show Below w.heap.size w W by rw [← hW]; exact below_alloc _ _)
  have z := two_cells (show W.heap[w.heap.size]? = some (.cells #[Value.slice p n c, .slice q m c'] 28 (0, 0)) by rw [← hW]; exact heap_alloc_new _ _)
  by_cases h1 : 20 < n
  · have e1 : decide ((20 : Int) < (n : Int)) = true := by simp; omega
    have e1' : decide (20 < n) = true := by simpa using h1
    clear h h1
    go_enter Try.func4, Try.ntmps4
    go_wp2_with fail
    refine (Ex.live_any _).mono ?_
    rintro e w4 ⟨rfl, hb⟩
    have H4 := hid (HB.out.trans (hb.mono HB.out.size)); clear hb
    go_wp2_with fail
    go_ret
    exact ⟨rfl, H4.out⟩
  · have e1 : decide ((20 : Int) < (n : Int)) = false := by simp; omega
    have e1' : decide (20 < n) = false := by simpa using h1
    by_cases h2 : 20 < m
    · have e2 : decide ((20 : Int) < (m : Int)) = true := by simp; omega
      have e2' : decide (20 < m) = true := by simpa using h2
      clear h h1 h2
      go_enter Try.func4, Try.ntmps4
      go_wp2_with fail
      refine (Ex.live_any _).mono ?_
      rintro e w4 ⟨rfl, hb⟩
      have H4 := hid (HB.out.trans (hb.mono HB.out.size)); clear hb
      go_wp2_with fail
      go_ret
      exact ⟨rfl, H4.out⟩
    · have e2 : decide ((20 : Int) < (m : Int)) = false := by simp; omega
      have e2' : decide (20 < m) = false := by simpa using h2
      have e3 : decide (8 < d) = true := by simp; omega
      have e4 : decide (d ≤ 12) = true := by simp; omega
      clear h h1 h2
      go_enter Try.func4, Try.ntmps4
      go_wp2_with fail
      refine (Ex.live_any _).mono ?_
      rintro e w4 ⟨rfl, hb⟩
      have H4 := hid (HB.out.trans (hb.mono HB.out.size)); clear hb
      go_wp2_with fail
      go_ret
      exact ⟨rfl, H4.out⟩
theorem ExcellRanges_walk (v : Value) (dim d : Int) (w : World) (h : BoxV w v) (_ : (Lit.int .i64 dim).wf = true) (_ : (Lit.int .i64 d).wf = true) :
    Calls Try.prog 4 #[v, .int .i64 dim, .int .i64 d] w fun e w' => e = .returned (.bool true) ∧ Below w.heap.size w w' := by
  obtain ⟨x, y, rfl, ⟨p, bl, c, rfl, hp, _⟩, q, bh, c', rfl, hq, _⟩ := h
  by_cases h : 20 < bl.length ∨ 20 < bh.length ∨ (8 < d ∧ d ≤ 12)
  · exact ranges_out dim d p q c c' w h
  · exact ranges_go dim d p q c c' w hp hq (fun g => h (.inl g)) (fun g => h (.inr (.inl g))) (fun g => h (.inr (.inr g)))
end Go.Proofs.Ytebfgjhpbkdmpaa
