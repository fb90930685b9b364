/- Box and Range of excell, whatever is asked (out of the texts of excell's laws). -/
import Derived.Test.YtalohakibpjmmaaExRng
import Derived.Test.YtalohakibpjmmaaExInts
namespace Go.Proofs.Ytalohakibpjmmaa.Ln
open Go.RowKit
open Go.Lib (hid)
open Go.Proofs.Ytalohakibpjmmaa.Ky
open Go.Proofs.Ytalohakibpjmmaa.Bk
open Go.Proofs.Ytalohakibpjmmaa.Ex
def bxL (dim d a : Int) : List Nat × List Nat := if okB dim d a then cell dim.toNat d.toNat a.toNat else ([], [])
theorem bxL_len (dim d a : Int) : (bxL dim d a).1.length ≤ 1000000 ∧ (bxL dim d a).2.length ≤ 1000000 := by
  unfold bxL
  cases h : okB dim d a with
  | false => simp
  | true =>
    obtain ⟨n, D, A, rfl, h1, h2, rfl, h3, rfl, h4⟩ := okB_iff.1 h
    have f := cell_fit ⟨h1, h2⟩ D A (show D ≤ 32 by omega)
    simp only [Int.toNat_natCast, if_true]
    omega
def AnyBox (w : World) (b : List Nat × List Nat) (x : Int) (e : Ending) (w' : World) : Prop :=
  ∃ p c q c', e = .returned (.tuple #[.agg #[.slice p b.1.length c, .slice q b.2.length c'], .int .i64 x]) ∧ Pt w' p b.1 ∧ Pt w' q b.2 ∧ Below w.heap.size w w'
theorem boxE_any (dim d a : Int) (w : World) : Calls Try.prog 31 #[.int .i64 dim, .int .i64 d, .int .i64 a] w (AnyBox w (bxL dim d a) (err (okB dim d a))) := by
  cases h : okB dim d a with
  | false =>
    rw [show bxL dim d a = ([], []) by unfold bxL; rw [h]; rfl]
    exact (boxE_no dim d a w h).mono fun e w' ⟨h1, h2⟩ => ⟨none, 0, none, 0, h1, Pt.nil _ _, Pt.nil _ _, h2⟩
  | true =>
    obtain ⟨n, D, A, rfl, h1, h2, rfl, h3, rfl, h4⟩ := okB_iff.1 h
    have f := cell_fit ⟨h1, h2⟩ D A (show D ≤ 32 by omega)
    have := boxE_yes ⟨h1, h2⟩ h3 h4 w
    rw [show bxL (n : Int) (D : Int) (A : Int) = cell n D A by unfold bxL; rw [h, Int.toNat_natCast, Int.toNat_natCast, Int.toNat_natCast]; rfl]
    unfold AnyBox
    rw [f.1, f.2]
    exact this
def rgL (bl bh : List Nat) (dim d : Int) : List Nat := if rangeB bl bh dim d then rangeL dim.toNat d.toNat bl bh else []
def AnyList (w : World) (L : List Nat) (x : Int) (e : Ending) (w' : World) : Prop := ∃ p c, e = .returned (.tuple #[.slice p L.length c, .int .i64 x]) ∧ CellsAt w' p (ki L) ∧ Below w.heap.size w w'
theorem range_parts {bl bh : List Nat} {dim d : Int} (h : rangeB bl bh dim d = true) : ∃ n D : Nat, dim = (n : Int) ∧ (1 ≤ n ∧ n ≤ 6) ∧ bl.length = n ∧ bh.length = n ∧ d = (D : Int) ∧ D ≤ 12 ∧ boxB bl bh (n : Int) = true := by
  have h' := h
  unfold rangeB at h'
  rw [Bool.and_eq_true, mayD_iff] at h'
  obtain ⟨hb, D, hd, hD⟩ := h'
  have hb' := hb
  unfold boxB checkB mayB at hb'
  simp only [Bool.and_eq_true, decide_eq_true_eq] at hb'
  obtain ⟨⟨⟨h1, h2⟩, h3⟩, h4⟩ := hb'
  have h5 := leAll_len h4
  exact ⟨bl.length, D, h3.symm, by omega, rfl, h5.symm, hd, hD, by rw [h3]; exact hb⟩
theorem rangeE_any {bl bh : List Nat} (dim d : Int) (p q : Option Addr) (c c' : Nat) (w : World) (hp : Pt w p bl) (hq : Pt w q bh) (hl : bl.length ≤ 1000000) :
    Calls Try.prog 34 #[.agg #[.slice p bl.length c, .slice q bh.length c'], .int .i64 dim, .int .i64 d] w (AnyList w (rgL bl bh dim d) (err (rangeB bl bh dim d))) := by
  cases h : rangeB bl bh dim d with
  | false =>
    rw [show rgL bl bh dim d = [] by unfold rgL; rw [h]; rfl]
    exact (rangeE_no dim d p q c c' w hp hq hl h).mono fun e w' ⟨h1, h2⟩ => ⟨none, 0, h1, fun j hj => absurd hj (by simp [ki]), h2⟩
  | true =>
    obtain ⟨n, D, rfl, hn, h1, h2, rfl, hD, hb⟩ := range_parts h
    rw [show rgL bl bh (n : Int) (D : Int) = rangeL n D bl bh by unfold rgL; rw [h, Int.toNat_natCast, Int.toNat_natCast]; rfl]
    have := rangeE_yes hn hD h1 h2 hb p q c c' w hp hq
    rw [h1, h2]
    exact this
theorem rg_len (bl bh : List Nat) (dim d : Int) : (rgL bl bh dim d).length ≤ 1000000 := by
  unfold rgL
  cases h : rangeB bl bh dim d with
  | false => simp
  | true =>
    obtain ⟨n, D, rfl, hn, h1, h2, rfl, hD, hb⟩ := range_parts h
    rw [if_pos rfl, Int.toNat_natCast, Int.toNat_natCast]
    unfold rangeL
    have := (pow_12 hD).1
    exact Nat.le_trans (List.length_filter_le _ _) (by simp; omega)
theorem ints_same (L : List Nat) (t q : Option Addr) (c c' : Nat) (V : World) (g1 : CellsAt V t (ki L)) (g2 : CellsAt V q (ki L)) (hl : L.length ≤ 1000000) : Calls Try.prog 19 #[.slice t L.length c, .slice q L.length c'] V fun e w' => e = .returned (.bool true) ∧ ∃ n, w' = V.drewN n := by
  rw [← iv_zi] at g1 g2
  have := ints_ok (zi L) (zi L) t q c c' V g1 g2 (by rw [zi_length]; exact hl)
  rw [zi_length, decide_eq_true rfl] at this
  exact this
end Go.Proofs.Ytalohakibpjmmaa.Ln
