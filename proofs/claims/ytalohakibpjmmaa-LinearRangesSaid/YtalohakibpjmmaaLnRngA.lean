/- Range of linear, whatever is asked. -/
import Derived.Test.YtalohakibpjmmaaLnRng
namespace Go.Proofs.Ytalohakibpjmmaa.Ln
open Go.RowKit
open Go.Lib (hid)
open Go.Proofs.Ytalohakibpjmmaa.Ky
open Go.Proofs.Ytalohakibpjmmaa.Pt
open Go.Proofs.Ytalohakibpjmmaa.Bk
open Go.Proofs.Ytalohakibpjmmaa.Ex

def rnB (bl bh : List Nat) (l x : Int) : Bool := lvB l x && boxB bl bh (bl.length : Int)
def rnL (bl bh : List Nat) (l x : Int) : List Nat := if rnB bl bh l x then rng bl.length l.toNat x.toNat bl bh else []
theorem rn_parts {bl bh : List Nat} {l x : Int} (h : rnB bl bh l x = true) : ∃ L X : Nat, l = (L : Int) ∧ L ≤ 10 ∧ x = (X : Int) ∧ X < 2 ^ L ∧ (1 ≤ bl.length ∧ bl.length ≤ 6) ∧ bh.length = bl.length ∧ boxB bl bh (bl.length : Int) = true := by
  unfold rnB at h
  rw [Bool.and_eq_true, lvB_iff] at h
  obtain ⟨⟨L, X, h1, h2, h3, h4⟩, hb⟩ := h
  have hb' := hb
  unfold boxB checkB mayB at hb'
  simp only [Bool.and_eq_true, decide_eq_true_eq] at hb'
  have h5 := leAll_len hb'.2
  exact ⟨L, X, h1, h2, h3, h4, by omega, h5.symm, hb⟩
set_option maxRecDepth 100000 in
set_option maxHeartbeats 4000000 in
theorem rangeL_no {bl bh : List Nat} (l x : Int) (p q : Option Addr) (c c' : Nat) (w : World) (hp : Pt w p bl) (hq : Pt w q bh) (hl : bl.length ≤ 1000000) (h : rnB bl bh l x = false) :
    Calls Try.prog 17 #[.agg #[.slice p bl.length c, .slice q bh.length c'], .int .i64 l, .int .i64 x] w fun e w' => e = .returned (.tuple #[.slice none 0 0, .int .i64 1]) ∧ Below w.heap.size w w' := by
  have HLV := hid fun V : World => lvB_ok l x V
  obtain ⟨W, hW⟩ : ∃ W, w.alloc (.cells #[Value.slice p bl.length c, .slice q bh.length c'] 32) = W := ⟨_, rfl⟩
  have HB := hid (show Below w.heap.size w W by rw [← hW]; exact below_alloc _ _)
  have z := two_cells (show W.heap[w.heap.size]? = some (.cells #[Value.slice p bl.length c, .slice q bh.length c'] 32 (0, 0)) by rw [← hW]; exact heap_alloc_new _ _)
  cases hv : lvB l x with
  | false =>
    rw [hv] at HLV
    clear hp hq hl h hv
    go_enter Try.func17, Try.ntmps17
    go_wp2_with fail
    refine (HLV.out _).mono ?_
    rintro e w1 ⟨rfl, rfl⟩
    go_wp2_with fail
    go_ret2
    exact ⟨rfl, HB.out⟩
  | true =>
    rw [hv] at HLV
    obtain ⟨L, X, rfl, hL, rfl, hX⟩ := lvB_iff.1 hv
    have hb : boxB bl bh (bl.length : Int) = false := by unfold rnB at h; rw [hv, Bool.true_and] at h; exact h
    have HRG := hid (rangeE_no (bl.length : Int) (L : Int) p q c c' W (hp.below HB.out) (hq.below HB.out) hl (by unfold rangeB; rw [hb]; rfl))
    clear hp hq hl h hv hL hX hb
    go_enter Try.func17, Try.ntmps17
    go_wp2_with fail
    refine (HLV.out _).mono ?_
    rintro e w1 ⟨rfl, rfl⟩
    go_wp2_with fail
    refine HRG.out.mono ?_
    rintro e w1 ⟨rfl, hb⟩
    have HBF := hid (HB.out.trans (hb.mono HB.out.size))
    clear z hb hW
    go_wp2_with fail
    go_ret2
    exact ⟨rfl, HBF.out⟩
theorem rangeL_any {bl bh : List Nat} (l x : Int) (p q : Option Addr) (c c' : Nat) (w : World) (hp : Pt w p bl) (hq : Pt w q bh) (hl : bl.length ≤ 1000000) :
    Calls Try.prog 17 #[.agg #[.slice p bl.length c, .slice q bh.length c'], .int .i64 l, .int .i64 x] w (AnyList w (rnL bl bh l x) (err (rnB bl bh l x))) := by
  cases h : rnB bl bh l x with
  | false =>
    rw [show rnL bl bh l x = [] by unfold rnL; rw [h]; rfl]
    exact (rangeL_no l x p q c c' w hp hq hl h).mono fun e w' ⟨h1, h2⟩ => ⟨none, 0, h1, fun j hj => absurd hj (by simp [ki]), h2⟩
  | true =>
    rw [show rnL bl bh l x = rng bl.length l.toNat x.toNat bl bh by unfold rnL; rw [h, if_pos rfl]]
    obtain ⟨L, X, rfl, hL, rfl, hX, hn, h2, hb⟩ := rn_parts h
    rw [Int.toNat_natCast, Int.toNat_natCast, h2]
    exact rangeL_yes hn hL hX rfl h2 hb p q c c' w hp hq
end Go.Proofs.Ytalohakibpjmmaa.Ln
