/- Open of the document's answer: what it returns, whatever it is called with. -/
import Derived.Test.YtfedkhomplffoaaPgRef2
import Derived.Deep.RegionHeld3
import Derived.StillTailTactics
namespace Go.Proofs.Ytfedkhomplffoaa.Pg
open Go.RowKit
open Go.Lib (hid)
open Go.Proofs.Ytfedkhomplffoaa.Fd (Area Row Upd rowOf be be_length be_at beB num getAt putAt on_below on_upd)
open Go.Proofs.Ytfedkhomplffoaa.Sm (U B32 sumB U_lo U_hi)

set_option maxHeartbeats 400000 in
theorem refOpen_cut (s : ByteArray) (w : World) (h : s.size ≠ 256) :
    Calls Try.prog 17 #[.string s] w fun e w' => e = .returned (.tuple #[.agg #[.int .i64 0, .int .i64 0, .string ⟨#[]⟩], .int .i64 9]) ∧ Below w.heap.size w w' := by
  have e1 : ((s.size : Int) != 256) = true := by simp; omega
  have H := hid h; clear h
  go_enter Try.func17, Try.ntmps17
  go_wp2_with fail
  refine bodyPost_ret (v := .tuple #[.agg #[.int .i64 0, .int .i64 0, .string ⟨#[]⟩], .int .i64 9]) (by simp [results, Try.results17, go_sem]) rfl ⟨rfl, ?_⟩
  exact (Below.refl _ _).alloc (Nat.le_refl _) _
set_option maxHeartbeats 400000 in
theorem refOpen_blank (s : ByteArray) (w : World) (h : s.size = 256) (hb : s.data.toList = blankL) :
    Calls Try.prog 17 #[.string s] w fun e w' => e = .returned (.tuple #[.agg #[.int .i64 0, .int .i64 0, .string ⟨#[]⟩], .int .i64 0]) ∧ Below w.heap.size w w' := by
  have e1 : ((s.size : Int) != 256) = false := by simp; omega
  have e2 := str_yes s blankL hb
  have H := hid (And.intro h hb); clear h hb
  go_enter Try.func17, Try.ntmps17
  go_wp2_with (go_at_call 15; refine (refBlank_any _).mono ?_; rintro e w1 ⟨rfl, hb⟩; obtain ⟨hc, hf⟩ := bcell hb; have hz := hb.size; simp at hz; have HB := hid hb; clear hb)
  refine bodyPost_ret (v := .tuple #[.agg #[.int .i64 0, .int .i64 0, .string ⟨#[]⟩], .int .i64 0]) (by simp [results, Try.results17, go_sem, hc]) rfl ⟨rfl, ?_⟩
  exact (((((Below.refl w.heap.size w).alloc (Nat.le_refl _) _).trans (HB.out.mono (by simp))).setCell (Nat.le_refl _) _).setCell (Nat.le_refl _) _).setCell (Nat.le_refl _) _

/-- what the document's Open has laid: its result's block -/
structure Res (w wr : World) : Prop where
  below : Below w.heap.size w wr
  row : wr.heap[w.heap.size]? = some (.cells #[.int .i64 0, .int .i64 0, .string ⟨#[]⟩] 23 (0, 0))
theorem Res.lt {w wr : World} (h : Res w wr) : w.heap.size < wr.heap.size := (Array.getElem?_eq_some_iff.1 h.row).1
theorem Res.on {w wr w' : World} (h : Res w wr) (hb : Below wr.heap.size wr w') : Res w w' :=
  ⟨(on_below (hid h.below) hb).out, by rw [hb.block _ h.lt]; exact h.row⟩
theorem Res.drew {w wr : World} (h : Res w wr) : Res w wr.drew := ⟨h.below.drew, h.row⟩
theorem Res.cells {w wr : World} (h : Res w wr) :
    wr.cell? ⟨w.heap.size, 0, none⟩ = some (.int .i64 0) ∧ wr.cell? ⟨w.heap.size, 1, none⟩ = some (.int .i64 0) ∧ wr.cell? ⟨w.heap.size, 2, none⟩ = some (.string ⟨#[]⟩) := by
  refine ⟨?_, ?_, ?_⟩ <;> rw [cell_of_row _ _ _ _ _ _ h.row] <;> rfl
theorem Res.free {w wr : World} (h : Res w wr) (i : Nat) : wr.frozen? ⟨w.heap.size, i, none⟩ = false := frozen_of_row _ _ _ _ _ h.row
theorem Res.made {w w1 : World} (h1 : Below (w.alloc (.cells #[.int .i64 0, .int .i64 0, .string ⟨#[]⟩] 23)).heap.size (w.alloc (.cells #[.int .i64 0, .int .i64 0, .string ⟨#[]⟩] 23)) w1) : Res w w1 := by
  have hb0 : Below w.heap.size w (w.alloc (.cells #[.int .i64 0, .int .i64 0, .string ⟨#[]⟩] 23)) := (Below.refl _ _).alloc (Nat.le_refl _) _
  refine ⟨(on_below (hid hb0) h1).out, ?_⟩
  rw [h1.block _ (by simp)]
  exact heap_alloc_new _ _

theorem refSum_head {s : ByteArray} {z : Nat} (w : World) (hz : sumN (s.data.toList.take 252) = z) :
    Calls Try.prog 28 #[.string (s.extract 0 252)] w fun e w' => e = .returned (.int .u32 (z : Int)) ∧ w = w' := by
  subst hz
  have hd : (s.extract 0 252).data.toList = s.data.toList.take 252 := by rw [ByteArray.data_extract]; simp
  have := Sm.refSum_any (s.extract 0 252) w (by unfold maxLen; rw [ByteArray.size_extract]; omega)
  rw [hd] at this
  exact this
theorem low_nat {z : Nat} {t : List UInt8} (w : World) (hz : z < 4294967296) (ht : lowL z = t) :
    Calls Try.prog 27 #[.int .u32 (z : Int)] w fun e w' => e = .returned (.string ⟨t.toArray⟩) ∧ Below w.heap.size w w' := by
  have h2 : (BitVec.ofNat 32 z).toNat = z := by rw [BitVec.toNat_ofNat]; omega
  have h3 : U (BitVec.ofNat 32 z) = (z : Int) := by unfold U; rw [h2]
  have h1 := low_any (BitVec.ofNat 32 z) w
  rw [h3, h2, ht] at h1
  exact h1
theorem extract_tail (s : ByteArray) (h : s.size = 256) : (s.extract 252 256).data.toList = s.data.toList.drop 252 := by
  rw [ByteArray.data_extract]
  have hl : s.data.toList.length = 256 := by simp [h]
  simp only [Array.toList_extract, List.extract_eq_take_drop]
  rw [List.take_of_length_le (by rw [List.length_drop, hl]; decide)]
set_option maxHeartbeats 800000 in
theorem refOpen_sum (s : ByteArray) (w : World) (h : s.size = 256) (hb : s.data.toList ≠ blankL) (hs : lowL (sumN (s.data.toList.take 252)) ≠ s.data.toList.drop 252) :
    Calls Try.prog 17 #[.string s] w fun e w' => e = .returned (.tuple #[.agg #[.int .i64 0, .int .i64 0, .string ⟨#[]⟩], .int .i64 7]) ∧ Below w.heap.size w w' := by
  have e1 : ((s.size : Int) != 256) = false := by simp; omega
  have e2 := str_not s blankL hb
  have h252 : (252 : Int) ≤ (s.size : Int) := by omega
  obtain ⟨z, hz⟩ : ∃ z, sumN (s.data.toList.take 252) = z := ⟨_, rfl⟩
  obtain ⟨t, ht⟩ : ∃ t, lowL z = t := ⟨_, rfl⟩
  have hzl : z < 4294967296 := by rw [← hz]; exact sumN_lt _
  have hq : (t == (s.extract 252 s.size).toList) = false := by
    rw [ByteArray.toList_eq, h, extract_tail s h, ← ht, ← hz]; simpa using hs
  have HZ := hid hz; have HT := hid ht; have HZL := hid hzl
  have H := hid (And.intro h (And.intro hb hs)); clear h hb hs hz ht hzl
  go_enter Try.func17, Try.ntmps17
  go_wp2_with (first
    | (go_at_call 15; refine (refBlank_any _).mono ?_; rintro e w1 ⟨rfl, hb⟩; have HR := hid (Res.made hb); clear hb))
  go_region_held3 (fun _ => True) (trivial)
    (first
      | (go_at_call 28; refine (refSum_head _ HZ.out).mono ?_; rintro e w2 ⟨rfl, rfl⟩)
      | (go_at_call 27; refine (low_nat _ HZL.out HT.out).mono ?_; rintro e w2 ⟨rfl, hb⟩; replace HR := hid (HR.out.drew.on hb); clear hb))
  have c := HR.out.cells
  have f := HR.out.free
  go_wp2_with fail
  refine bodyPost_ret (v := .tuple #[.agg #[.int .i64 0, .int .i64 0, .string ⟨#[]⟩], .int .i64 7]) (by simp [results, Try.results17, go_sem, c]) rfl ⟨rfl, ?_⟩
  exact ((HR.out.below.setCell (Nat.le_refl _) _).setCell (Nat.le_refl _) _).setCell (Nat.le_refl _) _
end Go.Proofs.Ytfedkhomplffoaa.Pg
