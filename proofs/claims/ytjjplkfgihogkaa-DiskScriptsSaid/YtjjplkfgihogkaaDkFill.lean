/- The law's 'filled': a page of one byte, again and again. -/
import Derived.Test.YtjjplkfgihogkaaDkNew
namespace Go.Proofs.Ytjjplkfgihogkaa.Dk
open Go.RowKit
open Go.Lib (hid)

/-- a page of one byte, and one of which the first k are laid -/
def filledB (c : UInt8) : ByteArray := ⟨(List.replicate 256 c).toArray⟩
def fillL (c : UInt8) (k : Nat) : List UInt8 := List.replicate k c ++ List.replicate (256 - k) 0
theorem filledB_size (c : UInt8) : (filledB c).size = 256 := by
  show ((List.replicate 256 c).toArray).size = 256
  rw [List.size_toArray, List.length_replicate]
theorem fillL_length (c : UInt8) (k : Nat) (h : k ≤ 256) : (fillL c k).length = 256 := by
  unfold fillL; rw [List.length_append, List.length_replicate, List.length_replicate]; omega
theorem fillL_more (c : UInt8) (k : Nat) (h : k < 256) : (fillL c k).set k c = fillL c (k + 1) := by
  unfold fillL
  have e : 256 - k = (256 - (k + 1)) + 1 := by omega
  rw [List.set_append_right _ _ (by rw [List.length_replicate]; exact Nat.le_refl _), List.length_replicate, Nat.sub_self, e, List.replicate_succ, List.set_cons_zero, List.replicate_succ', List.append_assoc]; rfl
theorem fillL_full (c : UInt8) : fillL c 256 = List.replicate 256 c := by
  unfold fillL; rw [Nat.sub_self, List.replicate_zero, List.append_nil]
theorem fillL_zero (c : UInt8) : fillL c 0 = Pg.zs 256 := by
  unfold fillL Pg.zs; rw [Nat.sub_zero, List.replicate_zero, List.nil_append]
theorem fill_back {w : World} {B : Nat} {c : UInt8} (h : Fd.Row w B (fillL c 256)) :
    (convert 64 9 (.slice (some ⟨B, 0, none⟩) 256 256)).run Try.prog w = .ok (.string (filledB c)) w := by
  have := Fd.back_run h 0 256 256 (by rw [fillL_length _ _ (Nat.le_refl _)]; exact Nat.le_refl _)
  have e : Fd.getAt (fillL c 256) 0 256 = List.replicate 256 c := by
    have := Fd.getAt_all (fillL c 256); rw [fillL_length _ _ (Nat.le_refl _)] at this; rw [this, fillL_full]
  rw [e] at this
  exact this

set_option maxRecDepth 100000 in
set_option maxHeartbeats 1000000 in
theorem filled_ok (c : UInt8) (w : World) :
    Calls Try.prog 8 #[.int .u8 (c.toNat : Int)] w fun e w' => e = .returned (.string (filledB c)) ∧ Below w.heap.size w w' := by
  have hm : (Instr.makeSlice 64 (.int .i64 256) (.int .i64 256)).run Try.prog w = .ok (.slice (some ⟨w.heap.size, 0, none⟩) 256 256) (w.alloc (.cells (Pg.zcells 256) 5)) := Pg.zmake 256 (by decide) w
  have HR : Hid (Fd.Row (w.alloc (.cells (Pg.zcells 256) 5)) w.heap.size (fillL c 0)) := hid (by
    unfold Fd.Row; rw [heap_alloc_new, Pg.zcells_row, fillL_zero])
  go_enter Try.func8, Try.ntmps8
  go_wp2_with fail
  clear hm
  go_loopw [4] (fun i wr => ∃ k : Nat, k ≤ 256 ∧ i = .int .i64 k ∧ Fd.Row wr w.heap.size (fillL c k) ∧ Below w.heap.size w wr) (fun i _ => 256 - (intOf i).toNat)
  case atStart => exact ⟨0, by omega, rfl, HR.out, (Below.refl _ _).alloc (Nat.le_refl _) _⟩
  case round =>
    obtain ⟨k, hk, rfl, hr, hb⟩ := hrel
    have HK := hid hr; have HB := hid hb; clear hr hb
    by_cases hlt : k < 256
    · have hc := HK.out.cell k (by rw [fillL_length _ _ hk]; exact hlt)
      have hf := HK.out.free k
      generalize (((fillL c k)[k]'(by rw [fillL_length _ _ hk]; exact hlt)).toNat : Int) = u at hc
      go_wp2_with fail
      go_roundw
      case rel =>
        refine ⟨k + 1, by omega, by go_num, ?_, HB.out.setCell (Nat.le_refl _) _⟩
        rw [← fillL_more c k hlt]
        exact ((Fd.Upd.refl HK.out).setCell k c).row
      case measure => simp [intOf]; omega
    · obtain rfl : k = 256 := by omega
      have hbk := fill_back HK.out
      go_wp2_with fail
      go_ret
      exact ⟨rfl, HB.out⟩
end Go.Proofs.Ytjjplkfgihogkaa.Dk
