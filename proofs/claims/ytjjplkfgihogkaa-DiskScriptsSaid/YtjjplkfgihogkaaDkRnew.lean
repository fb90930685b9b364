/- The document's own disk: New. -/
import Derived.Test.YtjjplkfgihogkaaDkROf
import Derived.Test.YtjjplkfgihogkaaDkRcr
import Derived.Test.YtjjplkfgihogkaaDkFill
namespace Go.Proofs.Ytjjplkfgihogkaa.Dk
open Go.RowKit
open Go.Lib (hid)
open Go.Proofs.Ytjjplkfgihogkaa.Bk (Owns ReadAt step_app run_app_own)

set_option maxHeartbeats 400000 in
theorem rdnew_bad (n : Int) (w : World) (h : n < 1 ∨ 1000 < n) :
    Calls Try.prog 5 #[.int .i64 n] w fun e w' => e = .returned (.tuple #[.pointer none, .int .i64 1]) ∧ w = w' := by
  by_cases h1 : n < 1
  · have e1 : decide (n < 1) = true := decide_eq_true h1
    clear h h1
    go_enter Try.func5, Try.ntmps5
    go_wp2_with fail
    go_ret2
    exact ⟨rfl, rfl⟩
  · have e1 : decide (n < 1) = false := decide_eq_false h1
    have e2 : decide ((1000 : Int) < n) = true := decide_eq_true (by omega)
    clear h h1
    go_enter Try.func5, Try.ntmps5
    go_wp2_with fail
    go_ret2
    exact ⟨rfl, rfl⟩
theorem fill_blank : fillL 0 256 = Pg.zs 256 := by rw [fillL_full]; rfl
set_option maxRecDepth 100000 in
set_option maxHeartbeats 1000000 in
theorem rblank_t (t : ByteArray) (h : blankB = t) (w : World) : Calls Try.prog 27 #[] w fun e w' => e = .returned (.string t) ∧ Below w.heap.size w w' := by
  have hm : (Instr.makeSlice 64 (.int .i64 256) (.int .i64 256)).run Try.prog w = .ok (.slice (some ⟨w.heap.size, 0, none⟩) 256 256) (w.alloc (.cells (Pg.zcells 256) 5)) := Pg.zmake 256 (by decide) w
  have hr : Fd.Row (w.alloc (.cells (Pg.zcells 256) 5)) w.heap.size (fillL 0 256) := by
    unfold Fd.Row; rw [heap_alloc_new, Pg.zcells_row, fill_blank]
  have hbk := fill_back hr
  rw [show filledB 0 = t from h] at hbk
  have HB := hid (show Below w.heap.size w (w.alloc (.cells (Pg.zcells 256) 5)) from (Below.refl _ _).alloc (Nat.le_refl _) _)
  clear hr h
  go_enter Try.func27, Try.ntmps27
  go_wp2_with fail
  go_ret
  exact ⟨rfl, HB.out⟩
theorem pr_done {w V : World} {g : Nat} {v : Value} {l : List ByteArray} (h : PR w V g v l) (h1 : 1 ≤ l.length) (hg : Good (newS l)) :
    ∃ d : Ptrs, d.D = g ∧ Rk V d (newS l) ∧ ∀ k, Foot d k → g ≤ k := by
  obtain ⟨hx, hy | ⟨g', cap, cur, hv, hb, hh, hle, hm, hsz, htk⟩⟩ := h.own
  · omega
  · subst hv
    rw [Nat.mul_one] at hsz htk
    refine ⟨⟨g, g', cap, .slice none 0 0⟩, rfl, ⟨h.box, ⟨cur, hh, hsz, hle, hm, htk⟩, World.ownsRow_nil _ _ _ _, by show g ≠ g'; omega, by simp [Value.ownBlock], by simp [Value.ownBlock], hg⟩, ?_⟩
    intro k hk
    rcases hk with e | e | e
    · have e : k = g := e; omega
    · have e : k = g' := e; omega
    · cases e
theorem blanks_next (k : Nat) : blanks (k + 1) = blanks k ++ [blankB] := by unfold blanks; rw [List.replicate_succ']
set_option maxRecDepth 100000 in
set_option maxHeartbeats 4000000 in
theorem rdnew_ok (n : Nat) (w : World) (h1 : 1 ≤ n) (h2 : n ≤ 1000) (hg : Good (newS (blanks n))) :
    Calls Try.prog 5 #[.int .i64 (n : Int)] w fun e w' => ∃ d : Ptrs, e = .returned (.tuple #[.pointer (some ⟨d.D, 0, none⟩), .int .i64 0]) ∧ Rk w' d (newS (blanks n)) ∧ Below w.heap.size w w' ∧ ∀ k, Foot d k → w.heap.size ≤ k := by
  have HG := hid hg
  clear hg
  have e1 : decide ((n : Int) < 1) = false := by simp; omega
  have e2 : decide ((1000 : Int) < (n : Int)) = false := by simp; omega
  go_enter Try.func5, Try.ntmps5
  go_wp2_with fail
  clear e1 e2
  go_loopw [5] (fun i wr => ∃ (k : Nat) (v : Value), k ≤ n ∧ i = .int .i64 k ∧ PR w wr w.heap.size v (blanks k)) (fun i _ => n - (intOf i).toNat)
  case atStart =>
    refine ⟨0, .slice none 0 0, by omega, rfl, ⟨?_, World.ownsRow_nil _ _ _ _, ?_⟩⟩
    · exact heap_alloc_new _ _
    · exact ballocS w _
  case round =>
    obtain ⟨k, v, hk, rfl, hpr⟩ := hrel
    have HK := hid hpr; clear hpr
    rename World => w0
    by_cases hlt : k < n
    · have e1 : decide ((k : Int) < (n : Int)) = true := by simpa using hlt
      have e1' : decide (k < n) = true := by simpa using hlt
      obtain ⟨t, ht⟩ : ∃ t, blankB = t := ⟨_, rfl⟩
      have HT := hid ht
      have HLEN := hid (show (blanks k).length = k by unfold blanks; simp)
      obtain ⟨c0, f0⟩ := HK.out.cell
      have HBL := hid (rblank_t t ht w0.drew)
      clear ht
      go_wp2_with fail
      go_region_law (first
        | (refine step_app (by rfl) _ _ _ (by rfl) (by rfl) (by rfl) HAP.out ?_; intro v' w4 hF; obtain ⟨pp, nn, cc, hvv⟩ := row_sliceS hF.1; subst hvv; have HM := hid (HK.out.more rfl HW.out hF); have c4 : w4.cell? ⟨w.heap.size, 0, none⟩ = some v := HM.out.2.1; have f4 : w4.frozen? ⟨w.heap.size, 0, none⟩ = false := HM.out.2.2; clear hF)
        | (go_simp; go_at_call 27; refine HBL.out.mono ?_; rintro e w5 ⟨rfl, hb⟩
           have HW := hid (show Below w0.heap.size w0 (w5.alloc (.cells #[.string t] 9)) from ((Below.refl w0.heap.size w0).drew.trans hb).trans ((ballocS w5 _).mono hb.size))
           have HAP := hid (str_own (w := w5.alloc (.cells #[.string t] 9)) 40 v (blanks k).length (sv (blanks k)) (own_belowS HK.out.own HW.out) (some ⟨w5.heap.size, 0, none⟩) 1 1 [.string t] (sread_one w5 (.string t) 9) rfl (by simp [Value.oneCell']) (by rw [HLEN.out]; omega) (by have := HK.out.lt; have := HW.out.size; omega))
           have c5 : w5.cell? ⟨w.heap.size, 0, none⟩ = some v := (((Below.refl w0.heap.size w0).drew.trans hb).cell (p := ⟨w.heap.size, 0, none⟩) HK.out.lt).trans c0
           have c6 : (w5.alloc (.cells #[.string t] 9)).cell? ⟨w.heap.size, 0, none⟩ = some v := (HW.out.cell (p := ⟨w.heap.size, 0, none⟩) HK.out.lt).trans c0
           clear hb))
      all_goals
        clear c0 f0 c4 f4 c5 c6
        go_wp2_with fail
        go_roundw
        case rel => exact ⟨k + 1, _, by omega, by go_num, by rw [blanks_next, HT.out]; exact HM.out.1⟩
        case measure => simp [intOf]; omega
    · obtain rfl : k = n := by omega
      have e1 : decide ((k : Int) < (k : Int)) = false := by simp
      have HD := hid (pr_done HK.out (by unfold blanks; simp; omega) HG.out)
      have HB := hid HK.out.below
      obtain ⟨dd, hD, hR, hF⟩ := HD.out
      have HR := hid hR; have HF := hid hF
      clear hR hF HD
      have HDD := hid hD
      go_wp2_with fail
      go_ret2
      exact ⟨dd, by rw [HDD.out]; rfl, HR.out, HB.out, HF.out⟩
end Go.Proofs.Ytjjplkfgihogkaa.Dk
