/- Write of disk: what it returns, and what the disk is behind it. -/
import Derived.Test.YtjjplkfgihogkaaDkSmall
import Derived.Deep.AppendLies
import Derived.Deep.RegionLaw
namespace Go.Proofs.Ytjjplkfgihogkaa.Dk
open Go.RowKit
open Go.Lib (hid)

theorem info68 : (Try.prog.info? 63).map (fun i => (i.zero, i.size, i.bytes)) = some (some (.agg #[.int .i64 0, .string ⟨#[]⟩]), 2, 24) := by kernel_rfl

/-- a write waits -/
def pushS (s : St) (n : Nat) (t : ByteArray) : St := { s with waits := s.waits ++ [(n, t)] }
def countW (s : St) : St := { s with writes := s.writes + 1 }
def writeS (s : St) (n : Nat) (t : ByteArray) : St := burnS (countW (pushS s n t))
theorem push_good {s : St} (h : Good s) {n : Nat} {t : ByteArray} (hn : n < s.pages.length) (ht : t.size = 256) (hf : s.waits.length < 1000000) : Good (pushS s n t) := by
  refine ⟨h.n1, h.n2, h.sizes, fun x hx => ?_, by simp [pushS]; omega, h.fuse, h.reads, h.writes, h.flushes⟩
  simp only [pushS, List.mem_append, List.mem_singleton] at hx
  rcases hx with hx | rfl
  · exact h.wait x hx
  · exact ⟨hn, ht⟩
theorem countW_good {s : St} (h : Good s) (hw : s.writes < 1000000) : Good (countW s) := by
  refine ⟨h.n1, h.n2, h.sizes, h.wait, h.few, h.fuse, h.reads, ?_, h.flushes⟩
  have := h.writes
  show 0 ≤ s.writes + 1 ∧ s.writes + 1 ≤ 1000000
  omega
theorem wcells_push (l : List (Nat × ByteArray)) (n : Nat) (t : ByteArray) : wcells (l ++ [(n, t)]) = wcells l ++ [.int .i64 n, .string t] := by
  simp [wcells]

/-- what the disk is when its waits have grown -/
theorem Dsk.pushed {w w2 : World} {d : Ptrs} {s : St} (h : Dsk w d s) {g cap n : Nat} {t : ByteArray} (hn : n < s.pages.length) (ht : t.size = 256) (hf : s.waits.length < 1000000)
    (ho : w2.ownsRow 0 63 2 (.slice (some ⟨g, 0, none⟩) (s.waits.length + 1) cap) (s.waits.length + 1) (wcells s.waits ++ [.int .i64 n, .string t])) (hg : w.grownBy w2 d.wv.ownBlock) (hat : d.wv.ownBlock = some g ∨ g = w.heap.size) :
    Dsk (w2.setCell ⟨d.D, 1, none⟩ (.slice (some ⟨g, 0, none⟩) (s.waits.length + 1) cap)) { d with wv := .slice (some ⟨g, 0, none⟩) (s.waits.length + 1) cap } (pushS s n t) := by
  have hgD : g ≠ d.D := by
    rcases hat with h1 | h1
    · intro e; exact h.dw (by rw [h1, e])
    · have := h.ltD; omega
  have hgP : g ≠ d.P := by
    rcases hat with h1 | h1
    · intro e; exact h.pw (by rw [h1, e])
    · have := h.ltP; omega
  have hD : w2.heap[d.D]? = w.heap[d.D]? := hg.block _ h.ltD (Ne.symm h.dw)
  have hP : w2.heap[d.P]? = w.heap[d.P]? := hg.block _ h.ltP (Ne.symm h.pw)
  refine ⟨?_, ?_, ?_, h.dp, ?_, ?_, push_good h.good hn ht hf⟩
  · rw [heap_setCell_same _ _ _ _ _ _ (by rw [hD]; exact h.head)]; rfl
  · show ∃ cur, (w2.setCell _ _).heap[d.P]? = _ ∧ _
    rw [heap_setCell_other _ _ _ _ (Ne.symm h.dp), hP]; exact h.pages
  · have e1 : (pushS s n t).waits.length = s.waits.length + 1 := by simp [pushS]
    have e2 : wcells (pushS s n t).waits = wcells s.waits ++ [.int .i64 n, .string t] := wcells_push _ _ _
    rw [e1, e2]
    refine ⟨ho.1, ?_⟩
    rcases ho.2 with ⟨hv, _⟩ | ⟨g', cap', cur, hv, hb0, hg', rest⟩
    · cases hv
    · refine .inr ⟨g', cap', cur, hv, hb0, ?_, rest⟩
      have : g' = g := by cases hv; rfl
      rw [this, heap_setCell_other _ _ _ _ hgD, ← this]; exact hg'
  · show some g ≠ some d.D
    intro e; exact hgD (by injection e)
  · show some g ≠ some d.P
    intro e; exact hgP (by injection e)
theorem Only.pushed {w0 w w2 : World} {d : Ptrs} (h : Only d w0 w) {v : Value} (hg : w.grownBy w2 d.wv.ownBlock) : Only d w0 (w2.setCell ⟨d.D, 1, none⟩ v) := by
  refine ⟨hg.os.trans h.os, hg.tape.trans h.tape, hg.output.trans h.output, by rw [World.size_setCell]; exact Nat.le_trans h.size hg.size, fun k hk hn => ?_⟩
  rw [heap_setCell_other _ _ _ _ (fun e => hn (.inl e)), hg.block k (Nat.lt_of_lt_of_le hk h.size) (fun e => hn (.inr (.inr e.symm))), h.block k hk hn]

set_option maxRecDepth 100000 in
set_option maxHeartbeats 1000000 in
theorem write_ok (d : Ptrs) (s : St) (n : Nat) (t : ByteArray) (w : World) (h : Dsk w d s) (hn : n < s.pages.length) (ht : t.size = 256) (hfz : s.fuse ≠ 0) (hf : s.waits.length < 1000000) (hw : s.writes < 1000000) :
    Calls Try.prog 7 #[.pointer (some ⟨d.D, 0, none⟩), .int .i64 n, .string t] w fun e w' => e = .returned (.int .i64 0) ∧ ∃ v, Dsk w' { d with wv := v } (writeS s n t) ∧ Only d w w' ∧ From d { d with wv := v } w := by
  obtain ⟨i0, hi0, hz0, hz1, hz2⟩ := info_parts info68
  have e1 : decide ((0 : Int) ≤ (n : Int) ∧ (n : Int) < (s.pages.length : Int)) = true := by simp; omega
  have e2 : ((t.size : Int) != 256) = false := by simp; omega
  have e3 : (s.fuse == 0) = false := by simpa using hfz
  have hmax : s.waits.length + 1 ≤ maxLen := by unfold maxLen; omega
  have hby : (s.waits.length + 1) * 24 ≤ 140737488355328 := by omega
  have HH := hid h
  have HT : Hid (t.size ≤ 1000000) := hid (by omega)
  have c := h.cells
  clear h
  go_enter Try.func7, Try.ntmps7
  go_wp2_with (first
    | (go_at_call 28; refine (has_ok d s n _ HH.out).mono ?_; rintro e w' ⟨rfl, rfl⟩)
    | (go_at_call 29; refine (dead_ok d s _ HH.out).mono ?_; rintro e w' ⟨rfl, rfl⟩))
  go_region_law (first
    | (refine step_append_lies _ (by rfl) _ _ _ (by rfl) 0 63 i0 _ 2 24 Try.underlying56 hi0 hz0 hz1 hz2 rfl (by omega) d.wv s.waits.length (wcells s.waits) (by rfl) ((HH1.out.waits.alloc _))
        ⟨w1.heap.size, 0, none⟩ 1 1 [.int .i64 n, .string t] (by rfl) (by rfl) (World.news_of_block (cs := #[.int .i64 n, .string t]) (t := 63) (fr := (0, 0)) (heap_alloc_new w1 _)) (by simp [Value.oneCell'])
        (by omega) hmax hby (by omega) (w1.heap.size + 1) (by simp) ?_; intro gg cap w2 hown1 hgrow hat hlt
       have HO := hid hown1; have HG := hid hgrow; have HA := hid hat; clear hown1 hgrow hat hlt
       have c3 : w2.frozen? ⟨d.D, 1, none⟩ = false := by rw [HG.out.frozen_far _ (by have := HH1.out.ltD; simp; omega) (fun e => HH1.out.dw e.symm)]; have := (HH1.out.below ((Below.refl w1.heap.size w1).alloc (Nat.le_refl _) (.cells #[.int .i64 n, .string t] 63))).free 1; exact this
       have c4 : w2.cell? ⟨d.D, 1, none⟩ = some d.wv := by rw [HG.out.cell_far _ (by have := HH1.out.ltD; simp; omega) (fun e => HH1.out.dw e.symm)]; exact (HH1.out.below ((Below.refl w1.heap.size w1).alloc (Nat.le_refl _) (.cells #[.int .i64 n, .string t] 63))).cells.2.1)
    | (go_simp; go_at_call 30; refine (own_ok t _ HT.out).mono ?_; rintro e w1 ⟨rfl, hb⟩; have HH1 := hid (HH.out.drew.below hb); have HB := hid (Only.below (d := d) (w := w.drew) hb); clear hb; have c1 := HH1.out.cells; have c2 := HH1.out.ltD))
  all_goals
    have hA := HH1.out.below ((Below.refl w1.heap.size w1).alloc (Nat.le_refl _) (.cells #[.int .i64 n, .string t] 63))
    have hD := hA.pushed hn ht hf HO.out HG.out (by have := HA.out; simpa using this)
    have hon : Only d w (w1.alloc (.cells #[.int .i64 n, .string t] 63)) :=
      ⟨HB.out.os, HB.out.tape, HB.out.output, by have := HB.out.size; simp at this ⊢; omega, fun k hk hn => by
        have h1 : k < w1.heap.size := Nat.lt_of_lt_of_le hk HB.out.size
        rw [((Below.refl w1.heap.size w1).alloc (Nat.le_refl _) (.cells #[.int .i64 n, .string t] 63)).block k h1, HB.out.block k hk hn]; rfl⟩
    have hon2 := Only.pushed hon (v := .slice (some ⟨gg, 0, none⟩) (s.waits.length + 1) cap) HG.out
    have hfr : From d { d with wv := .slice (some ⟨gg, 0, none⟩) (s.waits.length + 1) cap } w := by
      rintro k (rfl | rfl | hk)
      · exact .inl (.inl rfl)
      · exact .inl (.inr (.inl rfl))
      · have : gg = k := by injection hk
        subst this
        rcases HA.out with h1 | h1
        · exact .inl (.inr (.inr h1))
        · right; have := HB.out.size; simp at this; omega
    have HD := hid hD; have HON := hid hon2; have HF := hid hfr
    clear hA hD hon hon2 hfr c1 c2 c3 c4 HO HG HA HB HH1
    generalize hv : (Value.slice (some ⟨gg, 0, none⟩) (s.waits.length + 1) cap) = v at HD HON HF ⊢
    clear hv
    generalize w2.setCell ⟨d.D, 1, none⟩ v = w3 at HD HON ⊢
    have cc := HD.out.cells
    have ff := HD.out.free 4
    have hwb := HD.out.good.writes
    have hwb1 := hwb.1
    have hwb2 := hwb.2
    have hd4 : Dsk (w3.setCell ⟨d.D, 4, none⟩ (.int .i64 ((pushS s n t).writes + 1))) { d with wv := v } (countW (pushS s n t)) :=
      HD.out.store 4 _ (countW (pushS s n t)) rfl rfl (countW_good HD.out.good hw) rfl
    have HD4 := hid hd4; clear hd4
    have HON4 := hid (HON.out.store 4 (.int .i64 ((pushS s n t).writes + 1)))
    clear hwb
    go_wp2_with (go_at_call 31; refine (burn_ok { d with wv := v } (countW (pushS s n t)) _ HD4.out).mono ?_; rintro e w4 ⟨rfl, hd5, hon5⟩; have HD5 := hid hd5; have HON5 := hid hon5; clear hd5 hon5)
    go_ret
    exact ⟨rfl, v, HD5.out, HON4.out.trans HF.out HON5.out, HF.out⟩

set_option maxHeartbeats 400000 in
theorem write_bad (d : Ptrs) (s : St) (n : Int) (t : ByteArray) (w : World) (h : Dsk w d s) (hb : n < 0 ∨ s.pages.length ≤ n ∨ t.size ≠ 256 ∨ s.fuse = 0) :
    Calls Try.prog 7 #[.pointer (some ⟨d.D, 0, none⟩), .int .i64 n, .string t] w fun e w' => e = .returned (.int .i64 1) ∧ w = w' := by
  have HH := hid h; clear h
  by_cases h1 : 0 ≤ n ∧ n < s.pages.length
  · have e1 : decide (0 ≤ n ∧ n < (s.pages.length : Int)) = true := by simpa using h1
    by_cases h2 : t.size = 256
    · have e2 : ((t.size : Int) != 256) = false := by simp; omega
      have e3 : (s.fuse == 0) = true := by simp; omega
      clear hb h1 h2
      go_enter Try.func7, Try.ntmps7
      go_wp2_with (first
        | (go_at_call 28; refine (has_ok d s n _ HH.out).mono ?_; rintro e w' ⟨rfl, rfl⟩)
        | (go_at_call 29; refine (dead_ok d s _ HH.out).mono ?_; rintro e w' ⟨rfl, rfl⟩))
      go_ret
      exact ⟨rfl, rfl⟩
    · have e2 : ((t.size : Int) != 256) = true := by simp; omega
      clear hb h1 h2
      go_enter Try.func7, Try.ntmps7
      go_wp2_with (first
        | (go_at_call 28; refine (has_ok d s n _ HH.out).mono ?_; rintro e w' ⟨rfl, rfl⟩)
        | (go_at_call 29; refine (dead_ok d s _ HH.out).mono ?_; rintro e w' ⟨rfl, rfl⟩))
      go_ret
      exact ⟨rfl, rfl⟩
  · have e1 : decide (0 ≤ n ∧ n < (s.pages.length : Int)) = false := by simpa using h1
    clear hb h1
    go_enter Try.func7, Try.ntmps7
    go_wp2_with (first
      | (go_at_call 28; refine (has_ok d s n _ HH.out).mono ?_; rintro e w' ⟨rfl, rfl⟩)
      | (go_at_call 29; refine (dead_ok d s _ HH.out).mono ?_; rintro e w' ⟨rfl, rfl⟩))
    go_ret
    exact ⟨rfl, rfl⟩
set_option maxHeartbeats 400000 in
theorem write_nil (n : Int) (t : ByteArray) (w : World) :
    Calls Try.prog 7 #[.pointer none, .int .i64 n, .string t] w fun e w' => e = .returned (.int .i64 1) ∧ w = w' := by
  go_enter Try.func7, Try.ntmps7
  go_wp2_with (go_at_call 28; refine (has_nil n _).mono ?_; rintro e w' ⟨rfl, rfl⟩)
  go_ret
  exact ⟨rfl, rfl⟩
end Go.Proofs.Ytjjplkfgihogkaa.Dk
