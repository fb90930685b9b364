/- Merged out of DkFlush, DkCome2, DkCrash, DkCrashNo, DkRead, DkBack. -/
import Derived.Test.YtgihpdhkjneimaaGreatDoorP06
import Derived.Deep.RegionHeld3
import Derived.StillTailTactics
import Derived.RangeFuncNested
import Derived.RangeFuncBound
import Derived.RangeFuncCalls
import Derived.RangeFuncLeaves
import Derived.Shelf.Abstract
import Derived.Shelf.RegionOpen
import Derived.WalkKit
import Derived.OwnWalkIn
import Derived.TacticsInMore
import Derived.LoopNIn
import Derived.LoopIn
/- Flush of disk: what it returns, and what the disk is behind it. -/
namespace Go.Proofs.YtgihpdhkjneimaaGreatDoor.Dk
open Go.RowKit
open Go.Lib (hid)

/-- writes that come to their pages -/
def applyW (pages : List ByteArray) (l : List (Nat × ByteArray)) : List ByteArray := l.foldl (fun p x => p.set x.1 x.2) pages
theorem applyW_length (pages : List ByteArray) (l : List (Nat × ByteArray)) : (applyW pages l).length = pages.length := by
  induction l generalizing pages with
  | nil => rfl
  | cons x l ih => show (applyW (pages.set x.1 x.2) l).length = _; rw [ih]; simp
theorem applyW_snoc (pages : List ByteArray) (l : List (Nat × ByteArray)) (x : Nat × ByteArray) : applyW pages (l ++ [x]) = (applyW pages l).set x.1 x.2 := by
  simp [applyW]
theorem applyW_sizes {pages : List ByteArray} {l : List (Nat × ByteArray)} (hp : ∀ p ∈ pages, p.size = 256) (hl : ∀ x ∈ l, x.2.size = 256) : ∀ p ∈ applyW pages l, p.size = 256 := by
  induction l generalizing pages with
  | nil => exact hp
  | cons x l ih =>
    apply ih
    · intro p hpm
      rcases List.mem_or_eq_of_mem_set hpm with h | h
      · exact hp p h
      · rw [h]; exact hl x (by simp)
    · intro y hy; exact hl y (by simp [hy])
/-- the disk with the first k writes at their pages -/
def partS (s : St) (k : Nat) : St := { s with pages := applyW s.pages (s.waits.take k) }
theorem part_good {s : St} (h : Good s) (k : Nat) : Good (partS s k) := by
  have e : (partS s k).pages.length = s.pages.length := applyW_length _ _
  refine ⟨by rw [e]; exact h.n1, by rw [e]; exact h.n2, ?_, fun x hx => by rw [e]; exact h.wait x hx, h.few, h.fuse, h.reads, h.writes, h.flushes⟩
  exact applyW_sizes h.sizes (fun x hx => (h.wait x (List.mem_of_mem_take hx)).2)

/-- what a write that waits reads as -/
theorem Dsk.wait {w : World} {d : Ptrs} {s : St} (h : Dsk w d s) {g n cap : Nat} (hv : d.wv = .slice (some ⟨g, 0, none⟩) n cap) (k : Nat) (hk : k < s.waits.length) :
    w.cell? ⟨g, k * 2, none⟩ = some (.int .i64 (s.waits[k].1 : Int)) ∧ w.cell? ⟨g, k * 2 + 1, none⟩ = some (.string s.waits[k].2) := by
  have hc := h.waits.cells (g := g) (by rw [hv]; rfl)
  have hat : ∀ (l : List (Nat × ByteArray)) (k : Nat) (hk : k < l.length), (wcells l)[k * 2]? = some (.int .i64 (l[k].1 : Int)) ∧ (wcells l)[k * 2 + 1]? = some (.string l[k].2) := by
    intro l
    induction l with
    | nil => intro k hk; simp at hk
    | cons x l ih =>
      intro k hk
      have e : wcells (x :: l) = .int .i64 (x.1 : Int) :: .string x.2 :: wcells l := rfl
      rw [e]
      cases k with
      | zero => simp
      | succ k =>
        have := ih k (by simpa using hk)
        rw [show (k + 1) * 2 = k * 2 + 1 + 1 by omega, show k * 2 + 1 + 1 + 1 = k * 2 + 1 + 1 + 1 from rfl]
        simpa using this
  have hadd : ∀ j, (⟨g, 0, none⟩ : Addr).add j = ⟨g, j, none⟩ := fun j => by unfold Addr.add; split <;> simp_all
  obtain ⟨h1, h2⟩ := hat s.waits k hk
  have c1 := hc _ _ h1
  have c2 := hc _ _ h2
  rw [hadd] at c1 c2
  exact ⟨c1, c2⟩

/-- a page is stored -/
theorem Dsk.putPage {w : World} {d : Ptrs} {s : St} (h : Dsk w d s) (i : Nat) (t : ByteArray) (s' : St) (hp : s'.pages = s.pages.set i t) (hw : s'.waits = s.waits) (hf : s'.fuse = s.fuse) (hr : s'.reads = s.reads) (hwr : s'.writes = s.writes) (hfl : s'.flushes = s.flushes) (hg : Good s') :
    Dsk (w.setCell ⟨d.P, i, none⟩ (.string t)) d s' := by
  obtain ⟨cur, hc, hsz, hle, hmx, htk⟩ := h.pages
  have hlen : s'.pages.length = s.pages.length := by rw [hp]; simp
  refine ⟨?_, ⟨cur.setIfInBounds i (.string t), ?_, by simpa using hsz, by rw [hlen]; exact hle, hmx, ?_⟩, ?_, h.dp, h.dw, h.pw, hg⟩
  · rw [heap_setCell_other _ _ _ _ h.dp, h.head, hlen, hf, hr, hwr, hfl]
  · exact heap_setCell_same _ _ _ _ _ _ hc
  · rw [hlen, hp]
    rw [Array.toList_setIfInBounds, List.take_set, htk]
    simp [sv, List.map_set]
  · rw [hw]
    refine ⟨h.waits.1, ?_⟩
    rcases h.waits.2 with hn | ⟨g, cap, cur', hv, hb0, hg', rest⟩
    · exact .inl hn
    · refine .inr ⟨g, cap, cur', hv, hb0, ?_, rest⟩
      rw [heap_setCell_other _ _ _ _ (fun e => h.pw (by rw [hv, e]; rfl))]; exact hg'
theorem Only.putPage {d : Ptrs} {w w1 : World} (h : Only d w w1) (i : Nat) (v : Value) : Only d w (w1.setCell ⟨d.P, i, none⟩ v) :=
  ⟨h.os, h.tape, h.output, by rw [World.size_setCell]; exact h.size, fun k hk hn => by rw [heap_setCell_other _ _ _ _ (fun e => hn (.inr (.inl e))), h.block k hk hn]⟩
theorem Only.drew {d : Ptrs} {w w1 : World} (h : Only d w w1) : Only d w w1.drew := ⟨h.os, h.tape, h.output, h.size, h.block⟩
theorem Only.alloc {d : Ptrs} {w w1 : World} (h : Only d w w1) (o : Obj) : Only d w (w1.alloc o) :=
  ⟨h.os, h.tape, h.output, by have := h.size; simp; omega, fun k hk hn => by rw [Below.heap_alloc w1 o k (Nat.lt_of_lt_of_le hk h.size), h.block k hk hn]⟩
theorem Dsk.alloc {w : World} {d : Ptrs} {s : St} (h : Dsk w d s) (o : Obj) : Dsk (w.alloc o) d s := h.below ((Below.refl _ _).alloc (Nat.le_refl _) o)
theorem part_more (s : St) (k : Nat) (hk : k < s.waits.length) : (partS s (k + 1)).pages = (partS s k).pages.set s.waits[k].1 s.waits[k].2 := by
  show applyW s.pages (s.waits.take (k + 1)) = _
  rw [List.take_succ_eq_append_getElem hk, applyW_snoc]; rfl

def countF (s : St) : St := { s with flushes := s.flushes + 1 }
def flushS (s : St) : St := noWaits (burnS (countF (partS s s.waits.length)))
theorem countF_good {s : St} (h : Good s) (hw : s.flushes < 1000000) : Good (countF s) := by
  refine ⟨h.n1, h.n2, h.sizes, h.wait, h.few, h.fuse, h.reads, h.writes, ?_⟩
  have := h.flushes
  show 0 ≤ s.flushes + 1 ∧ s.flushes + 1 ≤ 1000000
  omega

set_option maxRecDepth 100000 in
set_option maxHeartbeats 1000000 in
theorem flush_some (d : Ptrs) (s : St) (w : World) (h : Dsk w d s) (hn : 0 < s.waits.length) (hfz : s.fuse ≠ 0) (hfl : s.flushes < 1000000) :
    Calls Tryz.prog 91 #[.pointer (some ⟨d.D, 0, none⟩)] w fun e w' => e = .returned (.int .i64 (s.waits.length : Int)) ∧ ∃ v, Dsk w' { d with wv := v } (flushS s) ∧ Only d w w' ∧ From d { d with wv := v } w := by
  rcases h.waits.2 with ⟨_, h0⟩ | ⟨g, cap, cur, hv, _, hg, hle, hcap, hsz, _⟩
  · omega
  · have c := h.cells
    rw [hv] at c
    have e3 : (s.fuse == 0) = false := by simpa using hfz
    have hfew := h.good.few
    have HV := hid hv
    have HH := hid h
    clear hg hsz hle hcap h hv
    go_enter Tryz.func91, Tryz.ntmps91
    go_wp2_with (go_at_call 124; refine (dead_ok d s _ HH.out).mono ?_; rintro e w' ⟨rfl, rfl⟩)
    clear c
    go_loopw [16] (fun i wr => ∃ k : Nat, k ≤ s.waits.length ∧ i = .int .i64 k ∧ Dsk wr d (partS s k) ∧ Only d w wr) (fun i _ => s.waits.length - (intOf i).toNat)
    case atStart => exact ⟨0, by omega, rfl, HH.out, Only.refl _ _⟩
    case round =>
      obtain ⟨k, hk, rfl, hD, hO⟩ := hrel
      have HD := hid hD; have HO := hid hO; clear hD hO
      by_cases hlt : k < s.waits.length
      · obtain ⟨x, hx⟩ : ∃ x, s.waits[k].1 = x := ⟨_, rfl⟩
        obtain ⟨t, ht⟩ : ∃ t, s.waits[k].2 = t := ⟨_, rfl⟩
        have cw : wr.cell? ⟨g, k * 2, none⟩ = some (.int .i64 (x : Int)) ∧ wr.cell? ⟨g, k * 2 + 1, none⟩ = some (.string t) := by
          have := HD.out.wait HV.out k hlt
          rw [← hx, ← ht]; exact this
        have hxl : x < (partS s k).pages.length := by
          have := (HH.out.good.wait s.waits[k] (List.getElem_mem hlt)).1
          rw [hx] at this
          show x < (applyW s.pages _).length
          rw [applyW_length]; exact this
        have hmore := part_more s k hlt
        rw [hx, ht] at hmore
        have HM := hid hmore; clear hmore hx ht
        have c1 := (HD.out.alloc (.cells #[.int .i64 (x : Int), .string t] 99)).cells.1
        have c2 := (HD.out.alloc (.cells #[.int .i64 (x : Int), .string t] 99)).page x hxl
        have f2 := (HD.out.alloc (.cells #[.int .i64 (x : Int), .string t] 99)).pfree x
        have hpl : (partS s k).pages.length ≤ 1000 := (part_good HH.out.good k).n2
        have hd2 := (HD.out.alloc (.cells #[.int .i64 (x : Int), .string t] 99)).drew.putPage x t (partS s (k + 1)) HM.out rfl rfl rfl rfl rfl (part_good HH.out.good (k + 1))
        have ho2 := ((HO.out.alloc (.cells #[.int .i64 (x : Int), .string t] 99)).putPage x (.string t))
        have HD2 := hid hd2; have HO2 := hid ho2; clear hd2 ho2
        go_wp2_with fail
        have b0 : (wr.alloc (.cells #[.int .i64 (x : Int), .string t] 99)).cell? ⟨wr.heap.size, 0, none⟩ = some (.int .i64 (x : Int)) := by rw [cell_of_row _ _ _ _ _ _ (heap_alloc_new _ _)]; rfl
        have b1 : (wr.alloc (.cells #[.int .i64 (x : Int), .string t] 99)).cell? ⟨wr.heap.size, 1, none⟩ = some (.string t) := by rw [cell_of_row _ _ _ _ _ _ (heap_alloc_new _ _)]; rfl
        clear cw
        generalize wr.heap.size = X at b0 b1 ⊢
        generalize wr.alloc (.cells #[.int .i64 (x : Int), .string t] 99) = w1 at HD2 HO2 c1 c2 f2 b0 b1 ⊢
        go_still_tail 9, (by kernel_rfl)
        change wpList _ _ _ _ _ w1.drew
        go_wp2_with fail
        go_roundw
        case rel => exact ⟨k + 1, by omega, by go_num, HD2.out, HO2.out.drew⟩
        case measure => simp [intOf]; omega
      · obtain rfl : k = s.waits.length := by omega
        have cc := HD.out.cells
        have ff := HD.out.free 5
        have hwb := HD.out.good.flushes
        have hwb1 := hwb.1
        have hwb2 := hwb.2
        have hd5 : Dsk (wr.setCell ⟨d.D, 5, none⟩ (.int .i64 ((partS s s.waits.length).flushes + 1))) d (countF (partS s s.waits.length)) :=
          HD.out.store 5 _ (countF (partS s s.waits.length)) rfl rfl (countF_good HD.out.good hfl) rfl
        have HD5 := hid hd5; clear hd5
        have HO5 := hid (HO.out.store 5 (.int .i64 ((partS s s.waits.length).flushes + 1)))
        clear hwb
        go_wp2_with (first
          | (go_at_call 125; refine (burn_ok d (countF (partS s s.waits.length)) _ HD5.out).mono ?_; rintro e w4 ⟨rfl, hd6, ho6⟩; have HD6 := hid hd6; have HO6 := hid (HO5.out.trans (From.refl _ _) ho6); clear hd6 ho6)
          | (go_at_call 60; refine (forget_some d (burnS (countF (partS s s.waits.length))) _ HD6.out hn).mono ?_; rintro e w5 ⟨rfl, v, hd7, ho7, hf7⟩; have HD7 := hid hd7; have HO7 := hid (HO6.out.trans (From.refl _ _) ho7); have HF7 := hid hf7; have HS6 := hid HO6.out.size; clear hd7 ho7 hf7))
        go_ret
        exact ⟨rfl, v, HD7.out, HO7.out, (From.refl _ _).trans HF7.out HS6.out⟩

theorem part_none (s : St) (hn : s.waits = []) : partS s s.waits.length = s := by
  unfold partS; rw [hn]; cases s; simp_all [applyW]
set_option maxHeartbeats 1000000 in
theorem flush_none (d : Ptrs) (s : St) (w : World) (h : Dsk w d s) (hn : s.waits = []) (hfz : s.fuse ≠ 0) (hfl : s.flushes < 1000000) :
    Calls Tryz.prog 91 #[.pointer (some ⟨d.D, 0, none⟩)] w fun e w' => e = .returned (.int .i64 0) ∧ ∃ v, Dsk w' { d with wv := v } (flushS s) ∧ Only d w w' ∧ From d { d with wv := v } w := by
  have e3 : (s.fuse == 0) = false := by simpa using hfz
  have hwb1 := h.good.flushes.1
  have hwb2 := h.good.flushes.2
  have hd5 : Dsk (w.setCell ⟨d.D, 5, none⟩ (.int .i64 (s.flushes + 1))) d (countF s) := h.store 5 _ (countF s) rfl rfl (countF_good h.good hfl) rfl
  have HD5 := hid hd5; clear hd5
  have HO5 := hid ((Only.refl d w).store 5 (.int .i64 (s.flushes + 1)))
  have HE := hid (part_none s hn)
  have HN := hid hn
  have ff := h.free 5
  have c := h.cells
  have hown := h.waits
  rw [hn] at hown
  have HH := hid h
  have hvv : d.wv = .slice none 0 0 ∨ ∃ g cap, d.wv = .slice (some ⟨g, 0, none⟩) 0 cap := by
    rcases hown.2 with ⟨hv, _⟩ | ⟨g, cap, cur, hv, _⟩
    · exact .inl hv
    · exact .inr ⟨g, cap, hv⟩
  clear hown h hn
  rcases hvv with hv | ⟨g, cap, hv⟩
  · rw [hv] at c
    clear hv
    go_enter Tryz.func91, Tryz.ntmps91
    go_wp2_with (first
      | (go_at_call 124; refine (dead_ok d s _ HH.out).mono ?_; rintro e w' ⟨rfl, rfl⟩))
    go_loopw [16] (fun i wr => i = .int .i64 0 ∧ wr = w) (fun _ _ => 0)
    case atStart => exact ⟨rfl, rfl⟩
    case round =>
      obtain ⟨rfl, rfl⟩ := hrel
      go_wp2_with (first
        | (go_at_call 125; refine (burn_ok d (countF s) _ HD5.out).mono ?_; rintro e w4 ⟨rfl, hd6, ho6⟩; have HD6 := hid hd6; have HO6 := hid (HO5.out.trans (From.refl _ _) ho6); clear hd6 ho6)
        | (go_at_call 60; refine (forget_none d (burnS (countF s)) _ HD6.out HN.out).mono ?_; rintro e w5 ⟨rfl, v, hd7, ho7, hf7⟩; have HD7 := hid hd7; have HO7 := hid (HO6.out.trans (From.refl _ _) ho7); have HF7 := hid hf7; have HS6 := hid HO6.out.size; clear hd7 ho7 hf7))
      go_ret
      exact ⟨rfl, v, by unfold flushS; rw [HE.out]; exact HD7.out, HO7.out, (From.refl _ _).trans HF7.out HS6.out⟩
  · rw [hv] at c
    clear hv
    go_enter Tryz.func91, Tryz.ntmps91
    go_wp2_with (first
      | (go_at_call 124; refine (dead_ok d s _ HH.out).mono ?_; rintro e w' ⟨rfl, rfl⟩))
    go_loopw [16] (fun i wr => i = .int .i64 0 ∧ wr = w) (fun _ _ => 0)
    case atStart => exact ⟨rfl, rfl⟩
    case round =>
      obtain ⟨rfl, rfl⟩ := hrel
      go_wp2_with (first
        | (go_at_call 125; refine (burn_ok d (countF s) _ HD5.out).mono ?_; rintro e w4 ⟨rfl, hd6, ho6⟩; have HD6 := hid hd6; have HO6 := hid (HO5.out.trans (From.refl _ _) ho6); clear hd6 ho6)
        | (go_at_call 60; refine (forget_none d (burnS (countF s)) _ HD6.out HN.out).mono ?_; rintro e w5 ⟨rfl, v, hd7, ho7, hf7⟩; have HD7 := hid hd7; have HO7 := hid (HO6.out.trans (From.refl _ _) ho7); have HF7 := hid hf7; have HS6 := hid HO6.out.size; clear hd7 ho7 hf7))
      go_ret
      exact ⟨rfl, v, by unfold flushS; rw [HE.out]; exact HD7.out, HO7.out, (From.refl _ _).trans HF7.out HS6.out⟩
theorem flush_ok (d : Ptrs) (s : St) (w : World) (h : Dsk w d s) (hfz : s.fuse ≠ 0) (hfl : s.flushes < 1000000) :
    Calls Tryz.prog 91 #[.pointer (some ⟨d.D, 0, none⟩)] w fun e w' => e = .returned (.int .i64 (s.waits.length : Int)) ∧ ∃ v, Dsk w' { d with wv := v } (flushS s) ∧ Only d w w' ∧ From d { d with wv := v } w := by
  by_cases hn : s.waits = []
  · have := flush_none d s w h hn hfz hfl
    rw [hn]; exact this
  · exact flush_some d s w h (by have := List.length_pos_iff.2 hn; omega) hfz hfl
set_option maxHeartbeats 400000 in
theorem flush_dead (d : Ptrs) (s : St) (w : World) (h : Dsk w d s) (hfz : s.fuse = 0) :
    Calls Tryz.prog 91 #[.pointer (some ⟨d.D, 0, none⟩)] w fun e w' => e = .returned (.int .i64 0) ∧ w = w' := by
  have e3 : (s.fuse == 0) = true := by simpa using hfz
  have HH := hid h; clear h hfz
  go_enter Tryz.func91, Tryz.ntmps91
  go_wp2_with (go_at_call 124; refine (dead_ok d s _ HH.out).mono ?_; rintro e w' ⟨rfl, rfl⟩)
  go_ret
  exact ⟨rfl, rfl⟩
set_option maxHeartbeats 400000 in
theorem flush_nil (w : World) :
    Calls Tryz.prog 91 #[.pointer none] w fun e w' => e = .returned (.int .i64 0) ∧ w = w' := by
  go_enter Tryz.func91, Tryz.ntmps91
  go_wp2_with fail
  go_ret
  exact ⟨rfl, rfl⟩
end Go.Proofs.YtgihpdhkjneimaaGreatDoor.Dk

/- come of disk: with which bytes each of the writes that wait comes to its page. -/
namespace Go.Proofs.YtgihpdhkjneimaaGreatDoor.Dk
open Go.RowKit
open Go.Lib (hid)

/-- the text of a write that waits -/
def textAt (s : St) (i : Nat) : ByteArray := (s.waits.getD i (0, emptyB)).2
/-- the writes that are kept, one after the other -/
def keepL (s : St) : List Int → List ByteArray → Option (List ByteArray)
  | [], o => some o
  | i :: r, o => if freeB o i then keepL s r (o.set i.toNat (textAt s i.toNat)) else none
theorem keepL_app (s : St) (a b : List Int) (o : List ByteArray) : keepL s (a ++ b) o = (keepL s a o).bind (keepL s b) := by
  induction a generalizing o with
  | nil => rfl
  | cons i r ih =>
    simp only [List.cons_append, keepL]
    by_cases h : freeB o i = true
    · rw [if_pos h, if_pos h, ih]
    · rw [if_neg h, if_neg h]; rfl
theorem keepL_length (s : St) (a : List Int) (o o' : List ByteArray) (h : keepL s a o = some o') : o'.length = o.length := by
  induction a generalizing o with
  | nil => simp only [keepL] at h; injection h with h; rw [h]
  | cons i r ih =>
    simp only [keepL] at h
    by_cases hf : freeB o i = true
    · rw [if_pos hf] at h; rw [ih _ h, List.length_set]
    · rw [if_neg hf] at h; cases h
theorem keepL_more (s : St) (ks : List Int) (k : Nat) (o0 o : List ByteArray) (hk : k < ks.length) (h : keepL s (ks.take k) o0 = some o) (hf : freeB o ks[k] = true) :
    keepL s (ks.take (k + 1)) o0 = some (o.set ks[k].toNat (textAt s ks[k].toNat)) := by
  rw [List.take_succ_eq_append_getElem hk, keepL_app, h]
  show keepL s [ks[k]] o = _
  simp only [keepL]; rw [if_pos hf]
theorem keepL_stop (s : St) (ks : List Int) (k : Nat) (o0 o : List ByteArray) (hk : k < ks.length) (h : keepL s (ks.take k) o0 = some o) (hf : freeB o ks[k] = false) :
    keepL s ks o0 = none := by
  have e : ks = ks.take k ++ (ks[k] :: ks.drop (k + 1)) := by rw [← List.drop_eq_getElem_cons hk, List.take_append_drop]
  rw [e, keepL_app, h]
  show keepL s (ks[k] :: ks.drop (k + 1)) o = _
  simp only [keepL]; rw [if_neg (by rw [hf]; simp)]
theorem freeB_lt {o : List ByteArray} {i : Int} (h : freeB o i = true) : 0 ≤ i ∧ i < o.length := by
  unfold freeB at h
  simp only [Bool.and_eq_true, decide_eq_true_eq] at h
  exact ⟨h.1, h.2.1⟩

/-- no write comes so far -/
def none0 (s : St) : List ByteArray := List.replicate s.waits.length emptyB
theorem smake2 (n : Nat) (h : n ≤ 1000000) (w : World) :
    (Instr.makeSlice 43 (.int .i64 (n : Int)) (.int .i64 (n : Int))).run Tryz.prog w = .ok (.slice (some ⟨w.heap.size, 0, none⟩) n n) (w.alloc (.cells (sv (List.replicate n emptyB)).toArray 9)) := by
  obtain ⟨i, hi, hz, hs, hb⟩ := info_parts info9
  have := run_makeSlice (P := Tryz.prog) (w := w) 43 9 i (.string ⟨#[]⟩) Tryz.underlying43 hi hz .i64 .i64 n n (by omega) (by omega) (by rw [hs]; omega) (by rw [hb]; omega) (by omega)
  rw [this]
  have e : madeCells (Value.string ⟨#[]⟩).cells (n * 1) = (sv (List.replicate n emptyB)).toArray := by
    apply Array.ext
    · simp [madeCells, sv]
    · intro i h1 h2
      simp [madeCells, Value.cells, Nat.mod_one, sv, emptyB]
  simp only [Int.toNat_natCast, hs, e]

/-- one of the texts is laid -/
theorem Outs.set {w : World} {A g : Nat} {o : List ByteArray} (h : Outs w A g o) (hne : A ≠ g) (i : Nat) (t : ByteArray) : Outs (w.setCell ⟨g, i, none⟩ (.string t)) A g (o.set i t) := by
  refine ⟨?_, ?_⟩
  · rw [heap_setCell_other _ _ _ _ hne, List.length_set]; exact h.slot
  · rw [heap_setCell_same _ _ _ _ _ _ h.row]
    congr 2
    rw [List.setIfInBounds_toArray]
    simp [sv, List.map_set]

def tornB (t : ByteArray) (a : Nat) : ByteArray := ⟨(Pg.tornL t.data.toList a).toArray⟩
/-- with which bytes each write comes; none, if the crash is refused -/
def comeS (s : St) (ks : List Int) (torn a : Int) : Option (List ByteArray) :=
  match keepL s ks (none0 s) with
  | none => none
  | some o => if torn = -1 then some o else if freeB o torn = true then (if 0 ≤ a ∧ a ≤ 256 then some (o.set torn.toNat (tornB (textAt s torn.toNat) a.toNat)) else none) else none
def ComePost (s : St) (r : Option (List ByteArray)) (w : World) (e : Ending) (w' : World) : Prop :=
  Below w.heap.size w w' ∧ match r with
    | none => ∃ v, e = .returned (.tuple #[v, .bool false])
    | some o => ∃ g, w.heap.size ≤ g ∧ e = .returned (.tuple #[.slice (some ⟨g, 0, none⟩) o.length o.length, .bool true]) ∧ w'.heap[g]? = some (.cells (sv o).toArray 9 (0, 0)) ∧ o.length = s.waits.length

theorem outs_start (w : World) (o : List ByteArray) (n : Nat) (hn : o.length = n) :
    Outs ((w.alloc (.cells (sv o).toArray 9)).alloc (.cells #[.slice (some ⟨w.heap.size, 0, none⟩) n n] 43)) (w.heap.size + 1) w.heap.size o := by
  subst hn
  have hs : (w.alloc (.cells (sv o).toArray 9)).heap.size = w.heap.size + 1 := by simp
  refine ⟨?_, ?_⟩
  · have := heap_alloc_new (w.alloc (.cells (sv o).toArray 9)) (.cells #[.slice (some ⟨w.heap.size, 0, none⟩) o.length o.length] 43)
    rw [hs] at this; exact this
  · rw [Below.heap_alloc _ _ _ (by rw [hs]; omega)]; exact heap_alloc_new _ _
theorem textAt_of (s : St) (j : Nat) (hj : j < s.waits.length) : textAt s j = s.waits[j].2 := by simp [textAt, List.getD, hj]

/-- the indices that are kept, as they stand in memory -/
def Kept (w : World) (q : Option Addr) (ks : List Int) : Prop := ∀ j, (hj : j < ks.length) → ∃ b off, q = some ⟨b, off, none⟩ ∧ b < w.heap.size ∧ w.cell? ⟨b, off + j, none⟩ = some (.int .i64 ks[j])
/-- where the waits stand, if there are any -/
theorem Dsk.waitsAt {w : World} {d : Ptrs} {s : St} (h : Dsk w d s) : ∃ p cap, d.wv = .slice p s.waits.length cap := by
  rcases h.waits.2 with ⟨hv, h0⟩ | ⟨g, cap, cur, hv, _⟩
  · exact ⟨none, 0, by rw [hv, h0]⟩
  · exact ⟨_, cap, hv⟩
theorem Dsk.someAt {w : World} {d : Ptrs} {s : St} (h : Dsk w d s) {p : Option Addr} {cap : Nat} (hv : d.wv = .slice p s.waits.length cap) (hn : 0 < s.waits.length) : ∃ gw, p = some ⟨gw, 0, none⟩ := by
  rcases h.waits.2 with ⟨_, h0⟩ | ⟨g, cap', cur, hv', _⟩
  · omega
  · rw [hv] at hv'; injection hv' with h1; exact ⟨g, h1⟩

set_option maxRecDepth 100000 in
set_option maxHeartbeats 3200000 in
theorem come_A (d : Ptrs) (s : St) (w : World) (h : Dsk w d s) (p : Option Addr) (cap : Nat) (hv : d.wv = .slice p s.waits.length cap) (q : Option Addr) (c : Nat) (ks : List Int)
    (hks : Kept w q ks) (hkm : ks.length ≤ maxLen) (torn a : Int) :
    Calls Tryz.prog 59 #[.pointer (some ⟨d.D, 0, none⟩), .slice q ks.length c, .int .i64 torn, .int .i64 a] w fun e w' => ComePost s (comeS s ks torn a) w e w' := by
  unfold maxLen at hkm
  have hm := smake2 s.waits.length h.good.few w
  have cc := h.cells
  rw [hv] at cc
  have hfew := h.good.few
  have HH := hid h
  have HV := hid hv
  have HKS := hid hks
  clear h hv hks
  go_enter Tryz.func59, Tryz.ntmps59
  go_wp2_with fail
  go_loopw [25] (fun i wr => ∃ k : Nat, k ≤ ks.length ∧ i = .int .i64 k ∧ ∃ o : List ByteArray, keepL s (ks.take k) (none0 s) = some o ∧ o.length = s.waits.length ∧ Outs wr (w.heap.size + 1) w.heap.size o ∧ Below w.heap.size w wr) (fun i _ => ks.length - (intOf i).toNat)
  case atStart => exact ⟨0, by omega, rfl, none0 s, rfl, by simp [none0], outs_start w _ _ (by simp), ((Below.refl _ _).alloc (Nat.le_refl _) _).alloc (by simp) _⟩
  case round =>
    obtain ⟨k, hk, rfl, o, hkeep, hol, hO, hB⟩ := hrel
    have HK := hid hkeep; have HO := hid hO; have HB := hid hB; have HL := hid hol; clear hkeep hO hB hol hm cc
    have hlen := HL.out
    have HD := hid (HH.out.below HB.out)
    have c2 := HD.out.cells.2.1
    rw [HV.out] at c2
    have c1 := HO.out.ptr
    rw [hlen] at c1
    by_cases hlt : k < ks.length
    · obtain ⟨i, hi⟩ : ∃ i, ks[k] = i := ⟨_, rfl⟩
      obtain ⟨b, off, rfl, hbw, hck⟩ := HKS.out k hlt
      have ck : wr.cell? ⟨b, off + k, none⟩ = some (.int .i64 i) := by rw [HB.out.cell (by exact hbw), hck, hi]
      clear hck hbw
      cases hf : freeB o i
      · have FT : Hid (Calls Tryz.prog 98 #[.int .i64 i, .pointer (some ⟨w.heap.size + 1, 0, none⟩)] wr fun e w' => e = .returned (.bool false) ∧ wr = w') := hid (by rw [← hf]; exact free_ok _ _ o i wr HO.out)
        have HN : Hid (comeS s ks torn a = none) := hid (by unfold comeS; rw [keepL_stop s ks k _ o hlt HK.out (by rw [hi]; exact hf)])
        clear hf hi hlen
        go_wp2_with (go_at_call 98; refine FT.out.mono ?_; rintro e w' ⟨rfl, rfl⟩)
        go_ret2
        rw [HN.out]
        exact ⟨HB.out, _, rfl⟩
      · obtain ⟨j, rfl⟩ := Int.eq_ofNat_of_zero_le (freeB_lt hf).1
        have hj : j < o.length := by have := (freeB_lt hf).2; omega
        have hjw : j < s.waits.length := by omega
        obtain ⟨gw, rfl⟩ := HH.out.someAt HV.out (by omega)
        obtain ⟨t, ht⟩ : ∃ t, s.waits[j].2 = t := ⟨_, rfl⟩
        have FT : Hid (Calls Tryz.prog 98 #[.int .i64 (j : Int), .pointer (some ⟨w.heap.size + 1, 0, none⟩)] wr fun e w' => e = .returned (.bool true) ∧ wr = w') := hid (by rw [← hf]; exact free_ok _ _ o j wr HO.out)
        have HM : Hid (keepL s (ks.take (k + 1)) (none0 s) = some (o.set j t)) := hid (by
          have := keepL_more s ks k _ o hlt HK.out (by rw [hi]; exact hf)
          rw [hi, Int.toNat_natCast, textAt_of s j hjw, ht] at this; exact this)
        have cw : wr.cell? ⟨gw, j * 2 + 1, none⟩ = some (.string t) := by
          have := (HD.out.wait HV.out j hjw).2
          rw [ht] at this; exact this
        have co := HO.out.cell j hj
        have fo := HO.out.free j
        generalize o[j] = u at co
        clear hf hi hlen ht hj
        go_wp2_with (go_at_call 98; refine FT.out.mono ?_; rintro e w' ⟨rfl, rfl⟩)
        go_still_tail 11, (by kernel_rfl)
        change wpList _ _ _ _ _ wr.drew
        go_wp2_with fail
        go_roundw
        case rel => exact ⟨k + 1, by omega, by go_num, o.set j t, HM.out, by rw [List.length_set]; exact HL.out, HO.out.drew.set (by omega) j t, HB.out.drew.setCell (Nat.le_refl _) _⟩
        case measure => simp [intOf]; omega
    · obtain rfl : k = ks.length := by omega
      have hall : keepL s ks (none0 s) = some o := by have := HK.out; rwa [List.take_length] at this
      by_cases ht1 : torn = -1
      · subst ht1
        have HN : Hid (comeS s ks (-1) a = some o) := hid (by unfold comeS; rw [hall]; rfl)
        clear hall hlen
        go_wp2_with fail
        go_ret2
        rw [HN.out]
        exact ⟨HB.out, w.heap.size, Nat.le_refl _, by rw [HL.out]; rfl, HO.out.row, HL.out⟩
      · have e1 : (torn == -1) = false := by simpa using ht1
        cases hf : freeB o torn
        · have FT : Hid (Calls Tryz.prog 98 #[.int .i64 torn, .pointer (some ⟨w.heap.size + 1, 0, none⟩)] wr fun e w' => e = .returned (.bool false) ∧ wr = w') := hid (by rw [← hf]; exact free_ok _ _ o torn wr HO.out)
          have HN : Hid (comeS s ks torn a = none) := hid (by unfold comeS; rw [hall]; show (if torn = -1 then _ else _) = _; rw [if_neg ht1, if_neg (by rw [hf]; simp)])
          clear hf hall hlen ht1
          go_wp2_with (go_at_call 98; refine FT.out.mono ?_; rintro e w' ⟨rfl, rfl⟩)
          go_ret2
          rw [HN.out]
          exact ⟨HB.out, _, rfl⟩
        · obtain ⟨j, rfl⟩ := Int.eq_ofNat_of_zero_le (freeB_lt hf).1
          have hj : j < o.length := by have := (freeB_lt hf).2; omega
          have hjw : j < s.waits.length := by omega
          have HJ := hid hj
          obtain ⟨gw, rfl⟩ := HH.out.someAt HV.out (by omega)
          obtain ⟨t, ht⟩ : ∃ t, s.waits[j].2 = t := ⟨_, rfl⟩
          have HT : Hid (t.size = 256) := hid (by rw [← ht]; exact (HH.out.good.wait _ (List.getElem_mem hjw)).2)
          have FT : Hid (Calls Tryz.prog 98 #[.int .i64 (j : Int), .pointer (some ⟨w.heap.size + 1, 0, none⟩)] wr fun e w' => e = .returned (.bool true) ∧ wr = w') := hid (by rw [← hf]; exact free_ok _ _ o j wr HO.out)
          have cw : wr.cell? ⟨gw, j * 2 + 1, none⟩ = some (.string t) := by
            have := (HD.out.wait HV.out j hjw).2
            rw [ht] at this; exact this
          by_cases ha : 0 ≤ a ∧ a ≤ 256
          · obtain ⟨m, rfl⟩ := Int.eq_ofNat_of_zero_le ha.1
            have HN : Hid (comeS s ks j m = some (o.set j (tornB t m))) := hid (by
              unfold comeS; rw [hall]; show (if (j : Int) = -1 then _ else _) = _
              rw [if_neg ht1, if_pos hf, if_pos ha, Int.toNat_natCast, Int.toNat_natCast, textAt_of s j hjw, ht])
            have HA : Hid (m ≤ 256) := hid (by omega)
            obtain ⟨tt, htt⟩ : ∃ tt, tornB t m = tt := ⟨_, rfl⟩
            have HTT := hid htt
            have FTORN : Hid (∀ w0 : World, Calls Tryz.prog 99 #[.string t, .int .i64 (m : Int)] w0 fun e w' => e = .returned (.tuple #[.string tt, .int .i64 0]) ∧ Below w0.heap.size w0 w') := hid (fun w0 => by rw [← htt]; exact Pg.torn_yes t m w0 HT.out HA.out)
            clear hf hall hlen ht1 ht ha htt
            go_wp2_with (first
              | (go_at_call 98; refine FT.out.mono ?_; rintro e w' ⟨rfl, rfl⟩)
              | (go_at_call 99; refine (FTORN.out _).mono ?_; rintro e w4 ⟨rfl, hb4⟩; have HO4 := hid (HO.out.below hb4); have c41 := HO4.out.ptr; rw [HL.out] at c41; have co4 := HO4.out.cell j HJ.out; have fo4 := HO4.out.free j; have hO5 := HO4.out.set (by omega) j tt; have HO5 := hid hO5; have c5 := HO5.out.ptr; rw [List.length_set, HL.out] at c5; have HB4 := hid (HB.out.trans (hb4.mono HB.out.size)); clear hb4 hO5))
            go_ret2
            rw [HN.out, HTT.out]
            exact ⟨HB4.out.setCell (Nat.le_refl _) _, w.heap.size, Nat.le_refl _, by rw [List.length_set, HL.out]; rfl, HO5.out.row, by rw [List.length_set]; exact HL.out⟩
          · have HN : Hid (comeS s ks j a = none) := hid (by
              unfold comeS; rw [hall]; show (if (j : Int) = -1 then _ else _) = _
              rw [if_neg ht1, if_pos hf, if_neg ha])
            have HA : Hid (a < 0 ∨ 256 < a) := hid (by omega)
            have c1' := (HO.out.set (by omega) j (⟨#[]⟩ : ByteArray)).ptr
            rw [List.length_set, hlen] at c1'
            have co := HO.out.cell j hj
            have fo := HO.out.free j
            generalize o[j] = u at co
            clear hf hall hlen ht1 ht ha hj
            go_wp2_with (first
              | (go_at_call 98; refine FT.out.mono ?_; rintro e w' ⟨rfl, rfl⟩)
              | (go_at_call 99; refine (Pg.torn_no t a _ (.inr HA.out)).mono ?_; rintro e w4 ⟨rfl, rfl⟩))
            go_ret2
            rw [HN.out]
            exact ⟨HB.out.setCell (Nat.le_refl _) _, _, rfl⟩
end Go.Proofs.YtgihpdhkjneimaaGreatDoor.Dk

/- Crash of disk. -/
namespace Go.Proofs.YtgihpdhkjneimaaGreatDoor.Dk
open Go.RowKit
open Go.Lib (hid)

theorem emptyB_nil : emptyB.toList.isEmpty = true := by
  rw [← decide_eq_emptyBytes]; exact decide_eq_true rfl
/-- the pages when the first k of the writes have come, each with its bytes, where it has any -/
def crashP (s : St) (o : List ByteArray) : Nat → List ByteArray
  | 0 => s.pages
  | k + 1 => if (o.getD k emptyB).toList.isEmpty then crashP s o k else (crashP s o k).set (s.waits.getD k (0, emptyB)).1 (o.getD k emptyB)
def comeK (s : St) (o : List ByteArray) (k : Nat) : St := { s with pages := crashP s o k }
def noFuse (s : St) : St := { s with fuse := -1 }
def crashS (s : St) (o : List ByteArray) : St := noFuse (noWaits (comeK s o s.waits.length))
theorem crashP_length (s : St) (o : List ByteArray) (k : Nat) : (crashP s o k).length = s.pages.length := by
  induction k with
  | zero => rfl
  | succ k ih =>
    unfold crashP
    by_cases h : (o.getD k emptyB).toList.isEmpty = true
    · rw [if_pos h]; exact ih
    · rw [if_neg h, List.length_set]; exact ih
/-- each write that comes, comes with a page's bytes -/
def Pages (o : List ByteArray) : Prop := ∀ p ∈ o, p.toList.isEmpty = true ∨ p.size = 256
theorem crashP_sizes {s : St} (h : Good s) {o : List ByteArray} (ho : Pages o) (k : Nat) : ∀ p ∈ crashP s o k, p.size = 256 := by
  induction k with
  | zero => exact h.sizes
  | succ k ih =>
    intro p hp
    unfold crashP at hp
    by_cases he : (o.getD k emptyB).toList.isEmpty = true
    · rw [if_pos he] at hp; exact ih p hp
    · rw [if_neg he] at hp
      rcases List.mem_or_eq_of_mem_set hp with h1 | h1
      · exact ih p h1
      · rw [h1]
        by_cases hk : k < o.length
        · have e : o.getD k emptyB = o[k] := by simp [List.getD, hk]
          rw [e] at he ⊢
          rcases ho _ (List.getElem_mem hk) with h2 | h2
          · exact absurd h2 he
          · exact h2
        · have e : o.getD k emptyB = emptyB := by simp [List.getD, hk]
          rw [e] at he
          exact absurd emptyB_nil he
theorem comeK_good {s : St} (h : Good s) {o : List ByteArray} (ho : Pages o) (k : Nat) : Good (comeK s o k) := by
  have e : (comeK s o k).pages.length = s.pages.length := crashP_length _ _ _
  exact ⟨by rw [e]; exact h.n1, by rw [e]; exact h.n2, crashP_sizes h ho k, fun x hx => by rw [e]; exact h.wait x hx, h.few, h.fuse, h.reads, h.writes, h.flushes⟩
theorem noFuse_good {s : St} (h : Good s) : Good (noFuse s) :=
  ⟨h.n1, h.n2, h.sizes, h.wait, h.few, by show (-1 : Int) ≤ -1 ∧ (-1 : Int) ≤ 9223372036854775807; omega, h.reads, h.writes, h.flushes⟩
theorem keepL_pages {s : St} (h : Good s) (a : List Int) (o o' : List ByteArray) (hk : keepL s a o = some o') (hl : o.length = s.waits.length) (ho : Pages o) : Pages o' := by
  induction a generalizing o with
  | nil => simp only [keepL] at hk; injection hk with hk; rw [← hk]; exact ho
  | cons i r ih =>
    simp only [keepL] at hk
    by_cases hf : freeB o i = true
    · rw [if_pos hf] at hk
      refine ih _ hk (by rw [List.length_set]; exact hl) (fun p hp => ?_)
      rcases List.mem_or_eq_of_mem_set hp with h1 | h1
      · exact ho p h1
      · right
        have hi := freeB_lt hf
        have hj : i.toNat < s.waits.length := by omega
        rw [h1, textAt_of s _ hj]
        exact (h.wait _ (List.getElem_mem hj)).2
    · rw [if_neg hf] at hk; cases hk
theorem come_pages {s : St} (h : Good s) (ks : List Int) (torn a : Int) (o : List ByteArray) (hc : comeS s ks torn a = some o) : Pages o := by
  unfold comeS at hc
  have h0 : Pages (none0 s) := fun p hp => by
    unfold none0 at hp
    rw [(List.mem_replicate.1 hp).2]; exact .inl emptyB_nil
  cases hk : keepL s ks (none0 s) with
  | none => rw [hk] at hc; cases hc
  | some o1 =>
    rw [hk] at hc
    have h1 := keepL_pages h ks _ _ hk (by simp [none0]) h0
    have hl := keepL_length s ks _ _ hk
    simp only at hc
    by_cases ht : torn = -1
    · rw [if_pos ht] at hc; injection hc with hc; rw [← hc]; exact h1
    · rw [if_neg ht] at hc
      by_cases hf : freeB o1 torn = true
      · rw [if_pos hf] at hc
        by_cases ha : 0 ≤ a ∧ a ≤ 256
        · rw [if_pos ha] at hc
          injection hc with hc
          intro p hp
          rw [← hc] at hp
          rcases List.mem_or_eq_of_mem_set hp with h2 | h2
          · exact h1 p h2
          · right
            have hi := freeB_lt hf
            have hj : torn.toNat < s.waits.length := by rw [hl] at hi; simp [none0] at hi; omega
            have hs := (h.wait _ (List.getElem_mem hj)).2
            rw [← textAt_of s _ hj] at hs
            have hs' : (textAt s torn.toNat).data.toList.length = 256 := hs
            rw [h2]
            show (Pg.tornL (textAt s torn.toNat).data.toList a.toNat).toArray.size = 256
            rw [List.size_toArray]
            simp only [Pg.tornL, List.length_append, List.length_take, List.length_replicate]
            omega
        · rw [if_neg ha] at hc; cases hc
      · rw [if_neg hf] at hc; cases hc
theorem row_cell {w : World} {g : Nat} {o : List ByteArray} (h : w.heap[g]? = some (.cells (sv o).toArray 9 (0, 0))) (i : Nat) (hi : i < o.length) : w.cell? ⟨g, i, none⟩ = some (.string o[i]) := by
  rw [cell_of_row _ _ _ _ _ _ h]
  simp [sv, hi]
theorem crashP_none (s : St) (o : List ByteArray) (k : Nat) (hk : k < o.length) (h : o[k].toList.isEmpty = true) : comeK s o (k + 1) = comeK s o k := by
  have e : o.getD k emptyB = o[k] := by simp [List.getD, hk]
  have : crashP s o (k + 1) = crashP s o k := by
    show (if (o.getD k emptyB).toList.isEmpty then _ else _) = _
    rw [e, if_pos h]
  unfold comeK; rw [this]
theorem crashP_some (s : St) (o : List ByteArray) (k : Nat) (hk : k < o.length) (hw : k < s.waits.length) (h : o[k].toList.isEmpty = false) : (comeK s o (k + 1)).pages = (comeK s o k).pages.set s.waits[k].1 o[k] := by
  have e : o.getD k emptyB = o[k] := by simp [List.getD, hk]
  have e2 : s.waits.getD k (0, emptyB) = s.waits[k] := by simp [List.getD, hw]
  show (if (o.getD k emptyB).toList.isEmpty then _ else _) = _
  rw [e, if_neg (by rw [h]; simp), e2]; rfl

set_option maxRecDepth 100000 in
set_option maxHeartbeats 3200000 in
theorem crash_ok (d : Ptrs) (s : St) (w : World) (h : Dsk w d s) (q : Option Addr) (c : Nat) (ks : List Int)
    (hks : Kept w q ks) (hkm : ks.length ≤ maxLen) (torn a : Int) (o : List ByteArray) (hc : comeS s ks torn a = some o) :
    Calls Tryz.prog 26 #[.pointer (some ⟨d.D, 0, none⟩), .slice q ks.length c, .int .i64 torn, .int .i64 a] w fun e w' => e = .returned (.int .i64 0) ∧ ∃ v, Dsk w' { d with wv := v } (crashS s o) ∧ Only d w w' ∧ From d { d with wv := v } w := by
  obtain ⟨p, cap, hv⟩ := h.waitsAt
  have hfew := h.good.few
  have HPG := hid (come_pages h.good ks torn a o hc)
  have HCOME := hid (come_A d s w h p cap hv q c ks hks hkm torn a)
  have HC := hid hc
  have HH := hid h
  have HV := hid hv
  clear h hv hks hc hkm
  go_enter Tryz.func26, Tryz.ntmps26
  go_wp2_with (go_at_call 59; refine HCOME.out.mono ?_; rintro e w1 ⟨hb1, hm1⟩; rw [HC.out] at hm1; obtain ⟨g, hge, he, hg1, hol⟩ := hm1; rw [hol] at he; subst he; have HB1 := hid hb1; have HG1 := hid hg1; have HGE := hid hge; have HOL := hid hol; have HD1 := hid (HH.out.below hb1); have c1 := HD1.out.cells; rw [HV.out] at c1; clear hb1 hg1 hge hol)
  clear c1
  go_loopw [30] (fun i wr => ∃ k : Nat, k ≤ s.waits.length ∧ i = .int .i64 k ∧ Dsk wr d (comeK s o k) ∧ Only d w wr ∧ wr.heap[g]? = some (.cells (sv o).toArray 9 (0, 0))) (fun i _ => s.waits.length - (intOf i).toNat)
  case atStart => exact ⟨0, by omega, rfl, HD1.out, Only.below HB1.out, HG1.out⟩
  case round =>
    obtain ⟨k, hk, rfl, hD, hO, hG⟩ := hrel
    have HD := hid hD; have HO := hid hO; have HG := hid hG; clear hD hO hG
    by_cases hlt : k < s.waits.length
    · obtain ⟨gw, rfl⟩ := HH.out.someAt HV.out (by omega)
      have hko : k < o.length := by have := HOL.out; omega
      obtain ⟨x, hx⟩ : ∃ x, s.waits[k].1 = x := ⟨_, rfl⟩
      obtain ⟨t, ht⟩ : ∃ t, s.waits[k].2 = t := ⟨_, rfl⟩
      obtain ⟨u, hu⟩ : ∃ u, o[k] = u := ⟨_, rfl⟩
      have cw : wr.cell? ⟨gw, k * 2, none⟩ = some (.int .i64 (x : Int)) ∧ wr.cell? ⟨gw, k * 2 + 1, none⟩ = some (.string t) := by
        have := HD.out.wait HV.out k hlt
        rw [← hx, ← ht]; exact this
      have hG2 : (wr.alloc (.cells #[.int .i64 (x : Int), .string t] 99)).heap[g]? = some (.cells (sv o).toArray 9 (0, 0)) := by
        rw [Below.heap_alloc _ _ _ (Array.getElem?_eq_some_iff.1 HG.out).1]; exact HG.out
      have HG2 := hid hG2; clear hG2
      have cu : (wr.alloc (.cells #[.int .i64 (x : Int), .string t] 99)).cell? ⟨g, k, none⟩ = some (.string u) := by rw [row_cell HG2.out k hko, hu]
      cases e2 : u.toList.isEmpty
      · have hxl : x < (comeK s o k).pages.length := by
          have := (HH.out.good.wait s.waits[k] (List.getElem_mem hlt)).1
          rw [hx] at this
          show x < (crashP s o k).length
          rw [crashP_length]; exact this
        have hmore := crashP_some s o k hko hlt (by rw [hu]; exact e2)
        rw [hx, hu] at hmore
        have HM := hid hmore; clear hmore hx ht hu
        have c1 := (HD.out.alloc (.cells #[.int .i64 (x : Int), .string t] 99)).cells.1
        have c2 := (HD.out.alloc (.cells #[.int .i64 (x : Int), .string t] 99)).page x hxl
        have f2 := (HD.out.alloc (.cells #[.int .i64 (x : Int), .string t] 99)).pfree x
        have hpl : (comeK s o k).pages.length ≤ 1000 := (comeK_good HH.out.good HPG.out k).n2
        have hd2 := (HD.out.alloc (.cells #[.int .i64 (x : Int), .string t] 99)).drew.putPage x u (comeK s o (k + 1)) HM.out rfl rfl rfl rfl rfl (comeK_good HH.out.good HPG.out (k + 1))
        have ho2 := ((HO.out.alloc (.cells #[.int .i64 (x : Int), .string t] 99)).putPage x (.string u))
        have HD2 := hid hd2; have HO2 := hid ho2; clear hd2 ho2
        have b0 : (wr.alloc (.cells #[.int .i64 (x : Int), .string t] 99)).cell? ⟨wr.heap.size, 0, none⟩ = some (.int .i64 (x : Int)) := by rw [cell_of_row _ _ _ _ _ _ (heap_alloc_new _ _)]; rfl
        go_wp2_with fail
        clear cw
        generalize wr.heap.size = X at b0 ⊢
        generalize wr.alloc (.cells #[.int .i64 (x : Int), .string t] 99) = w2 at HD2 HO2 HG2 c1 c2 f2 b0 cu ⊢
        go_still_tail 11, (by kernel_rfl)
        change wpList _ _ _ _ _ w2.drew
        go_wp2_with fail
        go_roundw
        case rel =>
          refine ⟨k + 1, by omega, by go_num, HD2.out, HO2.out.drew, ?_⟩
          show (w2.setCell ⟨d.P, x, none⟩ (.string u)).heap[g]? = _
          rw [heap_setCell_other _ _ _ _ (by have := HH.out.ltP; have := HGE.out; show g ≠ d.P; omega)]
          exact HG2.out
        case measure => simp [intOf]; omega
      · have hsame := crashP_none s o k hko (by rw [hu]; exact e2)
        have HS := hid hsame; clear hsame hx ht hu
        have HD2 := hid (HD.out.alloc (.cells #[.int .i64 (x : Int), .string t] 99))
        have HO2 := hid (HO.out.alloc (.cells #[.int .i64 (x : Int), .string t] 99))
        go_wp2_with fail
        go_roundw
        case rel => exact ⟨k + 1, by omega, by go_num, by rw [HS.out]; exact HD2.out, HO2.out, HG2.out⟩
        case measure => simp [intOf]; omega
    · obtain rfl : k = s.waits.length := by omega
      by_cases hn : 0 < s.waits.length
      · go_wp2_with (go_at_call 60; refine (forget_some d (comeK s o s.waits.length) _ HD.out hn).mono ?_; rintro e w5 ⟨rfl, v, hd7, ho7, hf7⟩; have HD7 := hid hd7; have HO7 := hid (HO.out.trans (From.refl _ _) ho7); have HF7 := hid hf7; have HS6 := hid HO.out.size; have c7 := HD7.out.free 2; have c8 := HD7.out.cells; have hd8 := HD7.out.store 2 (.int .i64 (-1)) (noFuse (noWaits (comeK s o s.waits.length))) rfl rfl (noFuse_good HD7.out.good) rfl; have HD8 := hid hd8; clear hd7 ho7 hf7 hd8)
        go_ret
        exact ⟨rfl, v, HD8.out, HO7.out.store 2 _, (From.refl _ _).trans HF7.out HS6.out⟩
      · have hn0 : (comeK s o s.waits.length).waits = [] := List.length_eq_zero_iff.1 (by show s.waits.length = 0; omega)
        have HN0 := hid hn0; clear hn0
        go_wp2_with (go_at_call 60; refine (forget_none d (comeK s o s.waits.length) _ HD.out HN0.out).mono ?_; rintro e w5 ⟨rfl, v, hd7, ho7, hf7⟩; have HD7 := hid hd7; have HO7 := hid (HO.out.trans (From.refl _ _) ho7); have HF7 := hid hf7; have HS6 := hid HO.out.size; have c7 := HD7.out.free 2; have c8 := HD7.out.cells; have hd8 := HD7.out.store 2 (.int .i64 (-1)) (noFuse (noWaits (comeK s o s.waits.length))) rfl rfl (noFuse_good HD7.out.good) rfl; have HD8 := hid hd8; clear hd7 ho7 hf7 hd8)
        go_ret
        exact ⟨rfl, v, HD8.out, HO7.out.store 2 _, (From.refl _ _).trans HF7.out HS6.out⟩
end Go.Proofs.YtgihpdhkjneimaaGreatDoor.Dk

/- Crash of disk, where it is refused, and where no write waits. -/
namespace Go.Proofs.YtgihpdhkjneimaaGreatDoor.Dk
open Go.RowKit
open Go.Lib (hid)

set_option maxHeartbeats 400000 in
theorem crash_no (d : Ptrs) (s : St) (w : World) (h : Dsk w d s) (q : Option Addr) (c : Nat) (ks : List Int)
    (hks : Kept w q ks) (hkm : ks.length ≤ maxLen) (torn a : Int) (hc : comeS s ks torn a = none) :
    Calls Tryz.prog 26 #[.pointer (some ⟨d.D, 0, none⟩), .slice q ks.length c, .int .i64 torn, .int .i64 a] w fun e w' => e = .returned (.int .i64 1) ∧ Below w.heap.size w w' := by
  obtain ⟨p, cap, hv⟩ := h.waitsAt
  have HCOME := hid (come_A d s w h p cap hv q c ks hks hkm torn a)
  have HC := hid hc
  clear h hv hks hc hkm
  go_enter Tryz.func26, Tryz.ntmps26
  go_wp2_with (go_at_call 59; refine HCOME.out.mono ?_; rintro e w1 ⟨hb1, hm1⟩; rw [HC.out] at hm1; obtain ⟨v, rfl⟩ := hm1; have HB1 := hid hb1; clear hb1)
  go_ret
  exact ⟨rfl, HB1.out⟩
set_option maxHeartbeats 400000 in
theorem crash_nil (k : Value) (torn a : Int) (w : World) :
    Calls Tryz.prog 26 #[.pointer none, k, .int .i64 torn, .int .i64 a] w fun e w' => e = .returned (.int .i64 1) ∧ w = w' := by
  go_enter Tryz.func26, Tryz.ntmps26
  go_wp2_with fail
  go_ret
  exact ⟨rfl, rfl⟩
end Go.Proofs.YtgihpdhkjneimaaGreatDoor.Dk

/- Read of disk, where it is refused. -/
namespace Go.Proofs.YtgihpdhkjneimaaGreatDoor.Dk
open Go.RowKit
open Go.Lib (hid)

set_option maxRecDepth 100000 in
set_option maxHeartbeats 1000000 in
theorem read_nil (n : Int) (w : World) :
    Calls Tryz.prog 132 #[.pointer none, .int .i64 n] w fun e w' => e = .returned (.tuple #[.string ⟨#[]⟩, .int .i64 1]) ∧ Below w.heap.size w w' := by
  go_enter Tryz.func132, Tryz.ntmps132
  go_wp2_with (go_at_call 123; refine (has_nil n _).mono ?_; rintro e w' ⟨rfl, rfl⟩)
  refine bodyPost_ret (v := .tuple #[.string ⟨#[]⟩, .int .i64 1]) (by simp [results, Tryz.results132, go_sem]) rfl ⟨rfl, ?_⟩
  exact (((Below.refl _ _).alloc (Nat.le_refl _) _).alloc (by simp) _).alloc (by simp; omega) _
set_option maxRecDepth 100000 in
set_option maxHeartbeats 1000000 in
theorem read_bad (d : Ptrs) (s : St) (n : Int) (w : World) (h : Dsk w d s) (hb : n < 0 ∨ s.pages.length ≤ n) :
    Calls Tryz.prog 132 #[.pointer (some ⟨d.D, 0, none⟩), .int .i64 n] w fun e w' => e = .returned (.tuple #[.string ⟨#[]⟩, .int .i64 1]) ∧ Below w.heap.size w w' := by
  have e1 : decide (0 ≤ n ∧ n < (s.pages.length : Int)) = false := by simp; omega
  have HH := hid h; clear h hb
  go_enter Tryz.func132, Tryz.ntmps132
  go_wp2_with (go_at_call 123; refine (has_ok d s n _ (HH.out.below ((((Below.refl _ _).alloc (Nat.le_refl _) _).alloc (by simp) _).alloc (by simp; omega) _))).mono ?_; rintro e w' ⟨rfl, rfl⟩)
  refine bodyPost_ret (v := .tuple #[.string ⟨#[]⟩, .int .i64 1]) (by simp [results, Tryz.results132, go_sem]) rfl ⟨rfl, ?_⟩
  exact (((Below.refl _ _).alloc (Nat.le_refl _) _).alloc (by simp) _).alloc (by simp; omega) _
end Go.Proofs.YtgihpdhkjneimaaGreatDoor.Dk

/- Backward of slices, over the writes that wait: its contract. -/
namespace Go.Proofs.YtgihpdhkjneimaaGreatDoor.Dk
open Go.RowKit Go.Shelf
open Go.Lib (hid)

attribute [local go_sem] Oper.semAt_some

/-- a write with its place -/
abbrev WAt := Nat × Nat × ByteArray
def encW (x : WAt) : Array Value := #[.int .i64 (x.1 : Int), .agg #[.int .i64 (x.2.1 : Int), .string x.2.2]]
/-- what has come when k rounds are over -/
def upto (ws : List (Nat × ByteArray)) (k : Nat) : List WAt := (List.range k).map fun j => (ws.length - 1 - j, ws.getD (ws.length - 1 - j) (0, ByteArray.empty))
theorem upto_succ (ws : List (Nat × ByteArray)) (k : Nat) : upto ws (k + 1) = upto ws k ++ [(ws.length - 1 - k, ws.getD (ws.length - 1 - k) (0, ByteArray.empty))] := by simp [upto, List.range_succ]
theorem upto_length (ws : List (Nat × ByteArray)) (k : Nat) : (upto ws k).length = k := by simp [upto]

set_option maxRecDepth 100000 in
set_option maxHeartbeats 2000000 in
theorem back1_in (F : Fence) (n : Nat) (h47 : F.fn 154) (hro : F.round = none) (hn : 1 ≤ n) (l Bs n₀ b cap : Nat) (ws : List (Nat × ByteArray)) (hreach : ws.length ≤ 1000000) (hb : b < n₀) (J Jx : List WAt → World → Prop)
    (hY : ∀ pre x W, J pre W → pre.length < ws.length → YieldAt F (n - 1) Tryz.prog l (encW x) W fun e W' =>
      (e = .returned (.bool true) ∧ J (pre ++ [x]) W' ∧ Below n₀ W W') ∨ (e = .returned (.bool false) ∧ Jx (pre ++ [x]) W'))
    (W : World) (hBs : W.cell? ⟨Bs, 0, none⟩ = some (.slice (some ⟨b, 0, none⟩) ws.length cap)) (hBn : Bs < n₀)
    (hc : ∀ j (hj : j < ws.length), W.cell? ⟨b, j * 2, none⟩ = some (.int .i64 (ws[j].1 : Int)) ∧ W.cell? ⟨b, j * 2 + 1, none⟩ = some (.string ws[j].2)) (h0 : J [] W) :
    CallsIn F n Tryz.prog 154 #[.func (.yield l) #[] #[], .pointer (some ⟨Bs, 0, none⟩)] W fun e W' => (∃ v, e = .returned v) ∧
      ((∃ ys, ys = upto ws ws.length ∧ J ys W') ∨ (∃ pre, (∃ k, k ≤ ws.length ∧ pre = upto ws k) ∧ Jx pre W')) := by
  refine callsIn_of_wp Tryz.func154 rfl h47 ?_ hro
  simp only [Tryz.ntmps154, List.size_toArray, List.length_cons, List.length_nil, Nat.reduceAdd, Nat.reduceSub, Array.replicate_succ, Array.replicate_zero, List.push_toArray, List.append_toArray, List.nil_append, List.cons_append]
  gi_wp2
  gi_loopw [3] (fun i wr => ∃ k : Nat, k ≤ ws.length ∧ i = .int .i64 ((ws.length : Int) - 1 - (k : Int)) ∧ J (upto ws k) wr ∧ Below n₀ W wr)
    (fun i _ => (intOf i + 1).toNat)
  case atStart => exact ⟨0, Nat.zero_le _, by simp, h0, Below.refl _ _⟩
  case round =>
    obtain ⟨k, hk, rfl, hJs, hnx⟩ := hrel
    have hBs' := (hnx.cell (p := ⟨Bs, 0, none⟩) hBn).trans hBs
    by_cases hlt : k < ws.length
    · obtain ⟨q, hq⟩ : ∃ q, ws.length - 1 - k = q := ⟨_, rfl⟩
      have hql : q < ws.length := by omega
      have eq1 : (ws.length : Int) - 1 - (k : Int) = (q : Int) := by omega
      have hup := upto_succ ws k
      rw [hq] at hup
      have hget : ws.getD q (0, ByteArray.empty) = ws[q] := by simp [hql]
      rw [hget] at hup
      obtain ⟨c0, c1⟩ := hc q hql
      have d0 := (hnx.cell (p := ⟨b, q * 2, none⟩) hb).trans c0
      have d1 := (hnx.cell (p := ⟨b, q * 2 + 1, none⟩) hb).trans c1
      obtain ⟨fn, tmps, assign, body, hy, hR⟩ := hY _ (q, ws[q]) wr hJs (by rw [upto_length]; exact hlt)
      dsimp only [encW] at hy
      rw [eq1]
      generalize ws[q] = x at hup d0 d1 hy hR
      have HC := hid hc
      clear c0 c1 hget hc
      gi_wp2
      refine hR.mono ?_
      rintro e W3 (⟨rfl, hJ3, hk3⟩ | ⟨rfl, hJx3⟩)
      · gi_wp2
        go_roundw
        case rel =>
          have e9 : (q : Int) - 1 = (ws.length : Int) - 1 - ((k + 1 : Nat) : Int) := by omega
          exact ⟨k + 1, hlt, by rw [← e9], by rw [hup]; exact hJ3, hnx.trans hk3⟩
        case measure => simp [intOf]
      · gi_wp2
        refine bodyPost_ret (results_none rfl _ _ _) rfl ?_
        exact ⟨⟨_, rfl⟩, .inr ⟨_, ⟨k + 1, by omega, hup.symm⟩, hJx3⟩⟩
    · obtain rfl : k = ws.length := by omega
      have eq1 : (ws.length : Int) - 1 - (ws.length : Int) = -1 := by omega
      rw [eq1]
      gi_wp2
      go_end0
      exact ⟨⟨_, rfl⟩, .inl ⟨_, rfl, hJs⟩⟩
set_option maxRecDepth 100000 in
set_option maxHeartbeats 1000000 in
/-- at the nil slice: no round -/
theorem back1_nil_in (F : Fence) (n : Nat) (h47 : F.fn 154) (hro : F.round = none) (l Bs : Nat) (J : List WAt → World → Prop) (W : World) (hBs : W.cell? ⟨Bs, 0, none⟩ = some (.slice none 0 0)) (h0 : J [] W) :
    CallsIn F n Tryz.prog 154 #[.func (.yield l) #[] #[], .pointer (some ⟨Bs, 0, none⟩)] W fun e W' => (∃ v, e = .returned v) ∧ J [] W' := by
  refine callsIn_of_wp Tryz.func154 rfl h47 ?_ hro
  simp only [Tryz.ntmps154, List.size_toArray, List.length_cons, List.length_nil, Nat.reduceAdd, Nat.reduceSub, Array.replicate_succ, Array.replicate_zero, List.push_toArray, List.append_toArray, List.nil_append, List.cons_append]
  gi_wp2
  gi_loopw [3] (fun i wr => i = .int .i64 (-1) ∧ J [] wr) (fun _ _ => 0)
  case atStart => exact ⟨rfl, h0⟩
  case round =>
    obtain ⟨rfl, hJs⟩ := hrel
    gi_wp2
    go_end0
    exact ⟨⟨_, rfl⟩, hJs⟩
set_option maxHeartbeats 1000000 in
/-- Backward: the slice is boxed; the function value captures the box -/
theorem backward_in (F : Fence) (n : Nat) (h38 : F.fn 145) (hro : F.round = none) (a : Option Addr) (len cap : Nat) (w : World) :
    CallsIn F n Tryz.prog 145 #[.slice a len cap] w fun e w' => e = .returned (.func (.func 154) #[] #[.pointer (some ⟨w.heap.size, 0, none⟩)]) ∧ w' = w.alloc (.cells #[.slice a len cap] 85) := by
  refine callsIn_of_wp Tryz.func145 rfl h38 ?_ hro
  simp only [Tryz.ntmps145, List.size_toArray, List.length_cons, List.length_nil, Nat.reduceAdd, Nat.reduceSub, Array.replicate_succ, Array.replicate_zero, List.push_toArray, List.append_toArray, List.nil_append, List.cons_append]
  gi_wp2
  go_ret
  exact ⟨rfl, rfl⟩
/-- writes in memory, as a slice holds them, in a block below n₀; or it is nil and there are none -/
def WaitsAt (n₀ : Nat) (W : World) (sv : Value) (ws : List (Nat × ByteArray)) : Prop :=
  (sv = .slice none 0 0 ∧ ws = []) ∨ ∃ b cap, sv = .slice (some ⟨b, 0, none⟩) ws.length cap ∧ b < n₀ ∧ ∀ j (hj : j < ws.length), W.cell? ⟨b, j * 2, none⟩ = some (.int .i64 (ws[j].1 : Int)) ∧ W.cell? ⟨b, j * 2 + 1, none⟩ = some (.string ws[j].2)
theorem WaitsAt.below {n₀ : Nat} {A B : World} (h : Below n₀ A B) {sv : Value} {ws : List (Nat × ByteArray)} : WaitsAt n₀ A sv ws → WaitsAt n₀ B sv ws
  | .inl e => .inl e
  | .inr ⟨b, cap, e, hb, hc⟩ => .inr ⟨b, cap, e, hb, fun j hj => ⟨(h.cell (p := ⟨b, j * 2, none⟩) hb).trans (hc j hj).1, (h.cell (p := ⟨b, j * 2 + 1, none⟩) hb).trans (hc j hj).2⟩⟩
theorem back_stops (F : Fence) (n : Nat) (h47 : F.fn 154) (hro : F.round = none) (hn : 1 ≤ n) (Bs n₀ : Nat) (sv : Value) (ws : List (Nat × ByteArray)) (hreach : ws.length ≤ 1000000) (w : World) (hBs : Bs < n₀) (hn₀ : n₀ ≤ w.heap.size)
    (hc : w.cell? ⟨Bs, 0, none⟩ = some sv) (hI : WaitsAt n₀ w sv ws) :
    SeqStopsK F n Tryz.prog 154 #[.pointer (some ⟨Bs, 0, none⟩)] encW (Below n₀) (fun ys => ys = upto ws ws.length) (fun pre => ∃ k, k ≤ ws.length ∧ pre = upto ws k) ws.length w := fun l J Jx W hW _ _ hY h0 => by
  have hc' := (hW.cell (p := ⟨Bs, 0, none⟩) (Nat.lt_of_lt_of_le hBs hn₀)).trans hc
  rcases hI.below (hW.mono hn₀) with ⟨rfl, rfl⟩ | ⟨b, cap, rfl, hb, hcs⟩
  · exact (back1_nil_in F n h47 hro l Bs J W hc' h0).mono fun e W' ⟨he, hj⟩ => ⟨he, .inl ⟨_, rfl, hj⟩⟩
  · exact back1_in F n h47 hro hn l Bs n₀ b cap ws hreach hb J Jx hY W hc' hBs hcs h0
theorem Dsk.waitsIn {w : World} {d : Ptrs} {s : St} (h : Dsk w d s) (n₀ : Nat) (hn : w.heap.size ≤ n₀) : WaitsAt n₀ w d.wv s.waits := by
  rcases h.waits.2 with ⟨hv, h0⟩ | ⟨g, cap, cur, hv, hb0, hg, rest⟩
  · exact .inl ⟨hv, List.length_eq_zero_iff.1 h0⟩
  · refine .inr ⟨g, cap, hv, ?_, fun j hj => h.wait hv j hj⟩
    have := (Array.getElem?_eq_some_iff.1 hg).1
    omega
end Go.Proofs.YtgihpdhkjneimaaGreatDoor.Dk
