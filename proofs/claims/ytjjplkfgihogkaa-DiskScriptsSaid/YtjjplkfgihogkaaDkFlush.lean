/- Flush of disk: what it returns, and what the disk is behind it. -/
import Derived.Test.YtjjplkfgihogkaaDkForget
import Derived.Deep.RegionHeld3
import Derived.StillTailTactics
namespace Go.Proofs.Ytjjplkfgihogkaa.Dk
open Go.RowKit
open Go.Lib (hid)

/-- writes that come to their pages -/
def applyW (pages : List ByteArray) (l : List (Nat × ByteArray)) : List ByteArray := l.foldl (fun p x => p.set x.1 x.2) pages
theorem applyW_length (pages : List ByteArray) (l : List (Nat × ByteArray)) : (applyW pages l).length = pages.length := by
  induction l generalizing pages with
  | nil => rfl
  | cons x l ih => show (applyW (pages.set x.1 x.2) l).length = _; rw [ih]; simp
theorem applyW_snoc (pages : List ByteArray) (l : List (Nat × ByteArray)) (x : Nat × ByteArray) : applyW pages (l ++ [x]) = (applyW pages l).set x.1 x.2 := by
  simp [applyW]
theorem applyW_sizes {pages : List ByteArray} {l : List (Nat × ByteArray)} (hp : ∀ p ∈ pages, p.size = 256) (hl : ∀ x ∈ l, x.2.size = 256) : ∀ p ∈ applyW pages l, p.size = 256 := by
  induction l generalizing pages with
  | nil => exact hp
  | cons x l ih =>
    apply ih
    · intro p hpm
      rcases List.mem_or_eq_of_mem_set hpm with h | h
      · exact hp p h
      · rw [h]; exact hl x (by simp)
    · intro y hy; exact hl y (by simp [hy])
/-- the disk with the first k writes at their pages -/
def partS (s : St) (k : Nat) : St := { s with pages := applyW s.pages (s.waits.take k) }
theorem part_good {s : St} (h : Good s) (k : Nat) : Good (partS s k) := by
  have e : (partS s k).pages.length = s.pages.length := applyW_length _ _
  refine ⟨by rw [e]; exact h.n1, by rw [e]; exact h.n2, ?_, fun x hx => by rw [e]; exact h.wait x hx, h.few, h.fuse, h.reads, h.writes, h.flushes⟩
  exact applyW_sizes h.sizes (fun x hx => (h.wait x (List.mem_of_mem_take hx)).2)

/-- what a write that waits reads as -/
theorem Dsk.wait {w : World} {d : Ptrs} {s : St} (h : Dsk w d s) {g n cap : Nat} (hv : d.wv = .slice (some ⟨g, 0, none⟩) n cap) (k : Nat) (hk : k < s.waits.length) :
    w.cell? ⟨g, k * 2, none⟩ = some (.int .i64 (s.waits[k].1 : Int)) ∧ w.cell? ⟨g, k * 2 + 1, none⟩ = some (.string s.waits[k].2) := by
  have hc := h.waits.cells (g := g) (by rw [hv]; rfl)
  have hat : ∀ (l : List (Nat × ByteArray)) (k : Nat) (hk : k < l.length), (wcells l)[k * 2]? = some (.int .i64 (l[k].1 : Int)) ∧ (wcells l)[k * 2 + 1]? = some (.string l[k].2) := by
    intro l
    induction l with
    | nil => intro k hk; simp at hk
    | cons x l ih =>
      intro k hk
      have e : wcells (x :: l) = .int .i64 (x.1 : Int) :: .string x.2 :: wcells l := rfl
      rw [e]
      cases k with
      | zero => simp
      | succ k =>
        have := ih k (by simpa using hk)
        rw [show (k + 1) * 2 = k * 2 + 1 + 1 by omega, show k * 2 + 1 + 1 + 1 = k * 2 + 1 + 1 + 1 from rfl]
        simpa using this
  have hadd : ∀ j, (⟨g, 0, none⟩ : Addr).add j = ⟨g, j, none⟩ := fun j => by unfold Addr.add; split <;> simp_all
  obtain ⟨h1, h2⟩ := hat s.waits k hk
  have c1 := hc _ _ h1
  have c2 := hc _ _ h2
  rw [hadd] at c1 c2
  exact ⟨c1, c2⟩

/-- a page is stored -/
theorem Dsk.putPage {w : World} {d : Ptrs} {s : St} (h : Dsk w d s) (i : Nat) (t : ByteArray) (s' : St) (hp : s'.pages = s.pages.set i t) (hw : s'.waits = s.waits) (hf : s'.fuse = s.fuse) (hr : s'.reads = s.reads) (hwr : s'.writes = s.writes) (hfl : s'.flushes = s.flushes) (hg : Good s') :
    Dsk (w.setCell ⟨d.P, i, none⟩ (.string t)) d s' := by
  obtain ⟨cur, hc, hsz, hle, hmx, htk⟩ := h.pages
  have hlen : s'.pages.length = s.pages.length := by rw [hp]; simp
  refine ⟨?_, ⟨cur.setIfInBounds i (.string t), ?_, by simpa using hsz, by rw [hlen]; exact hle, hmx, ?_⟩, ?_, h.dp, h.dw, h.pw, hg⟩
  · rw [heap_setCell_other _ _ _ _ h.dp, h.head, hlen, hf, hr, hwr, hfl]
  · exact heap_setCell_same _ _ _ _ _ _ hc
  · rw [hlen, hp]
    rw [Array.toList_setIfInBounds, List.take_set, htk]
    simp [sv, List.map_set]
  · rw [hw]
    refine ⟨h.waits.1, ?_⟩
    rcases h.waits.2 with hn | ⟨g, cap, cur', hv, hb0, hg', rest⟩
    · exact .inl hn
    · refine .inr ⟨g, cap, cur', hv, hb0, ?_, rest⟩
      rw [heap_setCell_other _ _ _ _ (fun e => h.pw (by rw [hv, e]; rfl))]; exact hg'
theorem Only.putPage {d : Ptrs} {w w1 : World} (h : Only d w w1) (i : Nat) (v : Value) : Only d w (w1.setCell ⟨d.P, i, none⟩ v) :=
  ⟨h.os, h.tape, h.output, by rw [World.size_setCell]; exact h.size, fun k hk hn => by rw [heap_setCell_other _ _ _ _ (fun e => hn (.inr (.inl e))), h.block k hk hn]⟩
theorem Only.drew {d : Ptrs} {w w1 : World} (h : Only d w w1) : Only d w w1.drew := ⟨h.os, h.tape, h.output, h.size, h.block⟩
theorem Only.alloc {d : Ptrs} {w w1 : World} (h : Only d w w1) (o : Obj) : Only d w (w1.alloc o) :=
  ⟨h.os, h.tape, h.output, by have := h.size; simp; omega, fun k hk hn => by rw [Below.heap_alloc w1 o k (Nat.lt_of_lt_of_le hk h.size), h.block k hk hn]⟩
theorem Dsk.alloc {w : World} {d : Ptrs} {s : St} (h : Dsk w d s) (o : Obj) : Dsk (w.alloc o) d s := h.below ((Below.refl _ _).alloc (Nat.le_refl _) o)
theorem part_more (s : St) (k : Nat) (hk : k < s.waits.length) : (partS s (k + 1)).pages = (partS s k).pages.set s.waits[k].1 s.waits[k].2 := by
  show applyW s.pages (s.waits.take (k + 1)) = _
  rw [List.take_succ_eq_append_getElem hk, applyW_snoc]; rfl

def countF (s : St) : St := { s with flushes := s.flushes + 1 }
def flushS (s : St) : St := noWaits (burnS (countF (partS s s.waits.length)))
theorem countF_good {s : St} (h : Good s) (hw : s.flushes < 1000000) : Good (countF s) := by
  refine ⟨h.n1, h.n2, h.sizes, h.wait, h.few, h.fuse, h.reads, h.writes, ?_⟩
  have := h.flushes
  show 0 ≤ s.flushes + 1 ∧ s.flushes + 1 ≤ 1000000
  omega

set_option maxRecDepth 100000 in
set_option maxHeartbeats 1000000 in
theorem flush_some (d : Ptrs) (s : St) (w : World) (h : Dsk w d s) (hn : 0 < s.waits.length) (hfz : s.fuse ≠ 0) (hfl : s.flushes < 1000000) :
    Calls Try.prog 12 #[.pointer (some ⟨d.D, 0, none⟩)] w fun e w' => e = .returned (.int .i64 (s.waits.length : Int)) ∧ ∃ v, Dsk w' { d with wv := v } (flushS s) ∧ Only d w w' ∧ From d { d with wv := v } w := by
  rcases h.waits.2 with ⟨_, h0⟩ | ⟨g, cap, cur, hv, _, hg, hle, hcap, hsz, _⟩
  · omega
  · have c := h.cells
    rw [hv] at c
    have e3 : (s.fuse == 0) = false := by simpa using hfz
    have hfew := h.good.few
    have HV := hid hv
    have HH := hid h
    clear hg hsz hle hcap h hv
    go_enter Try.func12, Try.ntmps12
    go_wp2_with (go_at_call 29; refine (dead_ok d s _ HH.out).mono ?_; rintro e w' ⟨rfl, rfl⟩)
    clear c
    go_loopw [16] (fun i wr => ∃ k : Nat, k ≤ s.waits.length ∧ i = .int .i64 k ∧ Dsk wr d (partS s k) ∧ Only d w wr) (fun i _ => s.waits.length - (intOf i).toNat)
    case atStart => exact ⟨0, by omega, rfl, HH.out, Only.refl _ _⟩
    case round =>
      obtain ⟨k, hk, rfl, hD, hO⟩ := hrel
      have HD := hid hD; have HO := hid hO; clear hD hO
      by_cases hlt : k < s.waits.length
      · obtain ⟨x, hx⟩ : ∃ x, s.waits[k].1 = x := ⟨_, rfl⟩
        obtain ⟨t, ht⟩ : ∃ t, s.waits[k].2 = t := ⟨_, rfl⟩
        have cw : wr.cell? ⟨g, k * 2, none⟩ = some (.int .i64 (x : Int)) ∧ wr.cell? ⟨g, k * 2 + 1, none⟩ = some (.string t) := by
          have := HD.out.wait HV.out k hlt
          rw [← hx, ← ht]; exact this
        have hxl : x < (partS s k).pages.length := by
          have := (HH.out.good.wait s.waits[k] (List.getElem_mem hlt)).1
          rw [hx] at this
          show x < (applyW s.pages _).length
          rw [applyW_length]; exact this
        have hmore := part_more s k hlt
        rw [hx, ht] at hmore
        have HM := hid hmore; clear hmore hx ht
        have c1 := (HD.out.alloc (.cells #[.int .i64 (x : Int), .string t] 63)).cells.1
        have c2 := (HD.out.alloc (.cells #[.int .i64 (x : Int), .string t] 63)).page x hxl
        have f2 := (HD.out.alloc (.cells #[.int .i64 (x : Int), .string t] 63)).pfree x
        have hpl : (partS s k).pages.length ≤ 1000 := (part_good HH.out.good k).n2
        have hd2 := (HD.out.alloc (.cells #[.int .i64 (x : Int), .string t] 63)).drew.putPage x t (partS s (k + 1)) HM.out rfl rfl rfl rfl rfl (part_good HH.out.good (k + 1))
        have ho2 := ((HO.out.alloc (.cells #[.int .i64 (x : Int), .string t] 63)).putPage x (.string t))
        have HD2 := hid hd2; have HO2 := hid ho2; clear hd2 ho2
        go_wp2_with fail
        have b0 : (wr.alloc (.cells #[.int .i64 (x : Int), .string t] 63)).cell? ⟨wr.heap.size, 0, none⟩ = some (.int .i64 (x : Int)) := by rw [cell_of_row _ _ _ _ _ _ (heap_alloc_new _ _)]; rfl
        have b1 : (wr.alloc (.cells #[.int .i64 (x : Int), .string t] 63)).cell? ⟨wr.heap.size, 1, none⟩ = some (.string t) := by rw [cell_of_row _ _ _ _ _ _ (heap_alloc_new _ _)]; rfl
        clear cw
        generalize wr.heap.size = X at b0 b1 ⊢
        generalize wr.alloc (.cells #[.int .i64 (x : Int), .string t] 63) = w1 at HD2 HO2 c1 c2 f2 b0 b1 ⊢
        go_still_tail 9, (by kernel_rfl)
        change wpList _ _ _ _ _ w1.drew
        go_wp2_with fail
        go_roundw
        case rel => exact ⟨k + 1, by omega, by go_num, HD2.out, HO2.out.drew⟩
        case measure => simp [intOf]; omega
      · obtain rfl : k = s.waits.length := by omega
        have cc := HD.out.cells
        have ff := HD.out.free 5
        have hwb := HD.out.good.flushes
        have hwb1 := hwb.1
        have hwb2 := hwb.2
        have hd5 : Dsk (wr.setCell ⟨d.D, 5, none⟩ (.int .i64 ((partS s s.waits.length).flushes + 1))) d (countF (partS s s.waits.length)) :=
          HD.out.store 5 _ (countF (partS s s.waits.length)) rfl rfl (countF_good HD.out.good hfl) rfl
        have HD5 := hid hd5; clear hd5
        have HO5 := hid (HO.out.store 5 (.int .i64 ((partS s s.waits.length).flushes + 1)))
        clear hwb
        go_wp2_with (first
          | (go_at_call 31; refine (burn_ok d (countF (partS s s.waits.length)) _ HD5.out).mono ?_; rintro e w4 ⟨rfl, hd6, ho6⟩; have HD6 := hid hd6; have HO6 := hid (HO5.out.trans (From.refl _ _) ho6); clear hd6 ho6)
          | (go_at_call 34; refine (forget_some d (burnS (countF (partS s s.waits.length))) _ HD6.out hn).mono ?_; rintro e w5 ⟨rfl, v, hd7, ho7, hf7⟩; have HD7 := hid hd7; have HO7 := hid (HO6.out.trans (From.refl _ _) ho7); have HF7 := hid hf7; have HS6 := hid HO6.out.size; clear hd7 ho7 hf7))
        go_ret
        exact ⟨rfl, v, HD7.out, HO7.out, (From.refl _ _).trans HF7.out HS6.out⟩

theorem part_none (s : St) (hn : s.waits = []) : partS s s.waits.length = s := by
  unfold partS; rw [hn]; cases s; simp_all [applyW]
set_option maxHeartbeats 1000000 in
theorem flush_none (d : Ptrs) (s : St) (w : World) (h : Dsk w d s) (hn : s.waits = []) (hfz : s.fuse ≠ 0) (hfl : s.flushes < 1000000) :
    Calls Try.prog 12 #[.pointer (some ⟨d.D, 0, none⟩)] w fun e w' => e = .returned (.int .i64 0) ∧ ∃ v, Dsk w' { d with wv := v } (flushS s) ∧ Only d w w' ∧ From d { d with wv := v } w := by
  have e3 : (s.fuse == 0) = false := by simpa using hfz
  have hwb1 := h.good.flushes.1
  have hwb2 := h.good.flushes.2
  have hd5 : Dsk (w.setCell ⟨d.D, 5, none⟩ (.int .i64 (s.flushes + 1))) d (countF s) := h.store 5 _ (countF s) rfl rfl (countF_good h.good hfl) rfl
  have HD5 := hid hd5; clear hd5
  have HO5 := hid ((Only.refl d w).store 5 (.int .i64 (s.flushes + 1)))
  have HE := hid (part_none s hn)
  have HN := hid hn
  have ff := h.free 5
  have c := h.cells
  have hown := h.waits
  rw [hn] at hown
  have HH := hid h
  have hvv : d.wv = .slice none 0 0 ∨ ∃ g cap, d.wv = .slice (some ⟨g, 0, none⟩) 0 cap := by
    rcases hown.2 with ⟨hv, _⟩ | ⟨g, cap, cur, hv, _⟩
    · exact .inl hv
    · exact .inr ⟨g, cap, hv⟩
  clear hown h hn
  rcases hvv with hv | ⟨g, cap, hv⟩
  · rw [hv] at c
    clear hv
    go_enter Try.func12, Try.ntmps12
    go_wp2_with (first
      | (go_at_call 29; refine (dead_ok d s _ HH.out).mono ?_; rintro e w' ⟨rfl, rfl⟩))
    go_loopw [16] (fun i wr => i = .int .i64 0 ∧ wr = w) (fun _ _ => 0)
    case atStart => exact ⟨rfl, rfl⟩
    case round =>
      obtain ⟨rfl, rfl⟩ := hrel
      go_wp2_with (first
        | (go_at_call 31; refine (burn_ok d (countF s) _ HD5.out).mono ?_; rintro e w4 ⟨rfl, hd6, ho6⟩; have HD6 := hid hd6; have HO6 := hid (HO5.out.trans (From.refl _ _) ho6); clear hd6 ho6)
        | (go_at_call 34; refine (forget_none d (burnS (countF s)) _ HD6.out HN.out).mono ?_; rintro e w5 ⟨rfl, v, hd7, ho7, hf7⟩; have HD7 := hid hd7; have HO7 := hid (HO6.out.trans (From.refl _ _) ho7); have HF7 := hid hf7; have HS6 := hid HO6.out.size; clear hd7 ho7 hf7))
      go_ret
      exact ⟨rfl, v, by unfold flushS; rw [HE.out]; exact HD7.out, HO7.out, (From.refl _ _).trans HF7.out HS6.out⟩
  · rw [hv] at c
    clear hv
    go_enter Try.func12, Try.ntmps12
    go_wp2_with (first
      | (go_at_call 29; refine (dead_ok d s _ HH.out).mono ?_; rintro e w' ⟨rfl, rfl⟩))
    go_loopw [16] (fun i wr => i = .int .i64 0 ∧ wr = w) (fun _ _ => 0)
    case atStart => exact ⟨rfl, rfl⟩
    case round =>
      obtain ⟨rfl, rfl⟩ := hrel
      go_wp2_with (first
        | (go_at_call 31; refine (burn_ok d (countF s) _ HD5.out).mono ?_; rintro e w4 ⟨rfl, hd6, ho6⟩; have HD6 := hid hd6; have HO6 := hid (HO5.out.trans (From.refl _ _) ho6); clear hd6 ho6)
        | (go_at_call 34; refine (forget_none d (burnS (countF s)) _ HD6.out HN.out).mono ?_; rintro e w5 ⟨rfl, v, hd7, ho7, hf7⟩; have HD7 := hid hd7; have HO7 := hid (HO6.out.trans (From.refl _ _) ho7); have HF7 := hid hf7; have HS6 := hid HO6.out.size; clear hd7 ho7 hf7))
      go_ret
      exact ⟨rfl, v, by unfold flushS; rw [HE.out]; exact HD7.out, HO7.out, (From.refl _ _).trans HF7.out HS6.out⟩
theorem flush_ok (d : Ptrs) (s : St) (w : World) (h : Dsk w d s) (hfz : s.fuse ≠ 0) (hfl : s.flushes < 1000000) :
    Calls Try.prog 12 #[.pointer (some ⟨d.D, 0, none⟩)] w fun e w' => e = .returned (.int .i64 (s.waits.length : Int)) ∧ ∃ v, Dsk w' { d with wv := v } (flushS s) ∧ Only d w w' ∧ From d { d with wv := v } w := by
  by_cases hn : s.waits = []
  · have := flush_none d s w h hn hfz hfl
    rw [hn]; exact this
  · exact flush_some d s w h (by have := List.length_pos_iff.2 hn; omega) hfz hfl
set_option maxHeartbeats 400000 in
theorem flush_dead (d : Ptrs) (s : St) (w : World) (h : Dsk w d s) (hfz : s.fuse = 0) :
    Calls Try.prog 12 #[.pointer (some ⟨d.D, 0, none⟩)] w fun e w' => e = .returned (.int .i64 0) ∧ w = w' := by
  have e3 : (s.fuse == 0) = true := by simpa using hfz
  have HH := hid h; clear h hfz
  go_enter Try.func12, Try.ntmps12
  go_wp2_with (go_at_call 29; refine (dead_ok d s _ HH.out).mono ?_; rintro e w' ⟨rfl, rfl⟩)
  go_ret
  exact ⟨rfl, rfl⟩
set_option maxHeartbeats 400000 in
theorem flush_nil (w : World) :
    Calls Try.prog 12 #[.pointer none] w fun e w' => e = .returned (.int .i64 0) ∧ w = w' := by
  go_enter Try.func12, Try.ntmps12
  go_wp2_with fail
  go_ret
  exact ⟨rfl, rfl⟩
end Go.Proofs.Ytjjplkfgihogkaa.Dk
