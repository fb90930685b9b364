/- Crash of disk. -/
import Derived.Test.YtjjplkfgihogkaaDkCome2
namespace Go.Proofs.Ytjjplkfgihogkaa.Dk
open Go.RowKit
open Go.Lib (hid)

theorem emptyB_nil : emptyB.toList.isEmpty = true := by
  rw [← decide_eq_emptyBytes]; exact decide_eq_true rfl
/-- the pages when the first k of the writes have come, each with its bytes, where it has any -/
def crashP (s : St) (o : List ByteArray) : Nat → List ByteArray
  | 0 => s.pages
  | k + 1 => if (o.getD k emptyB).toList.isEmpty then crashP s o k else (crashP s o k).set (s.waits.getD k (0, emptyB)).1 (o.getD k emptyB)
def comeK (s : St) (o : List ByteArray) (k : Nat) : St := { s with pages := crashP s o k }
def noFuse (s : St) : St := { s with fuse := -1 }
def crashS (s : St) (o : List ByteArray) : St := noFuse (noWaits (comeK s o s.waits.length))
theorem crashP_length (s : St) (o : List ByteArray) (k : Nat) : (crashP s o k).length = s.pages.length := by
  induction k with
  | zero => rfl
  | succ k ih =>
    unfold crashP
    by_cases h : (o.getD k emptyB).toList.isEmpty = true
    · rw [if_pos h]; exact ih
    · rw [if_neg h, List.length_set]; exact ih
/-- each write that comes, comes with a page's bytes -/
def Pages (o : List ByteArray) : Prop := ∀ p ∈ o, p.toList.isEmpty = true ∨ p.size = 256
theorem crashP_sizes {s : St} (h : Good s) {o : List ByteArray} (ho : Pages o) (k : Nat) : ∀ p ∈ crashP s o k, p.size = 256 := by
  induction k with
  | zero => exact h.sizes
  | succ k ih =>
    intro p hp
    unfold crashP at hp
    by_cases he : (o.getD k emptyB).toList.isEmpty = true
    · rw [if_pos he] at hp; exact ih p hp
    · rw [if_neg he] at hp
      rcases List.mem_or_eq_of_mem_set hp with h1 | h1
      · exact ih p h1
      · rw [h1]
        by_cases hk : k < o.length
        · have e : o.getD k emptyB = o[k] := by simp [List.getD, hk]
          rw [e] at he ⊢
          rcases ho _ (List.getElem_mem hk) with h2 | h2
          · exact absurd h2 he
          · exact h2
        · have e : o.getD k emptyB = emptyB := by simp [List.getD, hk]
          rw [e] at he
          exact absurd emptyB_nil he
theorem comeK_good {s : St} (h : Good s) {o : List ByteArray} (ho : Pages o) (k : Nat) : Good (comeK s o k) := by
  have e : (comeK s o k).pages.length = s.pages.length := crashP_length _ _ _
  exact ⟨by rw [e]; exact h.n1, by rw [e]; exact h.n2, crashP_sizes h ho k, fun x hx => by rw [e]; exact h.wait x hx, h.few, h.fuse, h.reads, h.writes, h.flushes⟩
theorem noFuse_good {s : St} (h : Good s) : Good (noFuse s) :=
  ⟨h.n1, h.n2, h.sizes, h.wait, h.few, by show (-1 : Int) ≤ -1 ∧ (-1 : Int) ≤ 9223372036854775807; omega, h.reads, h.writes, h.flushes⟩
theorem keepL_pages {s : St} (h : Good s) (a : List Int) (o o' : List ByteArray) (hk : keepL s a o = some o') (hl : o.length = s.waits.length) (ho : Pages o) : Pages o' := by
  induction a generalizing o with
  | nil => simp only [keepL] at hk; injection hk with hk; rw [← hk]; exact ho
  | cons i r ih =>
    simp only [keepL] at hk
    by_cases hf : freeB o i = true
    · rw [if_pos hf] at hk
      refine ih _ hk (by rw [List.length_set]; exact hl) (fun p hp => ?_)
      rcases List.mem_or_eq_of_mem_set hp with h1 | h1
      · exact ho p h1
      · right
        have hi := freeB_lt hf
        have hj : i.toNat < s.waits.length := by omega
        rw [h1, textAt_of s _ hj]
        exact (h.wait _ (List.getElem_mem hj)).2
    · rw [if_neg hf] at hk; cases hk
theorem come_pages {s : St} (h : Good s) (ks : List Int) (torn a : Int) (o : List ByteArray) (hc : comeS s ks torn a = some o) : Pages o := by
  unfold comeS at hc
  have h0 : Pages (none0 s) := fun p hp => by
    unfold none0 at hp
    rw [(List.mem_replicate.1 hp).2]; exact .inl emptyB_nil
  cases hk : keepL s ks (none0 s) with
  | none => rw [hk] at hc; cases hc
  | some o1 =>
    rw [hk] at hc
    have h1 := keepL_pages h ks _ _ hk (by simp [none0]) h0
    have hl := keepL_length s ks _ _ hk
    simp only at hc
    by_cases ht : torn = -1
    · rw [if_pos ht] at hc; injection hc with hc; rw [← hc]; exact h1
    · rw [if_neg ht] at hc
      by_cases hf : freeB o1 torn = true
      · rw [if_pos hf] at hc
        by_cases ha : 0 ≤ a ∧ a ≤ 256
        · rw [if_pos ha] at hc
          injection hc with hc
          intro p hp
          rw [← hc] at hp
          rcases List.mem_or_eq_of_mem_set hp with h2 | h2
          · exact h1 p h2
          · right
            have hi := freeB_lt hf
            have hj : torn.toNat < s.waits.length := by rw [hl] at hi; simp [none0] at hi; omega
            have hs := (h.wait _ (List.getElem_mem hj)).2
            rw [← textAt_of s _ hj] at hs
            have hs' : (textAt s torn.toNat).data.toList.length = 256 := hs
            rw [h2]
            show (Pg.tornL (textAt s torn.toNat).data.toList a.toNat).toArray.size = 256
            rw [List.size_toArray]
            simp only [Pg.tornL, List.length_append, List.length_take, List.length_replicate]
            omega
        · rw [if_neg ha] at hc; cases hc
      · rw [if_neg hf] at hc; cases hc
theorem row_cell {w : World} {g : Nat} {o : List ByteArray} (h : w.heap[g]? = some (.cells (sv o).toArray 9 (0, 0))) (i : Nat) (hi : i < o.length) : w.cell? ⟨g, i, none⟩ = some (.string o[i]) := by
  rw [cell_of_row _ _ _ _ _ _ h]
  simp [sv, hi]
theorem crashP_none (s : St) (o : List ByteArray) (k : Nat) (hk : k < o.length) (h : o[k].toList.isEmpty = true) : comeK s o (k + 1) = comeK s o k := by
  have e : o.getD k emptyB = o[k] := by simp [List.getD, hk]
  have : crashP s o (k + 1) = crashP s o k := by
    show (if (o.getD k emptyB).toList.isEmpty then _ else _) = _
    rw [e, if_pos h]
  unfold comeK; rw [this]
theorem crashP_some (s : St) (o : List ByteArray) (k : Nat) (hk : k < o.length) (hw : k < s.waits.length) (h : o[k].toList.isEmpty = false) : (comeK s o (k + 1)).pages = (comeK s o k).pages.set s.waits[k].1 o[k] := by
  have e : o.getD k emptyB = o[k] := by simp [List.getD, hk]
  have e2 : s.waits.getD k (0, emptyB) = s.waits[k] := by simp [List.getD, hw]
  show (if (o.getD k emptyB).toList.isEmpty then _ else _) = _
  rw [e, if_neg (by rw [h]; simp), e2]; rfl

set_option maxRecDepth 100000 in
set_option maxHeartbeats 3200000 in
theorem crash_ok (d : Ptrs) (s : St) (w : World) (h : Dsk w d s) (q : Option Addr) (c : Nat) (ks : List Int)
    (hks : Kept w q ks) (hkm : ks.length ≤ maxLen) (torn a : Int) (o : List ByteArray) (hc : comeS s ks torn a = some o) :
    Calls Try.prog 15 #[.pointer (some ⟨d.D, 0, none⟩), .slice q ks.length c, .int .i64 torn, .int .i64 a] w fun e w' => e = .returned (.int .i64 0) ∧ ∃ v, Dsk w' { d with wv := v } (crashS s o) ∧ Only d w w' ∧ From d { d with wv := v } w := by
  obtain ⟨p, cap, hv⟩ := h.waitsAt
  have hfew := h.good.few
  have HPG := hid (come_pages h.good ks torn a o hc)
  have HCOME := hid (come_A d s w h p cap hv q c ks hks hkm torn a)
  have HC := hid hc
  have HH := hid h
  have HV := hid hv
  clear h hv hks hc hkm
  go_enter Try.func15, Try.ntmps15
  go_wp2_with (go_at_call 35; refine HCOME.out.mono ?_; rintro e w1 ⟨hb1, hm1⟩; rw [HC.out] at hm1; obtain ⟨g, hge, he, hg1, hol⟩ := hm1; rw [hol] at he; subst he; have HB1 := hid hb1; have HG1 := hid hg1; have HGE := hid hge; have HOL := hid hol; have HD1 := hid (HH.out.below hb1); have c1 := HD1.out.cells; rw [HV.out] at c1; clear hb1 hg1 hge hol)
  clear c1
  go_loopw [30] (fun i wr => ∃ k : Nat, k ≤ s.waits.length ∧ i = .int .i64 k ∧ Dsk wr d (comeK s o k) ∧ Only d w wr ∧ wr.heap[g]? = some (.cells (sv o).toArray 9 (0, 0))) (fun i _ => s.waits.length - (intOf i).toNat)
  case atStart => exact ⟨0, by omega, rfl, HD1.out, Only.below HB1.out, HG1.out⟩
  case round =>
    obtain ⟨k, hk, rfl, hD, hO, hG⟩ := hrel
    have HD := hid hD; have HO := hid hO; have HG := hid hG; clear hD hO hG
    by_cases hlt : k < s.waits.length
    · obtain ⟨gw, rfl⟩ := HH.out.someAt HV.out (by omega)
      have hko : k < o.length := by have := HOL.out; omega
      obtain ⟨x, hx⟩ : ∃ x, s.waits[k].1 = x := ⟨_, rfl⟩
      obtain ⟨t, ht⟩ : ∃ t, s.waits[k].2 = t := ⟨_, rfl⟩
      obtain ⟨u, hu⟩ : ∃ u, o[k] = u := ⟨_, rfl⟩
      have cw : wr.cell? ⟨gw, k * 2, none⟩ = some (.int .i64 (x : Int)) ∧ wr.cell? ⟨gw, k * 2 + 1, none⟩ = some (.string t) := by
        have := HD.out.wait HV.out k hlt
        rw [← hx, ← ht]; exact this
      have hG2 : (wr.alloc (.cells #[.int .i64 (x : Int), .string t] 63)).heap[g]? = some (.cells (sv o).toArray 9 (0, 0)) := by
        rw [Below.heap_alloc _ _ _ (Array.getElem?_eq_some_iff.1 HG.out).1]; exact HG.out
      have HG2 := hid hG2; clear hG2
      have cu : (wr.alloc (.cells #[.int .i64 (x : Int), .string t] 63)).cell? ⟨g, k, none⟩ = some (.string u) := by rw [row_cell HG2.out k hko, hu]
      cases e2 : u.toList.isEmpty
      · have hxl : x < (comeK s o k).pages.length := by
          have := (HH.out.good.wait s.waits[k] (List.getElem_mem hlt)).1
          rw [hx] at this
          show x < (crashP s o k).length
          rw [crashP_length]; exact this
        have hmore := crashP_some s o k hko hlt (by rw [hu]; exact e2)
        rw [hx, hu] at hmore
        have HM := hid hmore; clear hmore hx ht hu
        have c1 := (HD.out.alloc (.cells #[.int .i64 (x : Int), .string t] 63)).cells.1
        have c2 := (HD.out.alloc (.cells #[.int .i64 (x : Int), .string t] 63)).page x hxl
        have f2 := (HD.out.alloc (.cells #[.int .i64 (x : Int), .string t] 63)).pfree x
        have hpl : (comeK s o k).pages.length ≤ 1000 := (comeK_good HH.out.good HPG.out k).n2
        have hd2 := (HD.out.alloc (.cells #[.int .i64 (x : Int), .string t] 63)).drew.putPage x u (comeK s o (k + 1)) HM.out rfl rfl rfl rfl rfl (comeK_good HH.out.good HPG.out (k + 1))
        have ho2 := ((HO.out.alloc (.cells #[.int .i64 (x : Int), .string t] 63)).putPage x (.string u))
        have HD2 := hid hd2; have HO2 := hid ho2; clear hd2 ho2
        have b0 : (wr.alloc (.cells #[.int .i64 (x : Int), .string t] 63)).cell? ⟨wr.heap.size, 0, none⟩ = some (.int .i64 (x : Int)) := by rw [cell_of_row _ _ _ _ _ _ (heap_alloc_new _ _)]; rfl
        go_wp2_with fail
        clear cw
        generalize wr.heap.size = X at b0 ⊢
        generalize wr.alloc (.cells #[.int .i64 (x : Int), .string t] 63) = w2 at HD2 HO2 HG2 c1 c2 f2 b0 cu ⊢
        go_still_tail 11, (by kernel_rfl)
        change wpList _ _ _ _ _ w2.drew
        go_wp2_with fail
        go_roundw
        case rel =>
          refine ⟨k + 1, by omega, by go_num, HD2.out, HO2.out.drew, ?_⟩
          show (w2.setCell ⟨d.P, x, none⟩ (.string u)).heap[g]? = _
          rw [heap_setCell_other _ _ _ _ (by have := HH.out.ltP; have := HGE.out; show g ≠ d.P; omega)]
          exact HG2.out
        case measure => simp [intOf]; omega
      · have hsame := crashP_none s o k hko (by rw [hu]; exact e2)
        have HS := hid hsame; clear hsame hx ht hu
        have HD2 := hid (HD.out.alloc (.cells #[.int .i64 (x : Int), .string t] 63))
        have HO2 := hid (HO.out.alloc (.cells #[.int .i64 (x : Int), .string t] 63))
        go_wp2_with fail
        go_roundw
        case rel => exact ⟨k + 1, by omega, by go_num, by rw [HS.out]; exact HD2.out, HO2.out, HG2.out⟩
        case measure => simp [intOf]; omega
    · obtain rfl : k = s.waits.length := by omega
      by_cases hn : 0 < s.waits.length
      · go_wp2_with (go_at_call 34; refine (forget_some d (comeK s o s.waits.length) _ HD.out hn).mono ?_; rintro e w5 ⟨rfl, v, hd7, ho7, hf7⟩; have HD7 := hid hd7; have HO7 := hid (HO.out.trans (From.refl _ _) ho7); have HF7 := hid hf7; have HS6 := hid HO.out.size; have c7 := HD7.out.free 2; have c8 := HD7.out.cells; have hd8 := HD7.out.store 2 (.int .i64 (-1)) (noFuse (noWaits (comeK s o s.waits.length))) rfl rfl (noFuse_good HD7.out.good) rfl; have HD8 := hid hd8; clear hd7 ho7 hf7 hd8)
        go_ret
        exact ⟨rfl, v, HD8.out, HO7.out.store 2 _, (From.refl _ _).trans HF7.out HS6.out⟩
      · have hn0 : (comeK s o s.waits.length).waits = [] := List.length_eq_zero_iff.1 (by show s.waits.length = 0; omega)
        have HN0 := hid hn0; clear hn0
        go_wp2_with (go_at_call 34; refine (forget_none d (comeK s o s.waits.length) _ HD.out HN0.out).mono ?_; rintro e w5 ⟨rfl, v, hd7, ho7, hf7⟩; have HD7 := hid hd7; have HO7 := hid (HO.out.trans (From.refl _ _) ho7); have HF7 := hid hf7; have HS6 := hid HO.out.size; have c7 := HD7.out.free 2; have c8 := HD7.out.cells; have hd8 := HD7.out.store 2 (.int .i64 (-1)) (noFuse (noWaits (comeK s o s.waits.length))) rfl rfl (noFuse_good HD7.out.good) rfl; have HD8 := hid hd8; clear hd7 ho7 hf7 hd8)
        go_ret
        exact ⟨rfl, v, HD8.out, HO7.out.store 2 _, (From.refl _ _).trans HF7.out HS6.out⟩
end Go.Proofs.Ytjjplkfgihogkaa.Dk
