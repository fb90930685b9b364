/- The document's own disk: burn, Write, Flush. -/
import Derived.Test.YtjjplkfgihogkaaDkRk
namespace Go.Proofs.Ytjjplkfgihogkaa.Dk
open Go.RowKit
open Go.Lib (hid)

set_option maxHeartbeats 400000 in
theorem rburn_ok (d : Ptrs) (s : St) (w : World) (h : Rk w d s) :
    Calls Try.prog 32 #[.pointer (some ⟨d.D, 0, none⟩)] w fun e w' => e = .returned (.tuple #[]) ∧ Rk w' d (burnS s) ∧ Only d w w' := by
  have c := h.cells
  have f := h.free 5
  have hg := h.good.fuse
  by_cases hf : 0 < s.fuse
  · have hd : Rk (w.setCell ⟨d.D, 5, none⟩ (.int .i64 (s.fuse - 1))) d (burnS s) :=
      h.store 5 _ (burnS s) rfl rfl (burn_good h.good) (by simp [burnS, burnI, hf])
    have HS := hid (And.intro hd ((Only.refl d w).store 5 (.int .i64 (s.fuse - 1)))); clear h hd
    go_enter Try.func32, Try.ntmps32
    go_wp2_with fail
    refine bodyPost_end (v := .tuple #[]) (by simp [results, Try.results32, go_sem]) rfl ⟨rfl, ?_⟩
    exact HS.out
  · have e : burnS s = s := by unfold burnS burnI; rw [if_neg hf]
    have HS := hid h; clear h
    rw [e]
    go_enter Try.func32, Try.ntmps32
    go_wp2_with fail
    refine bodyPost_end (v := .tuple #[]) (by simp [results, Try.results32, go_sem]) rfl ⟨rfl, ?_⟩
    exact ⟨HS.out, Only.refl _ _⟩
theorem rinfo : (Try.prog.info? 66).map (fun i => (i.zero, i.size, i.bytes)) = some (some (.agg #[.int .i64 0, .string ⟨#[]⟩]), 2, 24) := by kernel_rfl
set_option maxRecDepth 100000 in
set_option maxHeartbeats 1000000 in
theorem rwrite_ok (d : Ptrs) (s : St) (n : Nat) (t : ByteArray) (w : World) (h : Rk w d s) (hn : n < s.pages.length) (ht : t.size = 256) (hfz : s.fuse ≠ 0) (hf : s.waits.length < 1000000) (hw : s.writes < 1000000) :
    Calls Try.prog 9 #[.pointer (some ⟨d.D, 0, none⟩), .int .i64 n, .string t] w fun e w' => e = .returned (.int .i64 0) ∧ ∃ v, Rk w' { d with wv := v } (writeS s n t) ∧ Only d w w' ∧ From d { d with wv := v } w := by
  obtain ⟨i0, hi0, hz0, hz1, hz2⟩ := info_parts rinfo
  have e1 : decide ((n : Int) < 0) = false := by simp
  have e2 : decide ((s.pages.length : Int) ≤ (n : Int)) = false := decide_eq_false (by omega)
  have e2' : decide (s.pages.length ≤ n) = false := decide_eq_false (by omega)
  have e3 : ((t.size : Int) != 256) = false := by simp; omega
  have e4 : (s.fuse == 0) = false := by simpa using hfz
  have hmax : s.waits.length + 1 ≤ maxLen := by unfold maxLen; omega
  have hby : (s.waits.length + 1) * 24 ≤ 140737488355328 := by omega
  have HH := hid h
  obtain ⟨c0, c1, c2, c3, c4, c5⟩ := h.cells
  have HN := hid (And.intro hn (And.intro ht hf))
  have HW := hid hw
  clear h hn ht hf hfz hw
  go_enter Try.func9, Try.ntmps9
  go_wp2_with fail
  refine (rburn_ok d s _ HH.out).mono ?_
  rintro e w1 ⟨rfl, hd, ho⟩
  have H1 := hid hd; have HO1 := hid ho
  clear e1 e2 e2' e3 e4 c0 c1 c2 c3 c4 c5 ho
  obtain ⟨-, c1, -, -, -, -⟩ := hd.cells
  clear hd
  go_wp2_with (at_builtin; refine wpList_append_lies _ rfl _ _ 41 rfl 0 66 i0 (.agg #[.int .i64 0, .string ⟨#[]⟩]) 2 24 Try.underlying41 hi0 hz0 hz1 hz2 rfl (by decide) d.wv s.waits.length (wcells s.waits) rfl (H1.out.waits.alloc _) ⟨w1.heap.size, 0, none⟩ 1 1 [.int .i64 n, .string t] (by rfl) (by rfl) (World.news_of_block (cs := #[.int .i64 n, .string t]) (t := 66) (fr := (0, 0)) (heap_alloc_new w1 _)) (by simp [Value.oneCell']) (by omega) hmax hby (by omega) (w1.heap.size + 1) (by simp) ?_)
  intro gg cap w2 hown hgrow hat hlt
  have hA := H1.out.below ((Below.refl w1.heap.size w1).alloc (Nat.le_refl _) (.cells #[.int .i64 n, .string t] 66))
  have hD := hA.pushed HN.out.1 HN.out.2.1 HN.out.2.2 hown hgrow (by simpa using hat)
  have hon : Only d w (w1.alloc (.cells #[.int .i64 n, .string t] 66)) := HO1.out.alloc _
  have hon2 := Only.pushed hon (v := .slice (some ⟨gg, 0, none⟩) (s.waits.length + 1) cap) hgrow
  have hfr : From d { d with wv := .slice (some ⟨gg, 0, none⟩) (s.waits.length + 1) cap } w := by
    rintro k (rfl | rfl | hk)
    · exact .inl (.inl rfl)
    · exact .inl (.inr (.inl rfl))
    · have : gg = k := by injection hk
      subst this
      rcases hat with h1 | h1
      · exact .inl (.inr (.inr h1))
      · right; have := HO1.out.size; omega
  have q4 : w2.cell? ⟨d.D, 1, none⟩ = some d.wv := by rw [hgrow.cell_far _ (by have := H1.out.ltD; simp; omega) (fun e => H1.out.dw e.symm)]; exact hA.cells.2.1
  have q3 : w2.frozen? ⟨d.D, 1, none⟩ = false := by rw [hgrow.frozen_far _ (by have := H1.out.ltD; simp; omega) (fun e => H1.out.dw e.symm)]; exact hA.free 1
  have HD := hid hD; have HON := hid hon2; have HF := hid hfr
  have hwb := hD.good.writes
  have hwb1 : 0 ≤ s.writes := hwb.1
  have hwb2 : s.writes ≤ 1000000 := hwb.2
  have x3 : (w2.setCell ⟨d.D, 1, none⟩ (.slice (some ⟨gg, 0, none⟩) (s.waits.length + 1) cap)).cell? ⟨d.D, 3, none⟩ = some (.int .i64 s.writes) := hD.cells.2.2.2.1
  have f3 : (w2.setCell ⟨d.D, 1, none⟩ (.slice (some ⟨gg, 0, none⟩) (s.waits.length + 1) cap)).frozen? ⟨d.D, 3, none⟩ = false := hD.free 3
  have hd4 : Rk ((w2.setCell ⟨d.D, 1, none⟩ (.slice (some ⟨gg, 0, none⟩) (s.waits.length + 1) cap)).setCell ⟨d.D, 3, none⟩ (.int .i64 (s.writes + 1))) { d with wv := .slice (some ⟨gg, 0, none⟩) (s.waits.length + 1) cap } (writeS s n t) :=
    hD.store 3 _ (countW (pushS (burnS s) n t)) rfl rfl (countW_good hD.good HW.out) rfl
  have HD4 := hid hd4
  have HON4 := hid (hon2.store 3 (.int .i64 (s.writes + 1)))
  clear hA hD hon hon2 hfr hown hgrow hat hlt hwb hd4 c1
  go_wp2_with fail
  go_ret
  exact ⟨rfl, _, HD4.out, HON4.out, HF.out⟩
set_option maxHeartbeats 1000000 in
theorem rwrite_bad (d : Ptrs) (s : St) (n : Int) (t : ByteArray) (w : World) (h : Rk w d s) (hb : n < 0 ∨ s.pages.length ≤ n ∨ t.size ≠ 256 ∨ s.fuse = 0) :
    Calls Try.prog 9 #[.pointer (some ⟨d.D, 0, none⟩), .int .i64 n, .string t] w fun e w' => e = .returned (.int .i64 1) ∧ w = w' := by
  obtain ⟨c0, c1, c2, c3, c4, c5⟩ := h.cells
  clear h
  by_cases h1 : n < 0
  · have e1 : decide (n < 0) = true := decide_eq_true h1
    clear hb h1
    go_enter Try.func9, Try.ntmps9
    go_wp2_with fail
    go_ret
    exact ⟨rfl, rfl⟩
  · have e1 : decide (n < 0) = false := decide_eq_false h1
    by_cases h2 : (s.pages.length : Int) ≤ n
    · have e2 : decide ((s.pages.length : Int) ≤ n) = true := decide_eq_true h2
      clear hb h1 h2
      go_enter Try.func9, Try.ntmps9
      go_wp2_with fail
      go_ret
      exact ⟨rfl, rfl⟩
    · have e2 : decide ((s.pages.length : Int) ≤ n) = false := decide_eq_false h2
      by_cases h3 : t.size = 256
      · have e3 : ((t.size : Int) != 256) = false := by simp; omega
        have h4 : s.fuse = 0 := by omega
        have e4 : (s.fuse == 0) = true := by simpa using h4
        clear hb h1 h2 h3 h4
        go_enter Try.func9, Try.ntmps9
        go_wp2_with fail
        go_ret
        exact ⟨rfl, rfl⟩
      · have e3 : ((t.size : Int) != 256) = true := by simp; omega
        clear hb h1 h2 h3
        go_enter Try.func9, Try.ntmps9
        go_wp2_with fail
        go_ret
        exact ⟨rfl, rfl⟩
set_option maxHeartbeats 400000 in
theorem rflush_dead (d : Ptrs) (s : St) (w : World) (h : Rk w d s) (hfz : s.fuse = 0) :
    Calls Try.prog 13 #[.pointer (some ⟨d.D, 0, none⟩)] w fun e w' => e = .returned (.int .i64 0) ∧ w = w' := by
  have e3 : (s.fuse == 0) = true := by simpa using hfz
  obtain ⟨c0, c1, c2, c3, c4, c5⟩ := h.cells
  clear h hfz
  go_enter Try.func13, Try.ntmps13
  go_wp2_with fail
  go_ret
  exact ⟨rfl, rfl⟩
set_option maxRecDepth 100000 in
set_option maxHeartbeats 4000000 in
theorem rflush_ok (d : Ptrs) (s : St) (w : World) (h : Rk w d s) (hfz : s.fuse ≠ 0) (hfl : s.flushes < 1000000) :
    Calls Try.prog 13 #[.pointer (some ⟨d.D, 0, none⟩)] w fun e w' => e = .returned (.int .i64 (s.waits.length : Int)) ∧ ∃ v, Rk w' { d with wv := v } (flushS s) ∧ Only d w w' ∧ From d { d with wv := v } w := by
  have e3 : (s.fuse == 0) = false := by simpa using hfz
  obtain ⟨c0, c1, c2, c3, c4, c5⟩ := h.cells
  have HH := hid h
  have HFL := hid hfl
  clear h hfz hfl
  go_enter Try.func13, Try.ntmps13
  go_wp2_with fail
  refine (rburn_ok d s _ HH.out).mono ?_
  rintro e w1 ⟨rfl, hd, ho⟩
  have H1 := hid hd; have HO1 := hid ho
  clear e3 c0 c1 c2 c3 c4 c5 hd ho
  obtain ⟨p, cap, hv⟩ := HH.out.waitsAt
  have HV := hid hv
  go_wp2_with fail
  go_loopw [3] (fun i wr => ∃ k : Nat, k ≤ s.waits.length ∧ i = .int .i64 k ∧ Rk wr d (partS (burnS s) k) ∧ Only d w wr) (fun i _ => s.waits.length - (intOf i).toNat)
  case atStart => exact ⟨0, by omega, rfl, H1.out, HO1.out⟩
  case round =>
    obtain ⟨k, hk, rfl, hD, hO⟩ := hrel
    have HD := hid hD; have HO := hid hO
    obtain ⟨c0, c1, c2, c3, c4, c5⟩ := hD.cells
    rw [hv] at c1
    change wr.cell? _ = some (Value.int .i64 s.flushes) at c4
    have hfew : s.waits.length ≤ 1000000 := HH.out.good.few
    clear hD hO hv
    by_cases hlt : k < s.waits.length
    · have e1 : decide ((k : Int) < (s.waits.length : Int)) = true := by simpa using hlt
      have e1' : decide (k < s.waits.length) = true := by simpa using hlt
      have z0 : (0 : Int) ≤ (k : Int) := by omega
      have z1 : (k : Int) < (s.waits.length : Int) := by omega
      obtain ⟨gw, rfl⟩ := HH.out.someAt HV.out (by omega)
      obtain ⟨x, hx⟩ : ∃ x, s.waits[k].1 = x := ⟨_, rfl⟩
      obtain ⟨t, ht⟩ : ∃ t, s.waits[k].2 = t := ⟨_, rfl⟩
      have cw : wr.cell? ⟨gw, k * 2, none⟩ = some (.int .i64 (x : Int)) ∧ wr.cell? ⟨gw, k * 2 + 1, none⟩ = some (.string t) := by
        have := HD.out.wait HV.out k hlt
        rw [← hx, ← ht]; exact this
      obtain ⟨cw1, cw2⟩ := cw
      have hxl : x < (partS (burnS s) k).pages.length := by
        have := (HH.out.good.wait s.waits[k] (List.getElem_mem hlt)).1
        rw [hx] at this
        show x < (applyW s.pages _).length
        rw [applyW_length]; exact this
      have hmore : (partS (burnS s) (k + 1)).pages = (partS (burnS s) k).pages.set x t := by
        have h := part_more s k hlt
        rw [hx, ht] at h; exact h
      have HM := hid hmore
      have c6 := HD.out.page x hxl
      have f6 := HD.out.pfree x
      have hpl : (partS (burnS s) k).pages.length ≤ 1000 := (part_good (burn_good HH.out.good) k).n2
      have z2 : (x : Int) < ((partS (burnS s) k).pages.length : Int) := by omega
      have z3 : (0 : Int) ≤ (x : Int) := by omega
      have HD2 := hid (HD.out.putPage x t (partS (burnS s) (k + 1)) HM.out rfl rfl rfl rfl rfl (part_good (burn_good HH.out.good) (k + 1)))
      have HO2 := hid (HO.out.putPage x (.string t))
      have HW := hid (show wrap64 ((k : Int) + 1) = ((k + 1 : Nat) : Int) from Go.IntWalk.wrap64_in _ (by omega))
      have HLT := hid hlt
      have n1 : d.D ≠ d.P := HD.out.dp
      have n2 : d.P ≠ d.D := Ne.symm HD.out.dp
      have n3 : gw ≠ d.P := fun e => HD.out.pw (by rw [HV.out, e]; rfl)
      have n4 : d.P ≠ gw := Ne.symm n3
      clear hx ht hmore
      go_wp2_with fail
      go_region_held3 (fun w' => w'.cell? ⟨d.D, 0, none⟩ = some (.slice (some ⟨d.P, 0, none⟩) (partS (burnS s) k).pages.length d.cp) ∧ w'.cell? ⟨d.D, 1, none⟩ = some (.slice (some ⟨gw, 0, none⟩) s.waits.length cap) ∧ w'.cell? ⟨gw, k * 2, none⟩ = some (.int .i64 (x : Int)) ∧ w'.cell? ⟨gw, k * 2 + 1, none⟩ = some (.string t)) (first | exact ⟨c0, c1, cw1, cw2⟩ | go_keep) (fail)
      go_wp2_with fail
      go_roundw
      case rel => exact ⟨k + 1, HLT.out, by go_num, HD2.out.drew, HO2.out.drew⟩
      case measure => simp [intOf]; omega
    · obtain rfl : k = s.waits.length := by omega
      have e1 : decide ((s.waits.length : Int) < (s.waits.length : Int)) = false := by simp
      have f1 := HD.out.free 1
      have hg := HD.out.gone
      have HG := hid hg
      have HGO := hid (HO.out.store 1 (.slice none 0 0))
      have x4 : (wr.setCell ⟨d.D, 1, none⟩ (.slice none 0 0)).cell? ⟨d.D, 4, none⟩ = some (.int .i64 s.flushes) := hg.cells.2.2.2.2.1
      have f4 : (wr.setCell ⟨d.D, 1, none⟩ (.slice none 0 0)).frozen? ⟨d.D, 4, none⟩ = false := hg.free 4
      have hb1 : 0 ≤ s.flushes := HH.out.good.flushes.1
      have hb2 : s.flushes ≤ 1000000 := HH.out.good.flushes.2
      have HG4 := hid (show Rk ((wr.setCell ⟨d.D, 1, none⟩ (.slice none 0 0)).setCell ⟨d.D, 4, none⟩ (.int .i64 (s.flushes + 1))) { d with wv := .slice none 0 0 } (flushS s) from
        hg.store 4 _ (countF (noWaits (partS (burnS s) (burnS s).waits.length))) rfl rfl (countF_good hg.good HFL.out) rfl)
      have HGO4 := hid (HGO.out.store 4 (.int .i64 (s.flushes + 1)))
      clear hg hk hlt
      go_wp2_with fail
      go_ret
      refine ⟨rfl, _, HG4.out, HGO4.out, ?_⟩
      rintro k (rfl | rfl | hk)
      · exact .inl (.inl rfl)
      · exact .inl (.inr (.inl rfl))
      · cases hk
end Go.Proofs.Ytjjplkfgihogkaa.Dk
