/- The document's own disk: Crash. -/
import Derived.Test.YtjjplkfgihogkaaDkRrd
import Derived.Test.YtjjplkfgihogkaaDkRcm
import Derived.Test.YtjjplkfgihogkaaPgRTorn
import Derived.Test.YtjjplkfgihogkaaDkHas
import Derived.Deep.RegionHeld3
namespace Go.Proofs.Ytjjplkfgihogkaa.Dk
open Go.RowKit
open Go.Lib (hid)

theorem kept_below {w w' : World} {q : Option Addr} {ks : List Int} (h : Kept w q ks) (hb : Below w.heap.size w w') : Kept w' q ks := fun j hj => by
  obtain ⟨b, off, e, hlt, hc⟩ := h j hj
  exact ⟨b, off, e, Nat.lt_of_lt_of_le hlt hb.size, (hb.cell (p := ⟨b, off + j, none⟩) hlt).trans hc⟩
theorem kept_cells {w : World} {q : Option Addr} {ks : List Int} (h : Kept w q ks) (k : Nat) : CellsAt w q (iv (ks.take k)) := fun j hj => by
  rw [iv_length, List.length_take] at hj
  obtain ⟨b, off, e, hlt, hc⟩ := h j (by omega)
  exact ⟨b, off, e, by rw [hc]; simp [iv]⟩
theorem kept_all {w : World} {q : Option Addr} {ks : List Int} (h : Kept w q ks) : CellsAt w q (iv ks) := by
  have := kept_cells h ks.length
  rwa [List.take_length] at this
theorem kept_only {w wr : World} {d : Ptrs} {q : Option Addr} {ks : List Int} (h : Kept w q ks) (ho : Only d w wr) (hfar : ∀ b off, q = some ⟨b, off, none⟩ → 0 < ks.length → ¬ Foot d b) : Kept wr q ks := fun j hj => by
  obtain ⟨b, off, e, hlt, hc⟩ := h j hj
  exact ⟨b, off, e, Nat.lt_of_lt_of_le hlt ho.size, by rw [World.cell?_of_block (ho.block b hlt (hfar b off e (by omega)))]; exact hc⟩
/-- what Crash of the document answers -/
def CrashPost (d : Ptrs) (s : St) (ks : List Int) (torn a : Int) (w : World) (e : Ending) (w' : World) : Prop :=
  (∃ o, comeS s ks torn a = some o ∧ e = .returned (.int .i64 0) ∧ ∃ v, Rk w' { d with wv := v } (crashS s o) ∧ Only d w w' ∧ From d { d with wv := v } w) ∨ (comeS s ks torn a = none ∧ e = .returned (.int .i64 1) ∧ Below w.heap.size w w')
/-- the i-th one may be kept, and is not the torn one -/
def kBoth (s : St) (ks : List Int) (torn : Int) (i : Nat) : Prop := kOk s ks i ∧ ∀ hi : i < ks.length, ks[i] ≠ torn
set_option maxRecDepth 100000 in
set_option maxHeartbeats 8000000 in
theorem rcrash_any (d : Ptrs) (s : St) (w : World) (h : Rk w d s) (q : Option Addr) (c : Nat) (ks : List Int) (hks : Kept w q ks) (hfar : ∀ b off, q = some ⟨b, off, none⟩ → 0 < ks.length → ¬ Foot d b) (hcap : ks.length ≤ c) (hkl : ks.length ≤ 1000000) (torn a : Int) :
    Calls Try.prog 16 #[.pointer (some ⟨d.D, 0, none⟩), .slice q ks.length c, .int .i64 torn, .int .i64 a] w (CrashPost d s ks torn a w) := by
  have HH := hid h
  have HK := hid hks
  have HFAR := hid hfar
  have HKL := hid hkl
  obtain ⟨p, cap, hv⟩ := h.waitsAt
  have HV := hid hv
  have hfew := h.good.few
  clear h hks hfar
  go_enter Try.func16, Try.ntmps16
  go_wp2_with fail
  go_loopw [9] (fun i wr => ∃ k : Nat, k ≤ ks.length ∧ i = .int .i64 k ∧ Below w.heap.size w wr ∧ ∀ i, i < k → kBoth s ks torn i) (fun i _ => ks.length - (intOf i).toNat)
  case atStart => exact ⟨0, by omega, rfl, Below.refl _ _, fun i hi => by omega⟩
  case round =>
    obtain ⟨k, hk, rfl, hb, hgo⟩ := hrel
    have HB := hid hb
    have HGO := hid hgo
    have c1 := (HH.out.below hb).cells.2.1
    rw [hv] at c1
    clear hb hgo hv
    by_cases hlt : k < ks.length
    · have e1 : decide ((k : Int) < (ks.length : Int)) = true := by simpa using hlt
      have e1' : decide (k < ks.length) = true := by simpa using hlt
      obtain ⟨b, off, rfl, hbl, hc⟩ := HK.out k hlt
      have d1 : wr.cell? ⟨b, off + k, none⟩ = some (.int .i64 ks[k]) := (HB.out.cell (p := ⟨b, off + k, none⟩) hbl).trans hc
      have z0 : (0 : Int) ≤ (k : Int) := by omega
      have z1 : (k : Int) < (ks.length : Int) := by omega
      have HNO := hid fun (hbad : ¬ kOk s ks k ∨ ks[k] = torn) => come_no_kept HH.out.good ks torn a k hlt hbad
      have HYES := hid fun (hg : 0 ≤ ks[k] ∧ ks[k] < (s.waits.length : Int) ∧ ks[k] ∉ ks.take k) (hn : ks[k] ≠ torn) => (show ∀ i, i < k + 1 → kBoth s ks torn i from fun i hi => by
        by_cases e : i = k
        · subst e; exact ⟨fun _ => hg, fun _ => hn⟩
        · exact HGO.out i (by omega))
      have HKO := hid (show ¬ (0 ≤ ks[k] ∧ ks[k] < (s.waits.length : Int) ∧ ks[k] ∉ ks.take k) → ¬ kOk s ks k from fun hn hk => hn (hk hlt))
      have HLT := hid hlt
      have HAS := hid (refHas_ok (ks.take k) (some ⟨b, off, none⟩) c ks[k] wr.drew (fun j hj => by
        obtain ⟨b', o', h1, h2⟩ := kept_cells (kept_below HK.out HB.out) k j hj
        exact ⟨b', o', h1, h2⟩) (by rw [List.length_take]; omega))
      rw [show (ks.take k).length = k by rw [List.length_take]; omega] at HAS
      obtain ⟨mem, hmem⟩ : ∃ m : Bool, decide (ks[k] ∈ ks.take k) = m := ⟨_, rfl⟩
      rw [hmem] at HAS
      have HMEM := hid hmem
      have hkc : (k : Int) ≤ (c : Int) := by omega
      generalize ks[k] = x at *
      clear hc hbl hlt hmem hk
      by_cases h1 : x < 0
      · have f1 : decide (x < 0) = true := decide_eq_true h1
        have HN := hid (HNO.out (.inl (HKO.out fun h => by omega)))
        clear h1 HAS
        go_wp2_with fail
        go_quiet (fail)
        have HD := hid (below_drewN HB.out nq)
        generalize wr.drewN nq = W at HD ⊢
        go_wp2_with fail
        go_ret
        exact .inr ⟨HN.out, rfl, HD.out⟩
      · have f1 : decide (x < 0) = false := decide_eq_false h1
        by_cases h2 : (s.waits.length : Int) ≤ x
        · have f2 : decide ((s.waits.length : Int) ≤ x) = true := decide_eq_true h2
          have HN := hid (HNO.out (.inl (HKO.out fun h => by omega)))
          clear h1 h2 HAS
          go_wp2_with fail
          go_quiet (fail)
          have HD := hid (below_drewN HB.out nq)
          generalize wr.drewN nq = W at HD ⊢
          go_wp2_with fail
          go_ret
          exact .inr ⟨HN.out, rfl, HD.out⟩
        · have f2 : decide ((s.waits.length : Int) ≤ x) = false := decide_eq_false h2
          by_cases h3 : x = torn
          · have f3 : (x == torn) = true := by simpa using h3
            have HN := hid (HNO.out (.inr h3))
            clear h1 h2 h3 HAS
            go_wp2_with fail
            go_quiet (fail)
            have HD := hid (below_drewN HB.out nq)
            generalize wr.drewN nq = W at HD ⊢
            go_wp2_with fail
            go_ret
            exact .inr ⟨HN.out, rfl, HD.out⟩
          · have f3 : (x == torn) = false := by simpa using h3
            have HX := hid (And.intro (Int.not_lt.1 h1) (And.intro (Int.not_le.1 h2) h3))
            clear h1 h2 h3
            cases mem with
            | true =>
              have HN := hid (HNO.out (.inl (HKO.out fun h => absurd (of_decide_eq_true HMEM.out) h.2.2)))
              go_wp2_with fail
              go_region_held3 (fun w' => w'.cell? ⟨b, off + k, none⟩ = some (.int .i64 x) ∧ w'.cell? ⟨d.D, 1, none⟩ = some (.slice p s.waits.length cap)) (first | exact ⟨d1, c1⟩ | go_keep)
                (first | (go_at_call 36; refine HAS.out.mono ?_; rintro e w5 ⟨rfl, rfl⟩) | fail)
              have HD := hid (show Below w.heap.size w wr.drew from HB.out.drew)
              generalize wr.drew = W at HD ⊢
              go_wp2_with fail
              go_ret
              exact .inr ⟨HN.out, rfl, HD.out⟩
            | false =>
              have HN := hid (HYES.out ⟨HX.out.1, HX.out.2.1, of_decide_eq_false HMEM.out⟩ HX.out.2.2)
              go_wp2_with fail
              go_region_held3 (fun w' => w'.cell? ⟨b, off + k, none⟩ = some (.int .i64 x) ∧ w'.cell? ⟨d.D, 1, none⟩ = some (.slice p s.waits.length cap)) (first | exact ⟨d1, c1⟩ | go_keep)
                (first | (go_at_call 36; refine HAS.out.mono ?_; rintro e w5 ⟨rfl, rfl⟩) | fail)
              have HD := hid (show Below w.heap.size w wr.drew from HB.out.drew)
              generalize wr.drew = W at HD ⊢
              go_wp2_with fail
              go_roundw
              case rel => exact ⟨k + 1, HLT.out, by go_num, HD.out, HN.out⟩
              case measure => have := HLT.out; simp [intOf]; omega
    · obtain rfl : k = ks.length := by omega
      clear hlt hk
      by_cases t1 : torn < -1
      · have e2 : decide (torn < -1) = true := decide_eq_true t1
        have HN := hid (come_no_torn HH.out.good ks torn a (fun i hi => (HGO.out i hi).1) (by omega))
        clear t1
        go_wp2_with fail
        go_ret
        exact .inr ⟨HN.out, rfl, HB.out⟩
      · have e2 : decide (torn < -1) = false := decide_eq_false t1
        by_cases t2 : (s.waits.length : Int) ≤ torn
        · have e3 : decide ((s.waits.length : Int) ≤ torn) = true := decide_eq_true t2
          have HN := hid (come_no_torn HH.out.good ks torn a (fun i hi => (HGO.out i hi).1) (by omega))
          clear t1 t2
          go_wp2_with fail
          go_ret
          exact .inr ⟨HN.out, rfl, HB.out⟩
        · have e3 : decide ((s.waits.length : Int) ≤ torn) = false := decide_eq_false t2
          by_cases t3 : 0 ≤ torn
          · have e4 : decide (0 ≤ torn) = true := decide_eq_true t3
            by_cases t4 : a < 0
            · have e5 : decide (a < 0) = true := decide_eq_true t4
              have HN := hid (come_no_torn HH.out.good ks torn a (fun i hi => (HGO.out i hi).1) (by omega))
              clear t1 t2 t3 t4
              go_wp2_with fail
              go_ret
              exact .inr ⟨HN.out, rfl, HB.out⟩
            · have e5 : decide (a < 0) = false := decide_eq_false t4
              by_cases t5 : 256 < a
              · have e6 : decide ((256 : Int) < a) = true := decide_eq_true t5
                have HN := hid (come_no_torn HH.out.good ks torn a (fun i hi => (HGO.out i hi).1) (by omega))
                clear t1 t2 t3 t4 t5
                go_wp2_with fail
                go_ret
                exact .inr ⟨HN.out, rfl, HB.out⟩
              · have e6 : decide ((256 : Int) < a) = false := decide_eq_false t5
                obtain ⟨o, ho1, ho2, ho3⟩ := come_yes HH.out.good ks torn a (fun i hi => HGO.out i hi) (by omega) (by omega) (by omega)
                have HO1 := hid ho1
                have HO2 := hid ho2
                have HO3 := hid ho3
                have HPG := hid (come_pages HH.out.good ks torn a o ho1)
                clear ho1 ho2 ho3
                go_wp2_with fail
                clear c1
                go_loopw [10] (fun i X => ∃ j : Nat, j ≤ s.waits.length ∧ i = .int .i64 j ∧ Rk X d (comeK s o j) ∧ Only d w X) (fun i _ => s.waits.length - (intOf i).toNat)
                case atStart => exact ⟨0, by omega, rfl, HH.out.below HB.out, Only.below HB.out⟩
                case round =>
                  obtain ⟨j, hj, rfl, hD, hO⟩ := hrel
                  have HD := hid hD
                  have HO := hid hO
                  have g0 := hD.cells.1
                  have g1 := hD.cells.2.1
                  rw [HV.out] at g1
                  change wr.cell? _ = some (Value.slice p s.waits.length cap) at g1
                  clear hD hO
                  by_cases hlt : j < s.waits.length
                  · have e1 : decide ((j : Int) < (s.waits.length : Int)) = true := by simpa using hlt
                    have e1' : decide (j < s.waits.length) = true := by simpa using hlt
                    have z0 : (0 : Int) ≤ (j : Int) := by omega
                    have z1 : (j : Int) < (s.waits.length : Int) := by omega
                    have HAS := hid (refHas_ok ks q c (j : Int) wr (kept_all (kept_only HK.out HO.out HFAR.out)) HKL.out)
                    obtain ⟨gw, rfl⟩ := HH.out.someAt HV.out (by omega)
                    obtain ⟨x, hx⟩ : ∃ x, s.waits[j].1 = x := ⟨_, rfl⟩
                    obtain ⟨t, ht⟩ : ∃ t, s.waits[j].2 = t := ⟨_, rfl⟩
                    have cw : wr.cell? ⟨gw, j * 2, none⟩ = some (.int .i64 (x : Int)) ∧ wr.cell? ⟨gw, j * 2 + 1, none⟩ = some (.string t) := by
                      have := HD.out.wait HV.out j hlt
                      rw [← hx, ← ht]; exact this
                    obtain ⟨cw1, cw2⟩ := cw
                    have hwt := HH.out.good.wait s.waits[j] (List.getElem_mem hlt)
                    rw [hx, ht] at hwt
                    have htx : textAt s j = t := by rw [textAt_of s j hlt, ht]
                    have hxl : x < (comeK s o j).pages.length := by
                      show x < (crashP s o j).length
                      rw [crashP_length]; exact hwt.1
                    have c6 := HD.out.page x hxl
                    have f6 := HD.out.pfree x
                    have hpl : (comeK s o j).pages.length ≤ 1000 := (comeK_good HH.out.good HPG.out j).n2
                    have z2 : (x : Int) < ((comeK s o j).pages.length : Int) := by omega
                    have z3 : (0 : Int) ≤ (x : Int) := by omega
                    have HSET := hid fun (u : ByteArray) (hu : o.getD j emptyB = u) (hus : u.toList.isEmpty = false) => (show (comeK s o (j + 1)).pages = (comeK s o j).pages.set x u by
                      have h := come_set HO2.out hlt hu hus
                      rw [hx] at h; exact h)
                    have HPUT := hid fun (u : ByteArray) (hp : (comeK s o (j + 1)).pages = (comeK s o j).pages.set x u) => And.intro (HD.out.putPage x u (comeK s o (j + 1)) hp rfl rfl rfl rfl rfl (comeK_good HH.out.good HPG.out (j + 1))) (HO.out.putPage x (.string u))
                    have HSKIP := hid fun (hu : o.getD j emptyB = emptyB) => come_skip HO2.out hlt hu
                    have HOUT := hid (HO3.out j hlt)
                    have HLT := hid hlt
                    have n1 : d.D ≠ d.P := HD.out.dp
                    have n2 : d.P ≠ d.D := Ne.symm HD.out.dp
                    have n3 : gw ≠ d.P := fun e => HD.out.pw (by rw [HV.out, e]; rfl)
                    have n4 : d.P ≠ gw := Ne.symm n3
                    have HTX := hid htx
                    have HWT := hid hwt
                    clear hx ht htx hwt hj
                    generalize comeK s o j = sj at *
                    generalize sj.pages[x]'hxl = old at c6
                    clear hxl
                    by_cases hm : (j : Int) ∈ ks
                    · rw [decide_eq_true hm] at HAS
                      have hjt : (j : Int) ≠ torn := fun e => by
                        obtain ⟨i, hi, h⟩ := List.getElem_of_mem hm
                        exact (HGO.out i hi).2 hi (h.trans e)
                      have e3 : ((j : Int) == torn) = false := by simpa using hjt
                      have HP := hid (HPUT.out t (HSET.out t (by rw [HOUT.out, rOut_kept hm, HTX.out]) (full_of_size t HWT.out.2)))
                      clear hm hjt hlt
                      go_wp2_with fail
                      refine HAS.out.mono ?_
                      rintro e w5 ⟨rfl, rfl⟩
                      go_wp2_with fail
                      go_region_held3 (fun w' => w'.cell? ⟨d.D, 0, none⟩ = some (.slice (some ⟨d.P, 0, none⟩) sj.pages.length d.cp) ∧ w'.cell? ⟨d.D, 1, none⟩ = some (.slice (some ⟨gw, 0, none⟩) s.waits.length cap) ∧ w'.cell? ⟨gw, j * 2, none⟩ = some (.int .i64 (x : Int)) ∧ w'.cell? ⟨gw, j * 2 + 1, none⟩ = some (.string t)) (first | exact ⟨g0, g1, cw1, cw2⟩ | go_keep) (fail)
                      go_wp2_with fail
                      go_roundw
                      case rel => exact ⟨j + 1, HLT.out, by go_num, HP.out.1.drew, HP.out.2.drew⟩
                      case measure => have := HLT.out; simp [intOf]; omega
                    · rw [decide_eq_false hm] at HAS
                      by_cases hjt : (j : Int) = torn
                      · have e3 : ((j : Int) == torn) = true := by simpa using hjt
                        obtain ⟨A, rfl⟩ : ∃ A : Nat, a = (A : Int) := ⟨a.toNat, by omega⟩
                        have hA : A ≤ 256 := by omega
                        have HP := hid (HPUT.out (tornB t A) (HSET.out (tornB t A) (by rw [HOUT.out, rOut_torn hm hjt, HTX.out]; rfl) (full_of_size _ (tornB_size t A HWT.out.2 hA))))
                        have HTO := hid (Pg.refTorn_yes t A wr HWT.out.2 hA)
                        change Hid (Calls _ _ _ _ fun e w' => e = .returned (.tuple #[.string (tornB t A), .int .i64 0]) ∧ wr = w') at HTO
                        generalize tornB t A = u at HP HTO
                        clear hm hlt hjt
                        go_wp2_with fail
                        refine HAS.out.mono ?_
                        rintro e w5 ⟨rfl, rfl⟩
                        go_wp2_with fail
                        refine HTO.out.mono ?_
                        rintro e w5 ⟨rfl, rfl⟩
                        go_wp2_with fail
                        go_region_held3 (fun w' => w'.cell? ⟨d.D, 0, none⟩ = some (.slice (some ⟨d.P, 0, none⟩) sj.pages.length d.cp) ∧ w'.cell? ⟨d.D, 1, none⟩ = some (.slice (some ⟨gw, 0, none⟩) s.waits.length cap) ∧ w'.cell? ⟨gw, j * 2, none⟩ = some (.int .i64 (x : Int))) (first | exact ⟨g0, g1, cw1⟩ | go_keep) (fail)
                        go_wp2_with fail
                        go_roundw
                        case rel => exact ⟨j + 1, HLT.out, by go_num, HP.out.1.drew, HP.out.2.drew⟩
                        case measure => have := HLT.out; simp [intOf]; omega
                      · have e3 : ((j : Int) == torn) = false := by simpa using hjt
                        have HP := hid (HSKIP.out (by rw [HOUT.out, rOut_none hm hjt]))
                        clear hm hjt hlt
                        go_wp2_with fail
                        refine HAS.out.mono ?_
                        rintro e w5 ⟨rfl, rfl⟩
                        go_wp2_with fail
                        go_roundw
                        case rel => exact ⟨j + 1, HLT.out, by go_num, by rw [HP.out]; exact HD.out, HO.out⟩
                        case measure => have := HLT.out; simp [intOf]; omega
                  · obtain rfl : j = s.waits.length := by omega
                    have e1 : decide ((s.waits.length : Int) < (s.waits.length : Int)) = false := by simp
                    have f1 := HD.out.free 1
                    have hg := HD.out.gone
                    have x5 : (wr.setCell ⟨d.D, 1, none⟩ (.slice none 0 0)).cell? ⟨d.D, 5, none⟩ = some (.int .i64 s.fuse) := hg.cells.2.2.2.2.2
                    have f5 : (wr.setCell ⟨d.D, 1, none⟩ (.slice none 0 0)).frozen? ⟨d.D, 5, none⟩ = false := hg.free 5
                    have HG4 := hid (show Rk ((wr.setCell ⟨d.D, 1, none⟩ (.slice none 0 0)).setCell ⟨d.D, 5, none⟩ (.int .i64 (-1))) { d with wv := .slice none 0 0 } (crashS s o) from
                      hg.store 5 _ (noFuse (noWaits (comeK s o s.waits.length))) rfl rfl (noFuse_good hg.good) rfl)
                    have HGO4 := hid ((HO.out.store 1 (.slice none 0 0)).store 5 (.int .i64 (-1)))
                    clear hg hj hlt
                    go_wp2_with fail
                    go_ret
                    refine .inl ⟨o, HO1.out, rfl, _, HG4.out, HGO4.out, ?_⟩
                    rintro k (rfl | rfl | hk)
                    · exact .inl (.inl rfl)
                    · exact .inl (.inr (.inl rfl))
                    · cases hk
          · have e4 : decide (0 ≤ torn) = false := decide_eq_false t3
            obtain ⟨o, ho1, ho2, ho3⟩ := come_yes HH.out.good ks torn a (fun i hi => HGO.out i hi) (by omega) (by omega) (by omega)
            have HO1 := hid ho1
            have HO2 := hid ho2
            have HO3 := hid ho3
            have HPG := hid (come_pages HH.out.good ks torn a o ho1)
            clear ho1 ho2 ho3
            go_wp2_with fail
            clear c1
            go_loopw [10] (fun i X => ∃ j : Nat, j ≤ s.waits.length ∧ i = .int .i64 j ∧ Rk X d (comeK s o j) ∧ Only d w X) (fun i _ => s.waits.length - (intOf i).toNat)
            case atStart => exact ⟨0, by omega, rfl, HH.out.below HB.out, Only.below HB.out⟩
            case round =>
              obtain ⟨j, hj, rfl, hD, hO⟩ := hrel
              have HD := hid hD
              have HO := hid hO
              have g0 := hD.cells.1
              have g1 := hD.cells.2.1
              rw [HV.out] at g1
              change wr.cell? _ = some (Value.slice p s.waits.length cap) at g1
              clear hD hO
              by_cases hlt : j < s.waits.length
              · have e1 : decide ((j : Int) < (s.waits.length : Int)) = true := by simpa using hlt
                have e1' : decide (j < s.waits.length) = true := by simpa using hlt
                have z0 : (0 : Int) ≤ (j : Int) := by omega
                have z1 : (j : Int) < (s.waits.length : Int) := by omega
                have HAS := hid (refHas_ok ks q c (j : Int) wr (kept_all (kept_only HK.out HO.out HFAR.out)) HKL.out)
                obtain ⟨gw, rfl⟩ := HH.out.someAt HV.out (by omega)
                obtain ⟨x, hx⟩ : ∃ x, s.waits[j].1 = x := ⟨_, rfl⟩
                obtain ⟨t, ht⟩ : ∃ t, s.waits[j].2 = t := ⟨_, rfl⟩
                have cw : wr.cell? ⟨gw, j * 2, none⟩ = some (.int .i64 (x : Int)) ∧ wr.cell? ⟨gw, j * 2 + 1, none⟩ = some (.string t) := by
                  have := HD.out.wait HV.out j hlt
                  rw [← hx, ← ht]; exact this
                obtain ⟨cw1, cw2⟩ := cw
                have hwt := HH.out.good.wait s.waits[j] (List.getElem_mem hlt)
                rw [hx, ht] at hwt
                have htx : textAt s j = t := by rw [textAt_of s j hlt, ht]
                have hxl : x < (comeK s o j).pages.length := by
                  show x < (crashP s o j).length
                  rw [crashP_length]; exact hwt.1
                have c6 := HD.out.page x hxl
                have f6 := HD.out.pfree x
                have hpl : (comeK s o j).pages.length ≤ 1000 := (comeK_good HH.out.good HPG.out j).n2
                have z2 : (x : Int) < ((comeK s o j).pages.length : Int) := by omega
                have z3 : (0 : Int) ≤ (x : Int) := by omega
                have HSET := hid fun (u : ByteArray) (hu : o.getD j emptyB = u) (hus : u.toList.isEmpty = false) => (show (comeK s o (j + 1)).pages = (comeK s o j).pages.set x u by
                  have h := come_set HO2.out hlt hu hus
                  rw [hx] at h; exact h)
                have HPUT := hid fun (u : ByteArray) (hp : (comeK s o (j + 1)).pages = (comeK s o j).pages.set x u) => And.intro (HD.out.putPage x u (comeK s o (j + 1)) hp rfl rfl rfl rfl rfl (comeK_good HH.out.good HPG.out (j + 1))) (HO.out.putPage x (.string u))
                have HSKIP := hid fun (hu : o.getD j emptyB = emptyB) => come_skip HO2.out hlt hu
                have HOUT := hid (HO3.out j hlt)
                have HLT := hid hlt
                have n1 : d.D ≠ d.P := HD.out.dp
                have n2 : d.P ≠ d.D := Ne.symm HD.out.dp
                have n3 : gw ≠ d.P := fun e => HD.out.pw (by rw [HV.out, e]; rfl)
                have n4 : d.P ≠ gw := Ne.symm n3
                have HTX := hid htx
                have HWT := hid hwt
                clear hx ht htx hwt hj
                generalize comeK s o j = sj at *
                generalize sj.pages[x]'hxl = old at c6
                clear hxl
                by_cases hm : (j : Int) ∈ ks
                · rw [decide_eq_true hm] at HAS
                  have hjt : (j : Int) ≠ torn := fun e => by
                    obtain ⟨i, hi, h⟩ := List.getElem_of_mem hm
                    exact (HGO.out i hi).2 hi (h.trans e)
                  have e3 : ((j : Int) == torn) = false := by simpa using hjt
                  have HP := hid (HPUT.out t (HSET.out t (by rw [HOUT.out, rOut_kept hm, HTX.out]) (full_of_size t HWT.out.2)))
                  clear hm hjt hlt
                  go_wp2_with fail
                  refine HAS.out.mono ?_
                  rintro e w5 ⟨rfl, rfl⟩
                  go_wp2_with fail
                  go_region_held3 (fun w' => w'.cell? ⟨d.D, 0, none⟩ = some (.slice (some ⟨d.P, 0, none⟩) sj.pages.length d.cp) ∧ w'.cell? ⟨d.D, 1, none⟩ = some (.slice (some ⟨gw, 0, none⟩) s.waits.length cap) ∧ w'.cell? ⟨gw, j * 2, none⟩ = some (.int .i64 (x : Int)) ∧ w'.cell? ⟨gw, j * 2 + 1, none⟩ = some (.string t)) (first | exact ⟨g0, g1, cw1, cw2⟩ | go_keep) (fail)
                  go_wp2_with fail
                  go_roundw
                  case rel => exact ⟨j + 1, HLT.out, by go_num, HP.out.1.drew, HP.out.2.drew⟩
                  case measure => have := HLT.out; simp [intOf]; omega
                · rw [decide_eq_false hm] at HAS
                  by_cases hjt : (j : Int) = torn
                  · have e3 : ((j : Int) == torn) = true := by simpa using hjt
                    exact absurd hjt (by omega)
                  · have e3 : ((j : Int) == torn) = false := by simpa using hjt
                    have HP := hid (HSKIP.out (by rw [HOUT.out, rOut_none hm hjt]))
                    clear hm hjt hlt
                    go_wp2_with fail
                    refine HAS.out.mono ?_
                    rintro e w5 ⟨rfl, rfl⟩
                    go_wp2_with fail
                    go_roundw
                    case rel => exact ⟨j + 1, HLT.out, by go_num, by rw [HP.out]; exact HD.out, HO.out⟩
                    case measure => have := HLT.out; simp [intOf]; omega
              · obtain rfl : j = s.waits.length := by omega
                have e1 : decide ((s.waits.length : Int) < (s.waits.length : Int)) = false := by simp
                have f1 := HD.out.free 1
                have hg := HD.out.gone
                have x5 : (wr.setCell ⟨d.D, 1, none⟩ (.slice none 0 0)).cell? ⟨d.D, 5, none⟩ = some (.int .i64 s.fuse) := hg.cells.2.2.2.2.2
                have f5 : (wr.setCell ⟨d.D, 1, none⟩ (.slice none 0 0)).frozen? ⟨d.D, 5, none⟩ = false := hg.free 5
                have HG4 := hid (show Rk ((wr.setCell ⟨d.D, 1, none⟩ (.slice none 0 0)).setCell ⟨d.D, 5, none⟩ (.int .i64 (-1))) { d with wv := .slice none 0 0 } (crashS s o) from
                  hg.store 5 _ (noFuse (noWaits (comeK s o s.waits.length))) rfl rfl (noFuse_good hg.good) rfl)
                have HGO4 := hid ((HO.out.store 1 (.slice none 0 0)).store 5 (.int .i64 (-1)))
                clear hg hj hlt
                go_wp2_with fail
                go_ret
                refine .inl ⟨o, HO1.out, rfl, _, HG4.out, HGO4.out, ?_⟩
                rintro k (rfl | rfl | hk)
                · exact .inl (.inl rfl)
                · exact .inl (.inr (.inl rfl))
                · cases hk
end Go.Proofs.Ytjjplkfgihogkaa.Dk
