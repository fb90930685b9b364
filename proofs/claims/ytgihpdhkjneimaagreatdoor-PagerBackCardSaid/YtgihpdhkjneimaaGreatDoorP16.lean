/- Merged out of JnScan, DkLk, DkView, JnPl. -/
import Derived.Test.YtgihpdhkjneimaaGreatDoorP15
import Derived.WalkMore
import Derived.Deep.LoopGhost
import Derived.Test.YtgihpdhkjneimaaGreatDoorP08
/- Scan of a journal. -/
namespace Go.Proofs.YtgihpdhkjneimaaGreatDoor.Jn
open Go.RowKit
open Go.Lib (hid)
open Go.Proofs.YtgihpdhkjneimaaGreatDoor.Dk
open Go.Proofs.YtgihpdhkjneimaaGreatDoor.En (Lst entC encR mayE mayS PageT Pgs ent_at infoC oneC textS entB flatP flatP_length flatP_one flatP_at row_keep)
open Go.Proofs.YtgihpdhkjneimaaGreatDoor.Ap
open Go.Proofs.YtgihpdhkjneimaaGreatDoor.Sm (U sumB wpList_store_whole)
/-- what a scan gives, from page i on, if these have come: read off the pages -/
inductive Scans (V : Nat → ByteArray) (b n t : Nat) : Nat → List PageT → Option (List PageT) → Prop
  | stop {i acc} : n ≤ i → Scans V b n t i acc none
  | no {i acc} : i < n → (∀ kd pk pn bo ct sm, ¬ IsJ (V (b + i)) (b + i) i t kd pk pn bo ct sm) → Scans V b n t i acc none
  | page {i acc pk pn bo ct sm r} : i < n → IsJ (V (b + i)) (b + i) i t 1 pk pn bo ct sm → Scans V b n t (i + 1) (acc ++ [(pk, pn, bo)]) r → Scans V b n t i acc r
  | done {i acc kd pk pn bo ct sm} : i < n → IsJ (V (b + i)) (b + i) i t kd pk pn bo ct sm → kd ≠ 1 → entB kd t i pk pn bo ct sm 2 t acc.length 0 0 ⟨#[]⟩ acc.length (U (sumB (textS acc acc.length))) = true → Scans V b n t i acc (some acc)
  | other {i acc kd pk pn bo ct sm} : i < n → IsJ (V (b + i)) (b + i) i t kd pk pn bo ct sm → kd ≠ 1 → entB kd t i pk pn bo ct sm 2 t acc.length 0 0 ⟨#[]⟩ acc.length (U (sumB (textS acc acc.length))) = false → Scans V b n t i acc none
/-- what is read of a disk -/
def vw (s : St) (m : Nat) : ByteArray := (applyW s.pages s.waits).getD m emptyB
/-- as a disk was, but for its reads -/
structure Same (s s' : St) : Prop where
  pages : s'.pages = s.pages
  waits : s'.waits = s.waits
  fuse : s'.fuse = s.fuse
  writes : s'.writes = s.writes
  flushes : s'.flushes = s.flushes
theorem Same.refl (s : St) : Same s s := ⟨rfl, rfl, rfl, rfl, rfl⟩
theorem Same.trans {s s' s2 : St} (h : Same s s') (g : Same s' s2) : Same s s2 := ⟨g.pages.trans h.pages, g.waits.trans h.waits, g.fuse.trans h.fuse, g.writes.trans h.writes, g.flushes.trans h.flushes⟩
theorem Same.rd (s : St) (n : Int) : Same s (rdU s n).2.2 := by unfold rdU; split <;> exact ⟨rfl, rfl, rfl, rfl, rfl⟩
theorem Same.vw {s s' : St} (h : Same s s') : Jn.vw s' = Jn.vw s := by unfold Jn.vw; rw [h.pages, h.waits]
theorem rd_vw {s : St} {m : Nat} (h : m < s.pages.length) : (rdU s (m : Int)).1 = vw s m := by
  unfold rdU vw
  rw [if_pos ⟨by omega, by omega⟩, Int.toNat_natCast]
theorem KS.grown {K : Nat → Prop} {w0 w w' : World} {o : Option Nat} (h : KS K w0 w) (hg : w.grownBy w' o) (ho : ∀ g, o = some g → w0.heap.size ≤ g) : KS K w0 w' := by
  obtain ⟨h1, h2, h3, h4, h5⟩ := hg
  exact ⟨h1.trans h.os, h2.trans h.tape, h3.trans h.output, Nat.le_trans h.size h4, fun k hk hK => (h5 k (Nat.lt_of_lt_of_le hk h.size) (fun e => by have := ho k e.symm; omega)).trans (h.block k hk hK)⟩
theorem Cd.app {K : Nat → Prop} {D : Nat} {w w' : World} {s : St} {v v' : Value} (h : Cd (fun j => K j ∨ v.ownBlock = some j) D w s) (hg : w.grownBy w' v.ownBlock) (hv : v'.ownBlock = v.ownBlock ∨ v'.ownBlock = some w.heap.size) (hl : ∀ g, v'.ownBlock = some g → g < w'.heap.size) :
    Cd (fun j => K j ∨ v'.ownBlock = some j) D w' s := by
  obtain ⟨a, h1, h3, h5⟩ := h.ex
  obtain ⟨g1, g2, g3, g4, g5⟩ := hg
  refine ⟨⟨a, h1, h3.kept fun k hk => g5 k (h3.lt k hk) (fun e => h5 k hk (.inr e.symm)), fun k hf e => ?_⟩, fun k e => ?_⟩
  · have hlt := h3.lt k hf
    rcases e with e | e
    · exact h5 k hf (.inl e)
    · rcases hv with h6 | h6
      · exact h5 k hf (.inr (h6 ▸ e))
      · rw [h6] at e; injection e with e; omega
  · rcases e with e | e
    · exact Nat.lt_of_lt_of_le (h.lt k (.inl e)) g4
    · exact hl k e
theorem Jk.at {K K' : Nat → Prop} {J D b n t : Nat} {w0 wr : World} {s s' : St} (h : Jk K J D w0 s b n t) (hk : KS K w0 wr) (cd : Cd K' D wr s') (hKK : ∀ j, K j → K' j) : Jk K' J D wr s' b n t :=
  ⟨cd, hKK _ h.kJ, hKK _ h.k0, (hk.block J h.j.lt h.kJ).trans h.j, lst_ks h.lst h.k0 hk⟩
theorem own_pgs {w : World} {base n c : Nat} {p : Option Addr} {L : List PageT} (h : w.ownsRow base 69 3 (.slice p n c) n (flatP L)) (hn : L.length = n) : Pgs w p L := fun i hi => by
  rcases h.2 with ⟨h1, h2⟩ | ⟨g, cap, cur, e, _, hh, hle, hcm, hsz, ht⟩
  · omega
  · injection e with e1 e2 e3
    subst e1
    obtain ⟨a0, a1, a2⟩ := flatP_at L i hi
    have hc : ∀ j u, (flatP L)[j]? = some u → w.cell? ⟨g, 0 + j, none⟩ = some u := fun j u hj => by
      rw [cell_of_row _ _ _ _ _ _ hh, Nat.zero_add]
      have hjl : j < n * 3 := by rw [← hn, ← flatP_length]; exact (List.getElem?_eq_some_iff.1 hj).1
      rw [← ht, List.getElem?_take, if_pos hjl, Array.getElem?_toList] at hj
      exact hj
    exact ⟨g, 0, rfl, (Array.getElem?_eq_some_iff.1 hh).1, hc _ _ a0, hc _ _ a1, hc _ _ a2⟩
/-- what an append of a page onto a row of the call's own gives -/
def POwn (w : World) (base : Nat) (v : Value) (n : Nat) (L : List PageT) (v' : Value) (w' : World) : Prop :=
  w'.ownsRow base 69 3 v' n (flatP L) ∧ w.grownBy w' v.ownBlock ∧ (v'.ownBlock = v.ownBlock ∨ v'.ownBlock = some w.heap.size)
theorem pages_own {w : World} (ty : TypeId) {base : Nat} (v : Value) (L : List PageT) (n : Nat) (hn : L.length = n) (hown : w.ownsRow base 69 3 v n (flatP L)) (q : Option Addr) (c : Nat) (x : PageT) (hq : Pgs w q [x]) (hb : n ≤ 100000) (hbase : base ≤ w.heap.size) :
    ∃ v' w', (Builtin.append_ #[37, 37] ty #[v, .slice q 1 c]).run Tryz.prog w = .ok v' w' ∧ POwn w base v (n + 1) (L ++ [x]) v' w' := by
  obtain ⟨i, hi, hz0, hz1, hz2⟩ := Ap.info_parts En.pinfo
  obtain ⟨v', w', hr, h1, h2, h3⟩ := run_app_own (P := Tryz.prog) Tryz.underlying37 hi hz0 hz1 hz2 rfl (by decide) ty v n (flatP L) hown q 1 c (flatP [x]) hq.read (by rw [flatP_length]; rfl) (flatP_one _) (by unfold maxLen; omega) (by omega) hbase
  refine ⟨v', w', hr, ?_, h2, h3⟩
  rw [show flatP (L ++ [x]) = flatP L ++ flatP [x] by unfold flatP; rw [List.flatMap_append]]
  exact h1
theorem own_slice {w : World} {base n : Nat} {x : Value} {xs : List Value} (h : w.ownsRow base 69 3 x n xs) : ∃ p c, x = .slice p n c ∧ (∀ g, x.ownBlock = some g → base ≤ g ∧ g < w.heap.size) ∧ ∀ g off, p = some ⟨g, off, none⟩ → x.ownBlock = some g := by
  rcases h.2 with ⟨h1, h2⟩ | ⟨g, cap, cur, e, hge, hh, _⟩
  · subst h1
    obtain rfl : n = 0 := by omega
    exact ⟨none, 0, rfl, (fun g hg => by simp [Value.ownBlock] at hg), (fun g off e => by cases e)⟩
  · subst e
    refine ⟨_, cap, rfl, fun g' hg' => ?_, fun g' off e => ?_⟩
    · simp [Value.ownBlock] at hg'
      subst hg'
      exact ⟨hge, (Array.getElem?_eq_some_iff.1 hh).1⟩
    · injection e with e; injection e with e1 e2
      subst e1; rfl
theorem few_up {s : St} {k k' : Nat} (h : Few s k) (hk : k ≤ k') : Few s k' := ⟨Nat.le_trans h.waits hk, by have := h.reads; omega, by have := h.writes; omega, by have := h.flushes; omega⟩
/-- what Scan returns -/
def ScanE (r : Option (List PageT)) (e : Ending) (w' : World) (K' : Nat → Prop) (N : Nat) : Prop := match r with
  | none => e = .returned (.tuple #[.slice none 0 0, .bool false])
  | some L => ∃ p c, e = .returned (.tuple #[.slice p L.length c, .bool true]) ∧ Pgs w' p L ∧ ∀ g off, p = some ⟨g, off, none⟩ → K' g ∧ N ≤ g
section
variable {K : Nat → Prop} {J D b n t : Nat}
set_option maxHeartbeats 1000000 in
theorem jscan_nil (w : World) : Calls Tryz.prog 64 #[.pointer none] w fun e w' => e = .returned (.tuple #[.slice none 0 0, .bool false]) ∧ w' = w := by
  go_enter Tryz.func64, Tryz.ntmps64
  go_wp2_with fail
  go_step3
  go_wp2_with fail
  refine (made_nil _).mono ?_
  rintro e w' ⟨rfl, rfl⟩
  go_wp2_with fail
  try rw [Exit.noGoto_ret]
  go_ret2
  exact ⟨rfl, rfl⟩
set_option maxRecDepth 100000 in
set_option maxHeartbeats 4000000 in
theorem jscan {w0 : World} {s : St} (h : Jk K J D w0 s b n t) (ok : JOk b n t) (hpg : b + n ≤ s.pages.length) {k : Nat} (hf : Few s k) (hk : k + 1010 < 1000000) :
    Calls Tryz.prog 64 #[.pointer (some ⟨J, 0, none⟩)] w0 fun e w' => ∃ r s' K', Scans (vw s) b n t 0 [] r ∧ ScanE r e w' K' w0.heap.size ∧ (∀ j, K j → K' j) ∧ Cd K' D w' s' ∧ KS K w0 w' ∧ Same s s' ∧ Few s' (k + n) := by
  have HJ := hid h
  have HO := hid ok
  have HPG := hid hpg
  have HKK := hid hk
  have HFS := hid hf
  have hn9 : n ≤ 999 := ok.n9
  obtain ⟨j0, j1, j2, j3⟩ := h.j.cells
  clear h ok hpg hf hk
  go_enter Tryz.func64, Tryz.ntmps64
  go_wp2_with fail
  go_step3
  go_wp2_with fail
  refine (made_ok HJ.out.j).mono ?_
  rintro e w' ⟨rfl, hw⟩
  obtain rfl := hw.symm
  go_wp2_with fail
  go_step3
  go_wp2_with fail
  clear j0 j1 j2 j3
  go_loopw [4, 15] (fun x y wr => ∃ (i : Nat) (acc : List PageT) (s' : St), y = .int .i64 i ∧ i ≤ n ∧ acc.length = i ∧ wr.ownsRow w0.heap.size 69 3 x i (flatP acc) ∧ Cd (fun j => K j ∨ x.ownBlock = some j) D wr s' ∧ KS K w0 wr ∧ Same s s' ∧ Few s' (k + i) ∧ ∀ r, Scans (vw s) b n t i acc r → Scans (vw s) b n t 0 [] r) (fun _ y _ => n - (intOf y).toNat)
  case atStart => exact ⟨0, [], s, rfl, Nat.zero_le _, rfl, ⟨rfl, .inl ⟨rfl, rfl⟩⟩, HJ.out.cd.less (fun j hj => hj.elim id (fun e => by simp [Value.ownBlock] at e)), KS.refl _ _, Same.refl _, HFS.out, fun r hr => hr⟩
  case round =>
    obtain ⟨i, acc, s', rfl, hi, hacc, hown, hcd, hks, hsm, hfw, hsc⟩ := hrel
    obtain ⟨p, c, rfl, hob, hpo⟩ := own_slice hown
    have HOW := hid hown; have HCD := hid hcd; have HK3 := hid hks; have HSM := hid hsm; have HFW := hid hfw; have HSC := hid hsc; have HOB := hid hob; have HPO := hid hpo
    have HAC := hid hacc
    clear hown hcd hks hsm hfw hsc hob hpo hacc
    by_cases hlt : i < n
    · have HJ3 := hid (HJ.out.at HK3.out HCD.out (fun j e => .inl e))
      have HRD := hid (jread HJ3.out HFW.out (by have := HKK.out; omega) i (by have := HO.out.bn; omega))
      have HI := hid hlt
      have HVW := hid (show (rdU s' ((b + i : Nat) : Int)).1 = vw s (b + i) by rw [rd_vw (by rw [HSM.out.pages]; have := HPG.out; omega), HSM.out.vw])
      have HS4 := hid (HSM.out.trans (Same.rd s' ((b + i : Nat) : Int)))
      have HF4 := hid (few_rd HFW.out ((b + i : Nat) : Int))
      rw [HVW.out] at HRD
      generalize (rdU s' ((b + i : Nat) : Int)).2.2 = s4 at *
      clear HVW HSM HFW HJ3
      go_wp2_with fail
      refine HRD.out.mono ?_
      rintro e w1 ⟨hr, hc, hk2⟩
      have HC1 := hid hc
      have HK1 := hid (HK3.out.trans (KS.less hk2 (fun j e => .inl e)))
      have HOW1 := hid (row_keep HOW.out (fun g hg => hk2.block g (HOB.out g hg).2 (.inr hg)))
      clear HOW HCD HK3 HRD hc hk2
      rcases hr with ⟨kd, pk, pn, bo, ct, sm, hij, rfl⟩ | ⟨hno, rfl⟩
      · have HIJ := hid hij
        clear hij
        have A2 := hid ((Below.refl w1.heap.size w1).alloc (Nat.le_refl _) (.cells (entC kd t i pk pn bo ct sm) 134))
        have HX2 := hid (heap_alloc_new w1 (.cells (entC kd t i pk pn bo ct sm) 134))
        have HC2 := hid (HC1.out.next A2.out)
        have HK2 := hid (HK1.out.trans (KS.of A2.out))
        have HOW2 := hid (row_keep HOW1.out (fun g hg => A2.out.block g (HC1.out.lt g (.inr hg))))
        clear HC1 HK1 HOW1
        by_cases hk1 : kd = 1
        · subst hk1
          have A3 := hid ((Below.refl (w1.alloc (.cells (entC 1 t i pk pn bo ct sm) 134)).heap.size (w1.alloc (.cells (entC 1 t i pk pn bo ct sm) 134))).alloc (Nat.le_refl _) (.cells #[.int .i64 pk, .int .i64 pn, .string bo] 69))
          have HC3 := hid (HC2.out.next A3.out)
          have HK3 := hid (HK2.out.trans (KS.of A3.out))
          have HOW3 := hid (row_keep HOW2.out (fun g hg => A3.out.block g (HC2.out.lt g (.inr hg))))
          have HQ3 := hid (show Pgs ((w1.alloc (.cells (entC 1 t i pk pn bo ct sm) 134)).alloc (.cells #[.int .i64 pk, .int .i64 pn, .string bo] 69)) (some ⟨w1.heap.size + 1, 0, none⟩) [(pk, pn, bo)] from by
            have h := heap_alloc_new (w1.alloc (.cells (entC 1 t i pk pn bo ct sm) 134)) (.cells #[.int .i64 pk, .int .i64 pn, .string bo] 69)
            rw [show (w1.alloc (.cells (entC 1 t i pk pn bo ct sm) 134)).heap.size = w1.heap.size + 1 by simp] at h
            intro j hj
            obtain rfl : j = 0 := by simp at hj; omega
            exact ⟨w1.heap.size + 1, 0, rfl, (Array.getElem?_eq_some_iff.1 h).1, by rw [cell_of_row _ _ _ _ _ _ h]; rfl, by rw [cell_of_row _ _ _ _ _ _ h]; rfl, by rw [cell_of_row _ _ _ _ _ _ h]; rfl⟩)
          have HAP := hid (pages_own 37 (.slice p i c) acc i HAC.out HOW3.out (some ⟨w1.heap.size + 1, 0, none⟩) 1 (pk, pn, bo) HQ3.out (by omega) HK3.out.size)
          clear HX2 HC2 HK2 HOW2 A2
          go_wp2_with (at_builtin; refine wpList_app rfl _ _ _ rfl rfl rfl HAP.out ?_)
          rintro v4 w4 ⟨hown4, hg4, hv4⟩
          have HOW4 := hid hown4
          have HC4 := hid (Cd.app HC3.out hg4 hv4 (fun g hg => by
            obtain ⟨_, _, _, h2, _⟩ := own_slice hown4
            exact (h2 g hg).2))
          have HK4 := hid (KS.grown HK3.out hg4 (fun g hg => (HOB.out g hg).1))
          clear hown4 hg4 hv4 HAP HQ3 A3 HC3 HK3 HOW3
          go_wp2_with fail
          go_roundw
          case rel => exact ⟨i + 1, acc ++ [(pk, pn, bo)], s4, by go_num, HI.out, by rw [List.length_append, HAC.out]; rfl, HOW4.out, HC4.out, HK4.out, HS4.out, HF4.out, fun r hr => HSC.out r (Scans.page HI.out HIJ.out hr)⟩
          case measure => simp [intOf]; have := HI.out; omega
        · have x1 : (kd == 1) = false := by simpa using hk1
          have HK1' := hid hk1
          clear hk1
          obtain ⟨u, hu⟩ : ∃ u, U (sumB (textS acc acc.length)) = u := ⟨_, rfl⟩
          have HPG2 := hid (own_pgs HOW2.out HAC.out)
          have HCM := hid fun (V : World) (hj : JAt V J D b n t) (hl2 : Lst V) (hq : Pgs V p acc) => (show Calls Tryz.prog 92 #[.pointer (some ⟨J, 0, none⟩), .slice p i c] V fun e w' => e = .returned (.agg (entC 2 t i 0 0 ⟨#[]⟩ i u)) ∧ Below V.heap.size V w' from by
            have h2 := jcommit hj hl2 p acc c hq (by have := HAC.out; omega)
            rw [hu, HAC.out] at h2; exact h2)
          have HU := hid hu
          have HJX := hid (HJ.out.at HK2.out HC2.out (fun j e => .inl e))
          clear hu
          go_wp2_with fail
          generalize w1.alloc (.cells (entC kd t i pk pn bo ct sm) 134) = X at *
          have HD := hid fun (V : World) (hv : Below X.heap.size X V) => (show V.cell? ⟨w1.heap.size, 0, none⟩ = some (.int .i64 kd) ∧ V.cell? ⟨w1.heap.size, 1, none⟩ = some (.int .i64 t) ∧ V.cell? ⟨w1.heap.size, 2, none⟩ = some (.int .i64 i) ∧ V.cell? ⟨w1.heap.size, 3, none⟩ = some (.int .i64 pk) ∧ V.cell? ⟨w1.heap.size, 4, none⟩ = some (.int .i64 pn) ∧ V.cell? ⟨w1.heap.size, 5, none⟩ = some (.string bo) ∧ V.cell? ⟨w1.heap.size, 6, none⟩ = some (.int .i64 ct) ∧ V.cell? ⟨w1.heap.size, 7, none⟩ = some (.int .u32 sm) from by
            exact ent_at ((hv.block w1.heap.size (Array.getElem?_eq_some_iff.1 HX2.out).1).trans HX2.out))
          have B0 := hid (Below.refl X.heap.size X).drew
          have y0 := HD.out _ B0.out
          have x0 := HD.out _ (Below.refl X.heap.size X)
          obtain ⟨Bq, hBq⟩ : ∃ B, entB kd t i pk pn bo ct sm 2 t i 0 0 ⟨#[]⟩ i u = B := ⟨_, rfl⟩
          have heq := fun V => (En.eql32 kd t i pk pn bo ct sm 2 t i 0 0 ⟨#[]⟩ i u V).trans (by rw [hBq])
          have HBQ := hid hBq
          clear hBq
          go_region_held3 (fun V => V.cell? ⟨w1.heap.size, 0, none⟩ = some (.int .i64 kd) ∧ V.cell? ⟨w1.heap.size, 1, none⟩ = some (.int .i64 t) ∧ V.cell? ⟨w1.heap.size, 2, none⟩ = some (.int .i64 i) ∧ V.cell? ⟨w1.heap.size, 3, none⟩ = some (.int .i64 pk) ∧ V.cell? ⟨w1.heap.size, 4, none⟩ = some (.int .i64 pn) ∧ V.cell? ⟨w1.heap.size, 5, none⟩ = some (.string bo) ∧ V.cell? ⟨w1.heap.size, 6, none⟩ = some (.int .i64 ct) ∧ V.cell? ⟨w1.heap.size, 7, none⟩ = some (.int .u32 sm)) (first | exact x0 | exact y0 | exact y1 | go_keep)
            (first
              | (go_at_call 92; with_reducible refine (HCM.out _ (HJX.out.next B0.out).j (HJX.out.next B0.out).lst (HPG2.out.below B0.out)).mono ?_; rintro e v1 ⟨rfl, hb⟩; have B1 := hid (B0.out.trans (hb.mono B0.out.size)); have y1 := HD.out _ B1.out; clear hb)
              | fail)
          clear heq x0 y0 y1 HD HCM
          have HC3 := hid (HC2.out.next B1.out)
          have HK3 := hid (HK2.out.trans (KS.of B1.out))
          have HP3 := hid (HPG2.out.below B1.out)
          cases hB2 : Bq with
          | true =>
            subst hB2
            go_wp2_with fail
            try rw [Exit.noGoto_ret]
            go_ret2
            refine ⟨some acc, s4, _, HSC.out _ (Scans.done HI.out HIJ.out HK1'.out (by rw [HAC.out, show textS acc i = textS acc acc.length by rw [HAC.out], HU.out]; exact HBQ.out)), ⟨p, c, by rw [HAC.out]; rfl, HP3.out, fun g off e => ⟨.inr (HPO.out g off e), (HOB.out g (HPO.out g off e)).1⟩⟩, (fun j e => .inl e), HC3.out, HK3.out, HS4.out, ?_⟩
            exact few_up HF4.out (by omega)
          | false =>
            subst hB2
            go_wp2_with fail
            try rw [Exit.noGoto_ret]
            go_ret2
            refine ⟨none, s4, _, HSC.out _ (Scans.other HI.out HIJ.out HK1'.out (by rw [HAC.out, show textS acc i = textS acc acc.length by rw [HAC.out], HU.out]; exact HBQ.out)), rfl, (fun j e => .inl e), HC3.out, HK3.out, HS4.out, ?_⟩
            exact few_up HF4.out (by omega)
      · have HNO := hid hno
        clear hno
        go_wp2_with fail
        try rw [Exit.noGoto_ret]
        go_ret2
        refine ⟨none, s4, _, HSC.out _ (Scans.no HI.out HNO.out), rfl, (fun j e => .inl e), HC1.out.next ((Below.refl w1.heap.size w1).alloc (Nat.le_refl _) _), HK1.out.trans (KS.of ((Below.refl w1.heap.size w1).alloc (Nat.le_refl _) _)), HS4.out, ?_⟩
        exact few_up HF4.out (by omega)
    · obtain rfl : i = n := by omega
      go_wp2_with fail
      try rw [Exit.noGoto_ret]
      go_ret2
      exact ⟨none, s', _, HSC.out _ (Scans.stop (Nat.le_refl _)), rfl, (fun j e => .inl e), HCD.out, HK3.out, HSM.out, few_up HFW.out (by omega)⟩
end
end Go.Proofs.YtgihpdhkjneimaaGreatDoor.Jn

/- Two disks, or a disk and blocks of others: each call's contract, by what stays. -/
namespace Go.Proofs.YtgihpdhkjneimaaGreatDoor.Dk
open Go.RowKit
open Go.Lib (hid)

/-- a disk at D that is new since w, nothing that was there at w has turned, and the blocks K are none of its own -/
structure Lk (w wr : World) (K : Nat → Prop) (D : Nat) (s : St) : Prop where
  ex : ∃ d : Ptrs, d.D = D ∧ Dsk wr d s ∧ (∀ k, Foot d k → w.heap.size ≤ k) ∧ ∀ k, K k → ¬ Foot d k
  below : Below w.heap.size w wr
  lt : ∀ k, K k → k < wr.heap.size
/-- the blocks K are as they were -/
def Stay (K : Nat → Prop) (wr w' : World) : Prop := ∀ k, K k → w'.heap[k]? = wr.heap[k]?
section
variable {w wr w' : World} {K : Nat → Prop} {D : Nat} {s : St}
theorem Lk.lv (h : Lk w wr K D s) : Lv w wr D s := by
  obtain ⟨d, h1, h2, h3, _⟩ := h.ex
  exact ⟨⟨d, h1, h2, h3⟩, h.below⟩
theorem Lv.lk (h : Lv w wr D s) : Lk w wr (fun _ => False) D s := by
  obtain ⟨d, h1, h2, h3⟩ := h.ex
  exact ⟨⟨d, h1, h2, h3, fun k hk => hk.elim⟩, h.below, fun k hk => hk.elim⟩
theorem Lk.good (h : Lk w wr K D s) : Good s := h.lv.good
theorem Lk.next (h : Lk w wr K D s) (hb : Below wr.heap.size wr w') : Lk w w' K D s ∧ Stay K wr w' := by
  obtain ⟨d, h1, h2, h3, h4⟩ := h.ex
  exact ⟨⟨⟨d, h1, h2.below hb, h3, h4⟩, h.below.trans (hb.mono h.below.size), fun k hk => Nat.lt_of_lt_of_le (h.lt k hk) hb.size⟩, fun k hk => hb.block k (h.lt k hk)⟩
theorem Lk.drew (h : Lk w wr K D s) : Lk w wr.drew K D s := by
  obtain ⟨d, h1, h2, h3, h4⟩ := h.ex
  exact ⟨⟨d, h1, h2.drew, h3, h4⟩, h.below.drew, h.lt⟩
theorem Lk.drewN (h : Lk w wr K D s) (n : Nat) : Lk w (wr.drewN n) K D s := by
  obtain ⟨d, h1, h2, h3, h4⟩ := h.ex
  exact ⟨⟨d, h1, h2.drewN n, h3, h4⟩, ⟨h.below.os, h.below.tape, h.below.output, h.below.size, h.below.block⟩, h.lt⟩
/-- others' blocks have come, or new ones -/
theorem Lk.more {K' : Nat → Prop} (h : Lk w wr K D s) (hb : Below wr.heap.size wr w') (hK : ∀ k, K' k → K k ∨ wr.heap.size ≤ k) (hl : ∀ k, K' k → k < w'.heap.size) : Lk w w' K' D s := by
  obtain ⟨d, h1, h2, h3, h4⟩ := h.ex
  refine ⟨⟨d, h1, h2.below hb, h3, fun k hk hf => ?_⟩, h.below.trans (hb.mono h.below.size), hl⟩
  rcases hK k hk with h5 | h5
  · exact h4 k h5 hf
  · have := h2.lt k hf; omega
/-- others' blocks alone have turned -/
theorem Lk.other (h : Lk w wr K D s) (h1 : w'.os = wr.os) (h2 : w'.tape = wr.tape) (h3 : w'.output = wr.output) (h4 : wr.heap.size ≤ w'.heap.size) (hK : ∀ k, k < wr.heap.size → ¬ K k → w'.heap[k]? = wr.heap[k]?) (hge : ∀ k, K k → w.heap.size ≤ k) : Lk w w' K D s := by
  obtain ⟨d, g1, g2, g3, g4⟩ := h.ex
  refine ⟨⟨d, g1, g2.kept fun k hk => hK k (g2.lt k hk) (fun hk' => g4 k hk' hk), g3, g4⟩, h.below.trans ⟨h1, h2, h3, h4, fun k hk => hK k (by have := h.below.size; omega) (fun hk' => by have := hge k hk'; omega)⟩, fun k hk => Nat.lt_of_lt_of_le (h.lt k hk) h4⟩
theorem Lk.step {d : Ptrs} (d' : Ptrs) {s' : St} (hf : ∀ k, Foot d k → w.heap.size ≤ k) (hK : ∀ k, K k → ¬ Foot d k) (hl : ∀ k, K k → k < wr.heap.size) (hb : Below w.heap.size w wr) (hd : Dsk w' d' s') (ho : Only d wr w') (hfr : From d d' wr) (hDD : d'.D = d.D) : Lk w w' K d.D s' ∧ Stay K wr w' :=
  ⟨⟨⟨d', hDD, hd, fun k hk => by
    rcases hfr k hk with h | h
    · exact hf k h
    · have := hb.size; omega, fun k hk hk' => by
    rcases hfr k hk' with h | h
    · exact hK k hk h
    · have := hl k hk; omega⟩, hb.trans (ho.to_below hb.size hf), fun k hk => Nat.lt_of_lt_of_le (hl k hk) ho.size⟩, fun k hk => ho.block k (hl k hk) (hK k hk)⟩
end
theorem lk_write (n : Nat) (t : ByteArray) {w wr : World} {K : Nat → Prop} {D : Nat} {s : St} (h : Lk w wr K D s) (hn : n < s.pages.length) (ht : t.size = 256) (hfz : s.fuse ≠ 0) (hf : s.waits.length < 1000000) (hw : s.writes < 1000000) :
    Calls Tryz.prog 78 #[.pointer (some ⟨D, 0, none⟩), .int .i64 (n : Int), .string t] wr fun e w' => e = .returned (.int .i64 0) ∧ Lk w w' K D (writeS s n t) ∧ Stay K wr w' := by
  obtain ⟨d, rfl, hd, hfo, hK⟩ := h.ex
  exact (write_ok d s n t wr hd hn ht hfz hf hw).mono fun _ _ ⟨h1, v, h2, h3, h4⟩ => ⟨h1, Lk.step { d with wv := v } hfo hK h.lt h.below h2 h3 h4 rfl⟩
theorem lk_write_bad (n : Int) (t : ByteArray) {w wr : World} {K : Nat → Prop} {D : Nat} {s : St} (h : Lk w wr K D s) (hb : n < 0 ∨ s.pages.length ≤ n ∨ t.size ≠ 256 ∨ s.fuse = 0) :
    Calls Tryz.prog 78 #[.pointer (some ⟨D, 0, none⟩), .int .i64 n, .string t] wr fun e w' => e = .returned (.int .i64 1) ∧ wr = w' := lv_write_bad n t h.lv hb
theorem lk_flush {w wr : World} {K : Nat → Prop} {D : Nat} {s : St} (h : Lk w wr K D s) (hfz : s.fuse ≠ 0) (hfl : s.flushes < 1000000) :
    Calls Tryz.prog 91 #[.pointer (some ⟨D, 0, none⟩)] wr fun e w' => e = .returned (.int .i64 (s.waits.length : Int)) ∧ Lk w w' K D (flushS s) ∧ Stay K wr w' := by
  obtain ⟨d, rfl, hd, hfo, hK⟩ := h.ex
  exact (flush_ok d s wr hd hfz hfl).mono fun _ _ ⟨h1, v, h2, h3, h4⟩ => ⟨h1, Lk.step { d with wv := v } hfo hK h.lt h.below h2 h3 h4 rfl⟩
theorem lk_read (i : Nat) (t : ByteArray) {w wr : World} {K : Nat → Prop} {D : Nat} {s : St} (h : Lk w wr K D s) (hi : i < s.pages.length) (hr : s.reads < 1000000) (ht : (applyW s.pages s.waits)[i]? = some t) :
    Calls Tryz.prog 132 #[.pointer (some ⟨D, 0, none⟩), .int .i64 (i : Int)] wr fun e w' => e = .returned (.tuple #[.string t, .int .i64 0]) ∧ Lk w w' K D (readS s) ∧ Stay K wr w' := by
  obtain ⟨d, rfl, hd, hfo, hK⟩ := h.ex
  refine (read_ok d s i wr hd hi hr).mono fun _ _ ⟨t', h1, h2, h3, h4⟩ => ?_
  rw [ht] at h2
  cases h2
  exact ⟨h1, Lk.step d hfo hK h.lt h.below h3 h4 (From.refl _ _) rfl⟩
theorem lk_crash (q : Option Addr) (c : Nat) (ks : List Int) (torn a : Int) (o : List ByteArray) {w wr : World} {K : Nat → Prop} {D : Nat} {s : St} (h : Lk w wr K D s) (hks : Dk.Kept wr q ks) (hkm : ks.length ≤ maxLen) (hc : comeS s ks torn a = some o) :
    Calls Tryz.prog 26 #[.pointer (some ⟨D, 0, none⟩), .slice q ks.length c, .int .i64 torn, .int .i64 a] wr fun e w' => e = .returned (.int .i64 0) ∧ Lk w w' K D (crashS s o) ∧ Stay K wr w' := by
  obtain ⟨d, rfl, hd, hfo, hK⟩ := h.ex
  exact (crash_ok d s wr hd q c ks hks hkm torn a o hc).mono fun _ _ ⟨h1, v, h2, h3, h4⟩ => ⟨h1, Lk.step { d with wv := v } hfo hK h.lt h.below h2 h3 h4 rfl⟩
/-- two disks, apart from one another, both new since w, and blocks K that are neither's -/
structure L2 (w wr : World) (K : Nat → Prop) (A : Nat) (s : St) (B : Nat) (t : St) : Prop where
  ex : ∃ a b : Ptrs, a.D = A ∧ b.D = B ∧ Dsk wr a s ∧ Dsk wr b t ∧ (∀ k, Foot a k → w.heap.size ≤ k) ∧ (∀ k, Foot b k → w.heap.size ≤ k) ∧ (∀ k, Foot a k → ¬ Foot b k) ∧ (∀ k, K k → ¬ Foot a k) ∧ ∀ k, K k → ¬ Foot b k
  below : Below w.heap.size w wr
  lt : ∀ k, K k → k < wr.heap.size
section
variable {w wr w' : World} {K : Nat → Prop} {A B : Nat} {s t : St}
theorem L2.symm (h : L2 w wr K A s B t) : L2 w wr K B t A s := by
  obtain ⟨a, b, h1, h2, h3, h4, h5, h6, h7, h8, h9⟩ := h.ex
  exact ⟨⟨b, a, h2, h1, h4, h3, h6, h5, fun k hk hk' => h7 k hk' hk, h9, h8⟩, h.below, h.lt⟩
theorem L2.next (h : L2 w wr K A s B t) (hb : Below wr.heap.size wr w') : L2 w w' K A s B t ∧ Stay K wr w' := by
  obtain ⟨a, b, h1, h2, h3, h4, h5, h6, h7, h8, h9⟩ := h.ex
  exact ⟨⟨⟨a, b, h1, h2, h3.below hb, h4.below hb, h5, h6, h7, h8, h9⟩, h.below.trans (hb.mono h.below.size), fun k hk => Nat.lt_of_lt_of_le (h.lt k hk) hb.size⟩, fun k hk => hb.block k (h.lt k hk)⟩
theorem L2.first (h : L2 w wr K A s B t) : Lk w wr K A s := by
  obtain ⟨a, b, h1, h2, h3, h4, h5, h6, h7, h8, h9⟩ := h.ex
  exact ⟨⟨a, h1, h3, h5, h8⟩, h.below, h.lt⟩
/-- a call of the first disk: 'a' turns, the second one stays -/
theorem L2.call {f : FuncId} {args : Array Value} {R : Ending → Prop} {s' : St} (h : L2 w wr K A s B t)
    (hc : ∀ a : Ptrs, a.D = A → Dsk wr a s → Calls Tryz.prog f args wr fun e w' => R e ∧ ∃ a' : Ptrs, a'.D = a.D ∧ Dsk w' a' s' ∧ Only a wr w' ∧ From a a' wr) :
    Calls Tryz.prog f args wr fun e w' => R e ∧ L2 w w' K A s' B t ∧ Stay K wr w' := by
  obtain ⟨a, b, h1, h2, h3, h4, h5, h6, h7, h8, h9⟩ := h.ex
  refine (hc a h1 h3).mono fun e w' ⟨r, a', g1, g2, g3, g4⟩ => ⟨r, ⟨⟨a', b, g1.trans h1, h2, g2, h4.other g3 (fun k hk hk' => h7 k hk' hk), fun k hk => ?_, h6, fun k hk hk' => ?_, fun k hk hk' => ?_, h9⟩,
    h.below.trans (g3.to_below h.below.size h5), fun k hk => Nat.lt_of_lt_of_le (h.lt k hk) g3.size⟩, fun k hk => g3.block k (h.lt k hk) (h8 k hk)⟩
  · rcases g4 k hk with h | h'
    · exact h5 k h
    · have := h.below.size; omega
  · rcases g4 k hk with h | h
    · exact h7 k h hk'
    · have := h4.lt k hk'; omega
  · rcases g4 k hk' with h' | h'
    · exact h8 k hk h'
    · have := h.lt k hk; omega
/-- a second disk, new -/
theorem l2_new (n : Nat) {w wr : World} {A : Nat} {s : St} (h : Lv w wr A s) (h1 : 1 ≤ n) (h2 : n ≤ 1000) :
    Calls Tryz.prog 9 #[.int .i64 (n : Int)] wr fun e w' => ∃ B, e = .returned (.tuple #[.pointer (some ⟨B, 0, none⟩), .int .i64 0]) ∧ L2 w w' (fun _ => False) A s B (newS (blanks n)) := by
  obtain ⟨a, rfl, ha, hfa⟩ := h.ex
  refine (new_ok n wr h1 h2).mono fun e w' ⟨d, g1, g2, g3, g4⟩ => ⟨d.D, g1, ⟨⟨a, d, rfl, rfl, ha.below g3, g2, hfa, fun k hk => Nat.le_trans h.below.size (g4 k hk), fun k hk hk' => ?_, fun k hk => hk.elim, fun k hk => hk.elim⟩, h.below.trans (g3.mono h.below.size), fun k hk => hk.elim⟩⟩
  have := ha.lt k hk
  have := g4 k hk'
  omega
end
theorem l2_write (n : Nat) (p : ByteArray) {w wr : World} {K : Nat → Prop} {A B : Nat} {s t : St} (h : L2 w wr K A s B t) (hn : n < s.pages.length) (ht : p.size = 256) (hfz : s.fuse ≠ 0) (hf : s.waits.length < 1000000) (hw : s.writes < 1000000) :
    Calls Tryz.prog 78 #[.pointer (some ⟨A, 0, none⟩), .int .i64 (n : Int), .string p] wr fun e w' => e = .returned (.int .i64 0) ∧ L2 w w' K A (writeS s n p) B t ∧ Stay K wr w' :=
  h.call (R := fun e => e = .returned (.int .i64 0)) fun a ha hd => by
    subst ha
    exact (write_ok a s n p wr hd hn ht hfz hf hw).mono fun _ _ ⟨h1, v, h2, h3, h4⟩ => ⟨h1, { a with wv := v }, rfl, h2, h3, h4⟩
theorem l2_flush {w wr : World} {K : Nat → Prop} {A B : Nat} {s t : St} (h : L2 w wr K A s B t) (hfz : s.fuse ≠ 0) (hfl : s.flushes < 1000000) :
    Calls Tryz.prog 91 #[.pointer (some ⟨A, 0, none⟩)] wr fun e w' => e = .returned (.int .i64 (s.waits.length : Int)) ∧ L2 w w' K A (flushS s) B t ∧ Stay K wr w' :=
  h.call (R := fun e => e = .returned (.int .i64 (s.waits.length : Int))) fun a ha hd => by
    subst ha
    exact (flush_ok a s wr hd hfz hfl).mono fun _ _ ⟨h1, v, h2, h3, h4⟩ => ⟨h1, { a with wv := v }, rfl, h2, h3, h4⟩
theorem l2_crash (q : Option Addr) (c : Nat) (ks : List Int) (torn x : Int) (o : List ByteArray) {w wr : World} {K : Nat → Prop} {A B : Nat} {s t : St} (h : L2 w wr K A s B t) (hks : Dk.Kept wr q ks) (hkm : ks.length ≤ maxLen) (hc : comeS s ks torn x = some o) :
    Calls Tryz.prog 26 #[.pointer (some ⟨A, 0, none⟩), .slice q ks.length c, .int .i64 torn, .int .i64 x] wr fun e w' => e = .returned (.int .i64 0) ∧ L2 w w' K A (crashS s o) B t ∧ Stay K wr w' :=
  h.call (R := fun e => e = .returned (.int .i64 0)) fun a ha hd => by
    subst ha
    exact (crash_ok a s wr hd q c ks hks hkm torn x o hc).mono fun _ _ ⟨h1, v, h2, h3, h4⟩ => ⟨h1, { a with wv := v }, rfl, h2, h3, h4⟩
end Go.Proofs.YtgihpdhkjneimaaGreatDoor.Dk

/- What is read of a disk, and what a crash that keeps all leaves. -/
namespace Go.Proofs.YtgihpdhkjneimaaGreatDoor.Dk

/-- what is read of a disk: its pages, behind all that waits -/
def viewS (s : St) : List ByteArray := applyW s.pages s.waits
theorem view_write (s : St) (n : Nat) (t : ByteArray) : viewS (writeS s n t) = (viewS s).set n t := by
  unfold viewS
  show applyW s.pages (s.waits ++ [(n, t)]) = _
  rw [applyW_snoc]
theorem view_flush (s : St) : viewS (flushS s) = viewS s ∧ (flushS s).pages = viewS s ∧ (flushS s).waits = [] := by
  have e : (flushS s).pages = viewS s := by
    show applyW s.pages (s.waits.take s.waits.length) = _
    rw [List.take_length]; rfl
  refine ⟨?_, e, rfl⟩
  show applyW (flushS s).pages [] = _
  rw [e]; rfl
theorem view_read (s : St) : viewS (readS s) = viewS s := rfl
theorem view_new (l : List ByteArray) : viewS (newS l) = l := rfl
theorem view_length (s : St) : (viewS s).length = s.pages.length := applyW_length _ _
/-- the texts of the first n writes, the others still none -/
def firstT (s : St) (n : Nat) : List ByteArray := (s.waits.map (·.2)).take n ++ List.replicate (s.waits.length - n) emptyB
theorem firstT_length (s : St) (n : Nat) (h : n ≤ s.waits.length) : (firstT s n).length = s.waits.length := by simp [firstT]; omega
theorem firstT_zero (s : St) : firstT s 0 = none0 s := by simp [firstT, none0]
theorem firstT_set (s : St) (n : Nat) (h : n < s.waits.length) : (firstT s n).set n (textAt s n) = firstT s (n + 1) := by
  unfold firstT textAt
  have hl : n < (s.waits.map (·.2)).length := by simpa using h
  have ht : ((s.waits.map (·.2)).take n).length = n := by simp; omega
  rw [List.set_append, if_neg (by omega), ht, Nat.sub_self, List.take_succ_eq_append_getElem hl]
  obtain ⟨d, hd⟩ : ∃ d, s.waits.length - n = d + 1 := ⟨s.waits.length - n - 1, by omega⟩
  have : s.waits.length - (n + 1) = d := by omega
  rw [hd, this, List.replicate_succ, List.set_cons_zero]
  simp [h]
theorem firstT_free (s : St) (n : Nat) (h : n < s.waits.length) : freeB (firstT s n) (n : Int) = true := by
  unfold freeB
  rw [firstT_length s n (by omega)]
  have e : (firstT s n).getD n emptyB = emptyB := by
    unfold firstT
    have ht : ((s.waits.map (·.2)).take n).length = n := by simp; omega
    rw [List.getD_eq_getElem?_getD, List.getElem?_append_right (by omega), ht, Nat.sub_self, List.getElem?_replicate]
    split <;> rfl
  rw [Int.toNat_natCast, e, emptyB_nil]
  simp [h]
/-- so many numbers, from 0 on -/
def upTo (n : Nat) : List Int := (List.range n).map fun (i : Nat) => (i : Int)
theorem upTo_snoc (n : Nat) : upTo n ++ [(n : Int)] = upTo (n + 1) := by simp [upTo, List.range_succ]
theorem upTo_length (n : Nat) : (upTo n).length = n := by simp [upTo]
theorem keep_upTo (s : St) (n : Nat) (h : n ≤ s.waits.length) : keepL s (upTo n) (none0 s) = some (firstT s n) := by
  induction n with
  | zero => rw [firstT_zero]; rfl
  | succ n ih =>
    rw [← upTo_snoc, keepL_app, ih (by omega)]
    show keepL s [(n : Int)] (firstT s n) = _
    unfold keepL
    rw [if_pos (firstT_free s n (by omega)), Int.toNat_natCast, firstT_set s n (by omega)]
    rfl
/-- a crash that keeps all that waits -/
theorem come_all (s : St) : comeS s (upTo s.waits.length) (-1) 0 = some (firstT s s.waits.length) := by
  unfold comeS
  rw [keep_upTo s _ (Nat.le_refl _)]
  rfl
theorem firstT_all (s : St) (k : Nat) (h : k < s.waits.length) : (firstT s s.waits.length).getD k emptyB = (s.waits[k]).2 := by
  unfold firstT
  rw [Nat.sub_self, List.replicate_zero, List.append_nil, List.take_of_length_le (by simp)]
  simp [List.getD_eq_getElem?_getD, h]
theorem crashP_view (s : St) (hs : ∀ x ∈ s.waits, x.2.size = 256) (k : Nat) (h : k ≤ s.waits.length) : crashP s (firstT s s.waits.length) k = applyW s.pages (s.waits.take k) := by
  induction k with
  | zero => rfl
  | succ k ih =>
    unfold crashP
    have hk : k < s.waits.length := by omega
    rw [firstT_all s k hk, ih (by omega), List.take_succ_eq_append_getElem hk, applyW_snoc]
    have hn : (s.waits[k]).2.toList.isEmpty = false := by
      have hz := hs _ (List.getElem_mem hk)
      cases e : (s.waits[k]).2.toList.isEmpty with
      | false => rfl
      | true =>
        rw [List.isEmpty_iff, ByteArray.toList_eq] at e
        have : (s.waits[k]).2.size = 0 := by
          show (s.waits[k]).2.data.size = 0
          rw [← Array.length_toList, e]; rfl
        omega
    rw [if_neg (by rw [hn]; simp)]
    simp [List.getD_eq_getElem?_getD, hk]
/-- a crash that keeps all is as a flush -/
theorem crash_all_pages (s : St) (hs : ∀ x ∈ s.waits, x.2.size = 256) : (crashS s (firstT s s.waits.length)).pages = viewS s := by
  show crashP s _ s.waits.length = _
  rw [crashP_view s hs _ (Nat.le_refl _), List.take_length]; rfl
end Go.Proofs.YtgihpdhkjneimaaGreatDoor.Dk

/- What a journal's pages say behind a Commit, an Abort. Plain. -/
namespace Go.Proofs.YtgihpdhkjneimaaGreatDoor.Jn
open Go.RowKit
open Go.Proofs.YtgihpdhkjneimaaGreatDoor.Dk
open Go.Proofs.YtgihpdhkjneimaaGreatDoor.En (Lst entC encR mayE mayS PageT textS entB Rd)
open Go.Proofs.YtgihpdhkjneimaaGreatDoor.Pg (sealL openL mayP)
open Go.Proofs.YtgihpdhkjneimaaGreatDoor.Sm (U sumB)

theorem vw_view (s : St) (m : Nat) : vw s m = (viewS s).getD m emptyB := rfl
theorem getD_set {l : List ByteArray} {m j : Nat} {u d : ByteArray} (h : m < l.length) : (l.set m u).getD j d = if j = m then u else l.getD j d := by
  rw [List.getD_eq_getElem?_getD, List.getD_eq_getElem?_getD, List.getElem?_set]
  by_cases e : m = j
  · subst e; rw [if_pos rfl, if_pos rfl, if_pos h]; rfl
  · rw [if_neg e, if_neg (fun h => e h.symm)]
/-- a write that comes to pass -/
theorem wr_yes {s : St} {m : Nat} {u : ByteArray} (hf : s.fuse = -1) (hm : m < s.pages.length) (hu : u.size = 256) : wrU s (m : Int) u = (0, writeS s m u) := by
  unfold wrU
  rw [if_pos ⟨by omega, by omega, hu, by omega⟩, Int.toNat_natCast]
theorem wr_fuse {s : St} {m : Int} {u : ByteArray} (hf : s.fuse = -1) : (wrU s m u).2.fuse = -1 := by
  unfold wrU
  split
  · show burnI s.fuse = -1
    rw [hf]; rfl
  · exact hf
theorem wr_vw {s : St} {m : Nat} {u : ByteArray} (hf : s.fuse = -1) (hm : m < s.pages.length) (hu : u.size = 256) (j : Nat) : vw (wrU s (m : Int) u).2 j = if j = m then u else vw s j := by
  rw [wr_yes hf hm hu, vw_view, view_write, getD_set (by rw [view_length]; exact hm)]; rfl
theorem fl_fuse {s : St} (hf : s.fuse = -1) : (flU s).2.fuse = -1 := by
  unfold flU
  rw [if_neg (by omega)]
  show burnI s.fuse = -1
  rw [hf]; rfl
theorem fl_vw (s : St) : vw (flU s).2 = vw s := by
  unfold flU
  split
  · rfl
  · funext j; rw [vw_view, vw_view, (view_flush s).1]
theorem pgJ_size {m : Nat} {kd tx ix pk pn : Int} {bo : ByteArray} {ct sm : Int} (hs : 0 ≤ sm) (hm : mayE kd tx ix pk pn bo ct sm) : (pgJ m kd tx ix pk pn bo ct sm).size = 256 := by
  have hz := En.encR_size hs hm
  show (sealL 5 m (encR kd tx ix pk pn bo ct sm).1.data.toList).toArray.size = 256
  rw [List.size_toArray, Pg.sealL_length _ _ _ (by rw [Fd.size_list]; exact hz.2)]
theorem open_pgJ {m : Nat} {kd tx ix pk pn : Int} {bo : ByteArray} {ct sm : Int} (hs : 0 ≤ sm) (hm : mayE kd tx ix pk pn bo ct sm) (hm2 : m < 1000) : openL (pgJ m kd tx ix pk pn bo ct sm).data.toList = (5, m, (encR kd tx ix pk pn bo ct sm).1.data.toList, 0) := by
  have hz := En.encR_size hs hm
  show openL (sealL 5 m (encR kd tx ix pk pn bo ct sm).1.data.toList).toArray.toList = _
  rw [List.toList_toArray]
  exact Pg.open_seal 5 m _ ⟨by decide, by decide, by omega, by omega, by rw [Fd.size_list]; exact_mod_cast hz.2⟩
/-- a page that was written as an entry is read as it -/
theorem isJ_pgJ {m i t : Nat} {kd pk pn : Int} {bo : ByteArray} {ct sm : Int} (hs : 0 ≤ sm) (hs2 : sm < 4294967296) (hm : mayE kd t i pk pn bo ct sm) (hm2 : m < 1000) : IsJ (pgJ m kd t i pk pn bo ct sm) m i t kd pk pn bo ct sm :=
  ⟨_, open_pgJ hs hm hm2, hs, hs2, hm, rfl⟩
theorem text_inj {a b : ByteArray} (h : a.data.toList = b.data.toList) : a = b := by
  apply ByteArray.ext
  exact Array.toList_inj.1 h
/-- and as no other one -/
theorem isJ_same {u : ByteArray} {m i t i' t' : Nat} {kd pk pn : Int} {bo : ByteArray} {ct sm : Int} {kd' pk' pn' : Int} {bo' : ByteArray} {ct' sm' : Int} (h : IsJ u m i t kd pk pn bo ct sm) (h' : IsJ u m i' t' kd' pk' pn' bo' ct' sm') :
    kd = kd' ∧ t = t' ∧ i = i' ∧ pk = pk' ∧ pn = pn' ∧ bo = bo' ∧ ct = ct' ∧ sm = sm' := by
  obtain ⟨S, h1, h2, h3, h4, h5⟩ := h
  obtain ⟨S', g1, g2, g3, g4, g5⟩ := h'
  rw [h1] at g1
  have e : S = S' := text_inj (by injection g1 with _ g1; injection g1 with _ g1; injection g1 with g1 _)
  have r1 := En.rd_enc h2 h3 h4
  have r2 := En.rd_enc g2 g3 g4
  rw [h5, e] at r1
  rw [g5] at r2
  obtain ⟨a1, a2, a3, a4, a5, a6, a7, a8⟩ := r1.same r2
  exact ⟨a1, by omega, by omega, a4, a5, a6, a7, a8⟩
/-- a scan gives one thing -/
theorem Scans.det {V : Nat → ByteArray} {b n t i : Nat} {acc : List PageT} {r r' : Option (List PageT)} (h : Scans V b n t i acc r) (h' : Scans V b n t i acc r') : r = r' := by
  induction h with
  | stop h => cases h' with
    | stop => rfl
    | no g => omega
    | page g => omega
    | done g => omega
    | other g => omega
  | no h hn => cases h' with
    | stop g => omega
    | no => rfl
    | page _ gj => exact absurd gj (hn _ _ _ _ _ _)
    | done _ gj => exact absurd gj (hn _ _ _ _ _ _)
    | other _ gj => exact absurd gj (hn _ _ _ _ _ _)
  | page h hj _ ih => cases h' with
    | stop g => omega
    | no _ gn => exact absurd hj (gn _ _ _ _ _ _)
    | page _ gj gs =>
      obtain ⟨-, -, -, rfl, rfl, rfl, -, -⟩ := isJ_same hj gj
      exact ih gs
    | done _ gj gk => exact absurd (isJ_same hj gj).1.symm gk
    | other _ gj gk => exact absurd (isJ_same hj gj).1.symm gk
  | done h hj hk he => cases h' with
    | stop g => omega
    | no _ gn => exact absurd hj (gn _ _ _ _ _ _)
    | page _ gj => exact absurd (isJ_same hj gj).1 hk
    | done => rfl
    | other _ gj _ ge =>
      obtain ⟨rfl, -, -, rfl, rfl, rfl, rfl, rfl⟩ := isJ_same hj gj
      rw [he] at ge; cases ge
  | other h hj hk he => cases h' with
    | stop g => omega
    | no _ gn => exact absurd hj (gn _ _ _ _ _ _)
    | page _ gj => exact absurd (isJ_same hj gj).1 hk
    | other => rfl
    | done _ gj _ ge =>
      obtain ⟨rfl, -, -, rfl, rfl, rfl, rfl, rfl⟩ := isJ_same hj gj
      rw [he] at ge; cases ge
/-- the page that is staged at i -/
noncomputable def stg (b t : Nat) (L : List PageT) (i : Nat) : ByteArray := pgJ (b + i) 1 t (i : Nat) (L.getD i (0, 0, ⟨#[]⟩)).1 (L.getD i (0, 0, ⟨#[]⟩)).2.1 (L.getD i (0, 0, ⟨#[]⟩)).2.2 0 0
noncomputable def cmt (b t : Nat) (L : List PageT) : ByteArray := pgJ (b + L.length) 2 t (L.length : Nat) 0 0 ⟨#[]⟩ (L.length : Nat) (U (sumB (textS L L.length)))
theorem stg_at {b t : Nat} {L : List PageT} {i : Nat} (h : i < L.length) : stg b t L i = pgJ (b + i) 1 t (i : Nat) L[i].1 L[i].2.1 L[i].2.2 0 0 := by
  unfold stg
  rw [List.getD_eq_getElem?_getD, List.getElem?_eq_getElem h]; rfl
theorem stg_size {b n t : Nat} (ok : JOk b n t) {L : List PageT} (hs : AllS L) {i : Nat} (h : i < L.length) (hl : L.length ≤ 999) : (stg b t L i).size = 256 := by
  rw [stg_at h]
  exact pgJ_size (by decide) (may1 t i ok.t1 ok.t2 (by omega) (hs i h))
theorem U_fit (x : BitVec 32) : 0 ≤ U x ∧ U x < 4294967296 := by unfold U; have := x.isLt; omega
theorem wrS_fuse {s : St} (hf : s.fuse = -1) (b t : Nat) (L : List PageT) (i : Nat) : (wrS s b t L i).fuse = -1 := by
  induction i with
  | zero => exact hf
  | succ i ih => exact wr_fuse ih
theorem wrS_len {s : St} (b t : Nat) (L : List PageT) (i : Nat) : (wrS s b t L i).pages.length = s.pages.length := by
  induction i with
  | zero => rfl
  | succ i ih => exact (wr_len _ _ _).trans ih
theorem wrS_vw {s : St} (hf : s.fuse = -1) {b n t : Nat} (ok : JOk b n t) {L : List PageT} (hs : AllS L) (hl : L.length < n) (hp : b + n ≤ s.pages.length) (i : Nat) (hi : i ≤ L.length) (j : Nat) :
    vw (wrS s b t L i) j = if b ≤ j ∧ j < b + i then stg b t L (j - b) else vw s j := by
  induction i with
  | zero => rw [if_neg (by omega)]; rfl
  | succ i ih =>
    have h1 := wr_vw (s := wrS s b t L i) (m := b + i) (u := stg b t L i) (wrS_fuse hf b t L i) (by rw [wrS_len]; omega) (stg_size ok hs (by omega) (by have := ok.n9; omega)) j
    have e : wrS s b t L (i + 1) = (wrU (wrS s b t L i) ((b + i : Nat) : Int) (stg b t L i)).2 := rfl
    rw [e, h1, ih (by omega)]
    by_cases hj : j = b + i
    · rw [if_pos hj, if_pos (by omega), show j - b = i by omega]
    · rw [if_neg hj]
      by_cases h2 : b ≤ j ∧ j < b + i
      · rw [if_pos h2, if_pos (by omega)]
      · rw [if_neg h2, if_neg (by omega)]
theorem cmt_size {b n t : Nat} (ok : JOk b n t) {L : List PageT} (h0 : 0 < L.length) (hl : L.length < n) : (cmt b t L).size = 256 :=
  pgJ_size (U_fit _).1 (may2 t L.length _ ok.t1 ok.t2 (by have := ok.n9; omega) h0)
/-- behind a Commit -/
theorem com_vw {s : St} (hf : s.fuse = -1) {b n t : Nat} (ok : JOk b n t) {L : List PageT} (h0 : 0 < L.length) (hs : AllS L) (hl : L.length < n) (hp : b + n ≤ s.pages.length) (j : Nat) :
    vw (comS s b t L) j = if b ≤ j ∧ j < b + L.length then stg b t L (j - b) else if j = b + L.length then cmt b t L else vw s j := by
  have e : comS s b t L = (flU (wrU (flU (wrS s b t L L.length)).2 ((b + L.length : Nat) : Int) (cmt b t L)).2).2 := rfl
  have h1 := wr_vw (s := (flU (wrS s b t L L.length)).2) (m := b + L.length) (u := cmt b t L) (fl_fuse (wrS_fuse hf b t L _)) (by rw [fl_len, wrS_len]; omega) (cmt_size ok h0 hl) j
  rw [e, fl_vw, h1, fl_vw, wrS_vw hf ok hs hl hp L.length (Nat.le_refl _) j]
  by_cases hj : j = b + L.length
  · rw [if_pos hj, if_neg (by omega), if_pos hj]
  · rw [if_neg hj, if_neg hj]
theorem com_fuse {s : St} (hf : s.fuse = -1) (b t : Nat) (L : List PageT) : (comS s b t L).fuse = -1 := fl_fuse (wr_fuse (fl_fuse (wrS_fuse hf b t L _)))
theorem com_len (s : St) (b t : Nat) (L : List PageT) : (comS s b t L).pages.length = s.pages.length := by
  unfold comS; rw [fl_len, wr_len, fl_len, wrS_len]
/-- what was committed is scanned -/
theorem scan_com {V : Nat → ByteArray} {b n t : Nat} (ok : JOk b n t) {L : List PageT} (h0 : 0 < L.length) (hs : AllS L) (hl : L.length < n) (hv : ∀ i, i < L.length → V (b + i) = stg b t L i) (hc : V (b + L.length) = cmt b t L) : Scans V b n t 0 [] (some L) := by
  have all : ∀ k i, i + k = L.length → Scans V b n t i (L.take i) (some L) := by
    intro k
    induction k with
    | zero =>
      intro i hi
      obtain rfl : i = L.length := by omega
      rw [List.take_length]
      refine Scans.done (by omega) (kd := 2) (pk := 0) (pn := 0) (bo := ⟨#[]⟩) (ct := (L.length : Nat)) (sm := U (sumB (textS L L.length))) ?_ (by decide) (En.entB_self _ _ _ _ _ _ _ _)
      rw [hc]
      exact isJ_pgJ (U_fit _).1 (U_fit _).2 (may2 t L.length _ ok.t1 ok.t2 (by have := ok.n9; omega) h0) (by have := ok.bn; omega)
    | succ k ih =>
      intro i hi
      have hiL : i < L.length := by omega
      refine Scans.page (by omega) (pk := L[i].1) (pn := L[i].2.1) (bo := L[i].2.2) (ct := 0) (sm := 0) ?_ ?_
      · rw [hv i hiL, stg_at hiL]
        exact isJ_pgJ (by decide) (by decide) (may1 t i ok.t1 ok.t2 (by have := ok.n9; omega) (hs i hiL)) (by have := ok.bn; omega)
      · have := ih (i + 1) (by omega)
        rw [List.take_succ_eq_append_getElem hiL] at this
        exact this
  exact all L.length 0 (by omega)
theorem com_scan {s : St} (hf : s.fuse = -1) {b n t : Nat} (ok : JOk b n t) {L : List PageT} (h0 : 0 < L.length) (hs : AllS L) (hl : L.length < n) (hp : b + n ≤ s.pages.length) : Scans (vw (comS s b t L)) b n t 0 [] (some L) := by
  refine scan_com ok h0 hs hl (fun i hi => ?_) ?_
  · rw [com_vw hf ok h0 hs hl hp, if_pos (by omega), show b + i - b = i by omega]
  · rw [com_vw hf ok h0 hs hl hp, if_neg (by omega), if_pos rfl]
/-- of another transaction nothing is scanned -/
theorem scan_other {V : Nat → ByteArray} {b n t t' : Nat} (hn : 0 < n) {kd pk pn : Int} {bo : ByteArray} {ct sm : Int} (h : IsJ (V b) b 0 t' kd pk pn bo ct sm) (hne : t ≠ t') : Scans V b n t 0 [] none :=
  Scans.no hn fun _ _ _ _ _ _ g => hne (isJ_same g h).2.1
/-- of an Abort nothing is scanned -/
theorem scan_abort {V : Nat → ByteArray} {b n t : Nat} (ok : JOk b n t) (h : V b = pgJ b 3 t (0 : Nat) 0 0 ⟨#[]⟩ 0 0) : Scans V b n t 0 [] none := by
  refine Scans.other (by have := ok.n2; omega) (kd := 3) (pk := 0) (pn := 0) (bo := ⟨#[]⟩) (ct := 0) (sm := 0) ?_ (by decide) rfl
  rw [Nat.add_zero, h]
  exact isJ_pgJ (by decide) (by decide) (may3 t ok.t1 ok.t2) (by have := ok.bn; have := ok.n2; omega)
theorem abo_vw {s : St} (hf : s.fuse = -1) {b n t : Nat} (ok : JOk b n t) (hp : b + n ≤ s.pages.length) (j : Nat) : vw (aboS s b t) j = if j = b then pgJ b 3 t (0 : Nat) 0 0 ⟨#[]⟩ 0 0 else vw s j := by
  unfold aboS
  rw [fl_vw, wr_vw hf (by have := ok.n2; omega) (pgJ_size (by decide) (may3 t ok.t1 ok.t2))]
theorem abo_scan {s : St} (hf : s.fuse = -1) {b n t : Nat} (ok : JOk b n t) (hp : b + n ≤ s.pages.length) : Scans (vw (aboS s b t)) b n t 0 [] none :=
  scan_abort ok (by rw [abo_vw hf ok hp, if_pos rfl])
theorem abo_fuse {s : St} (hf : s.fuse = -1) (b t : Nat) : (aboS s b t).fuse = -1 := fl_fuse (wr_fuse hf)
theorem abo_len (s : St) (b t : Nat) : (aboS s b t).pages.length = s.pages.length := by unfold aboS; rw [fl_len, wr_len]
end Go.Proofs.YtgihpdhkjneimaaGreatDoor.Jn
