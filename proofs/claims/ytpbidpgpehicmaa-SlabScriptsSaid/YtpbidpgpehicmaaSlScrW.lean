/- SlabScripts walked. -/
import Derived.Test.YtpbidpgpehicmaaSlTwo
import Derived.Test.YtpbidpgpehicmaaSlLive2
namespace Go.Proofs.Ytpbidpgpehicmaa.Sl
open Go.RowKit Go.Shelf
open Go.Lib (hid)

theorem two_new {K : Nat → Prop} {w1 w2 : World} {b b' g' h' : Nat} {S : List Nat} {C : List Int} (h : Lv K w1 b S C) (hr : Rlb w2 b' g' h' (zs S) C) (hge : ∀ j, B3 b' g' h' j → w1.heap.size ≤ j) (hb : Below w1.heap.size w1 w2) : Two K b b' w2 S C S C := by
  obtain ⟨g, k, hs, hn⟩ := h.ex
  refine ⟨⟨g, k, g', h', hs.below hb, hr, hn, fun j hj e => ?_, fun j hj e => ?_⟩, h.fit, h.fit, h.wf, fun j hj => Nat.lt_of_lt_of_le (h.lt j hj) hb.size⟩
  · have := h.lt j e; have := hge j hj; omega
  · have := hs.lts j hj; have := hge j e; omega
theorem ints_sz (S : List Nat) (p q : Option Addr) (c c' : Nat) (w : World) (hp : CellsAt w p (iv (zs S))) (hq : CellsAt w q (iv (zs S))) (hl : S.length ≤ 6) :
    Calls Try.prog 24 #[.slice p S.length c, .slice q S.length c'] w fun e w' => e = .returned (.bool true) ∧ Below w.heap.size w w' := by
  have h := ints_ok (zs S) (zs S) p q c c' w hp hq (by rw [zs_len]; omega)
  rw [decide_eq_true (rfl : zs S = zs S), zs_len] at h
  exact h.mono fun e w' ⟨h1, n, h2⟩ => ⟨h1, by rw [h2]; exact below_drewN (Below.refl _ _) n⟩
theorem ints_co (C : List Int) (p q : Option Addr) (c c' : Nat) (w : World) (hp : CellsAt w p (iv C)) (hq : CellsAt w q (iv C)) (hl : C.length ≤ 4096) :
    Calls Try.prog 24 #[.slice p C.length c, .slice q C.length c'] w fun e w' => e = .returned (.bool true) ∧ Below w.heap.size w w' := by
  have h := ints_ok C C p q c c' w hp hq (by omega)
  rw [decide_eq_true (rfl : C = C)] at h
  exact h.mono fun e w' ⟨h1, n, h2⟩ => ⟨h1, by rw [h2]; exact below_drewN (Below.refl _ _) n⟩
theorem script_next {w wr V X : World} {G : Nat} (hb : Below w.heap.size w wr) (hv : Below wr.heap.size wr V) (ho : On (fun j => j < w.heap.size ∨ j = G) V X) : Below w.heap.size w X :=
  hb.trans ((hv.mono hb.size).trans (ho.below (Nat.le_trans hb.size hv.size) fun _ hj => .inl hj))
theorem seenU_len {S : List Nat} {C : List Int} (F : Fits S C) (lo hi : List Int) : (seenU S C lo hi).2.length ≤ 4096 := by
  unfold seenU
  split
  · rename_i hh
    obtain ⟨L, H, rfl, rfl, h1, h2⟩ := range_nat S lo hi hh
    simp only [zs_nat]
    rw [← show plcs S L H = (rangeL L H).map (placeL S) from rfl, ← sstep_all F h1 h2]
    refine Nat.le_trans (sstep_len S L H C _) ?_
    rw [F.len]; exact F.most
  · simp
end Go.Proofs.Ytpbidpgpehicmaa.Sl
namespace Go.Proofs.Ytpbidpgpehicmaa
open Go.RowKit Go.Shelf
open Go.Lib (hid)
open Go.ChangeShapes Go.WideShapes Go.Joins
open Go.Proofs.Ytpbidpgpehicmaa.Sl

set_option maxRecDepth 100000 in
theorem SlabScripts_open2 {H : Type} {enc : TypeId × Value → H} {W : World} {base : Nat} {v : Value} {d : DataW H} {p : List MemPlace} (hv : Value.okWide Try.prog W .any base 22 v) (h : DataW.Trod enc Try.prog W 0 (fun _ => true) true 22 v d p) : ∃ a len cap, v = .slice a len cap ∧ IsOps W a len := open_Ops hv h
set_option maxRecDepth 100000 in
set_option maxHeartbeats 4000000 in
theorem Scr_no (dim n : Int) (a : Option Addr) (len cap : Nat) (w : World) (hd : ¬ (1 ≤ dim ∧ dim ≤ 6)) :
    Calls Try.prog 3 #[.int .i64 dim, .int .i64 n, .slice a len cap] w fun e w' => e = .returned (.bool true) ∧ Below w.heap.size w w' := by
  have HN := hid fun (V : World) => new_bad dim n V hd
  have HK := hid fun (V : World) => rnew_bad dim n V hd
  clear hd
  go_enter Try.func3, Try.ntmps3
  go_wp2_with fail
  refine (HN.out _).mono ?_
  rintro e w1 ⟨rfl, rfl⟩
  go_wp2_with fail
  refine (HK.out _).mono ?_
  rintro e w1 ⟨rfl, rfl⟩
  go_wp2_with fail
  go_loopw [11] (fun s wr => s = .int .i64 0 ∧ wr = w1) (fun _ _ => 0)
  case atStart => exact ⟨rfl, rfl⟩
  case round =>
    obtain ⟨rfl, rfl⟩ := hrel
    by_cases h0 : len = 0
    · subst h0
      go_wp2_with fail
      refine (live_any _).mono ?_
      rintro e w2 ⟨rfl, hb⟩
      have H2 := hid hb; clear hb
      go_wp2_with fail
      go_ret
      exact ⟨rfl, H2.out⟩
    · have e1 : decide ((0 : Int) < (len : Int)) = true := decide_eq_true (by omega)
      have e1' : decide (0 < len) = true := decide_eq_true (by omega)
      go_wp2_with fail
      refine (live_any _).mono ?_
      rintro e w2 ⟨rfl, hb⟩
      have H2 := hid hb; clear hb
      go_wp2_with fail
      go_ret
      exact ⟨rfl, H2.out⟩
set_option maxRecDepth 100000 in
set_option maxHeartbeats 16000000 in
theorem Scr_yes (dim n : Int) (a : Option Addr) (len cap : Nat) (w : World) (hd : 1 ≤ dim ∧ dim ≤ 6) (hw : (Lit.int .i64 n).wf = true) (hs : IsOps w a len) :
    Calls Try.prog 3 #[.int .i64 dim, .int .i64 n, .slice a len cap] w fun e w' => e = .returned (.bool true) ∧ Below w.heap.size w w' := by
  have HN := hid (lv_new (K := fun j => j < w.heap.size) (V := w) (fun j hj => hj) dim n hd.1 hd.2 hw)
  have HK := hid fun (V : World) => rnew_ok dim n V hd.1 hd.2
  have HS := hid hs
  clear hd hs hw
  go_enter Try.func3, Try.ntmps3
  go_wp2_with fail
  refine HN.out.mono ?_
  rintro e w1 ⟨b, rfl, hl, hb⟩
  have HL := hid hl
  have HB1 := hid hb
  clear hl hb HN
  go_wp2_with fail
  refine (HK.out _).mono ?_
  rintro e w2 ⟨b', g', h', rfl, hr, hge, hb⟩
  have HT := hid (two_new HL.out hr hge hb)
  have HB2 := hid (HB1.out.trans (hb.mono HB1.out.size))
  clear hr hge hb HL HB1 HK
  generalize List.replicate dim.toNat 1 = S0 at HT
  go_wp2_with fail
  go_loopw [11] (fun i wr => ∃ (k : Nat) (S : List Nat) (C : List Int), k ≤ len ∧ k ≤ 40 ∧ i = .int .i64 k ∧ Two (fun j => j < w.heap.size) b b' wr S C S C ∧ Below w.heap.size w wr) (fun i _ => 40 - (intOf i).toNat)
  case atStart => exact ⟨0, _, _, by omega, by omega, rfl, HT.out, HB2.out⟩
  case round =>
    obtain ⟨k, S, C, hk, hk6, rfl, ht, hbw⟩ := hrel
    have HR := hid ht
    have HBW := hid hbw
    clear ht hbw HT HB2
    obtain ⟨gS, gC, kS, kC, hsh⟩ := HR.out.shows
    obtain ⟨-, y1, -, -⟩ := hsh _ (Below.refl _ _)
    clear hsh
    by_cases hlt : k < len
    · have e1 : decide ((k : Int) < (len : Int)) = true := by simpa using hlt
      have e1' : decide (k < len) = true := by simpa using hlt
      by_cases h6 : k < 40
      · have e2 : decide ((k : Int) < 40) = true := by simp; omega
        have e2' : decide (k < 40) = true := by simp; omega
        by_cases hc : C.length ≤ 200
        · have e3 : decide ((C.length : Int) ≤ 200) = true := decide_eq_true (by omega)
          have e3' : decide (C.length ≤ 200) = true := decide_eq_true (by omega)
          obtain ⟨bb, off, rfl, hbl, hops⟩ : ∃ bb off, a = some ⟨bb, off, none⟩ ∧ bb < w.heap.size ∧ ∀ i, i < len → ∃ d, OpAt w bb (off + i * 6) d := by
            rcases HS.out.2 with h | h
            · omega
            · exact h
          obtain ⟨⟨a0, a1, a2, a3, p4, l4, c4, p5, l5, c5⟩, ho⟩ := hops k hlt
          have HF := hid (And.intro ho.ok.f3 (And.intro ho.ok.f4 ho.ok.f5))
          have HKL := hid (And.intro hlt h6)
          have HW := hid (show wrap64 ((k : Int) + 1) = ((k + 1 : Nat) : Int) from Go.IntWalk.wrap64_in _ (by omega))
          have z0 : (0 : Int) ≤ (k : Int) := by omega
          have z1 : (k : Int) < (len : Int) := by omega
          obtain ⟨d0, d1, d2, d3, d4, d5, _⟩ := ho.below hbl HBW.out
          change wr.cell? _ = some (Value.int .i64 a0) at d0
          change wr.cell? _ = some (Value.int .i64 a1) at d1
          change wr.cell? _ = some (Value.int .i64 a2) at d2
          change wr.cell? _ = some (Value.int .i64 a3) at d3
          change wr.cell? _ = some (Value.slice p4 l4.length c4) at d4
          change wr.cell? _ = some (Value.slice p5 l5.length c5) at d5
          obtain ⟨V, hV⟩ : ∃ V, wr.alloc (.cells #[.int .i64 a0, .int .i64 a1, .int .i64 a2, .int .i64 a3, .slice p4 l4.length c4, .slice p5 l5.length c5] 34 (0, 0)) = V := ⟨_, rfl⟩
          have HBV := hid (show Below wr.heap.size wr V by rw [← hV]; exact below_alloc _ _)
          have HVC := hid (show V.heap[wr.heap.size]? = some (.cells #[.int .i64 a0, .int .i64 a1, .int .i64 a2, .int .i64 a3, .slice p4 l4.length c4, .slice p5 l5.length c5] 34 (0, 0)) by rw [← hV]; exact heap_alloc_new _ _)
          have HTV := hid (HR.out.more HBV.out wr.heap.size (Nat.le_refl _) (Array.getElem?_eq_some_iff.1 HVC.out).1)
          have HC6 := hid (show ∀ X : World, On (fun j => j < w.heap.size ∨ j = wr.heap.size) V X → (X.cell? ⟨wr.heap.size, 0, none⟩ = some (.int .i64 a0) ∧ X.cell? ⟨wr.heap.size, 1, none⟩ = some (.int .i64 a1) ∧ X.cell? ⟨wr.heap.size, 2, none⟩ = some (.int .i64 a2) ∧ X.cell? ⟨wr.heap.size, 3, none⟩ = some (.int .i64 a3) ∧ X.cell? ⟨wr.heap.size, 4, none⟩ = some (.slice p4 l4.length c4) ∧ X.cell? ⟨wr.heap.size, 5, none⟩ = some (.slice p5 l5.length c5)) from fun X hX => by
            have h := (hX.block' _ (.inr rfl) (Array.getElem?_eq_some_iff.1 HVC.out).1).trans HVC.out
            exact ⟨by rw [cell_of_row _ _ _ _ _ _ h]; rfl, by rw [cell_of_row _ _ _ _ _ _ h]; rfl, by rw [cell_of_row _ _ _ _ _ _ h]; rfl, by rw [cell_of_row _ _ _ _ _ _ h]; rfl, by rw [cell_of_row _ _ _ _ _ _ h]; rfl, by rw [cell_of_row _ _ _ _ _ _ h]; rfl⟩)
          have HLO := hid (show CellsD (fun j => ¬ (j < w.heap.size ∨ j = wr.heap.size)) V p4 (iv l4) ∧ CellsD (fun j => ¬ (j < w.heap.size ∨ j = wr.heap.size)) V p5 (iv l5) from by
            have hb := HBW.out.trans (HBV.out.mono HBW.out.size)
            exact ⟨(HF.out.2.1.1.low hb).mono fun j _ hn hlt => hn (.inl hlt), (HF.out.2.2.1.low hb).mono fun j _ hn hlt => hn (.inl hlt)⟩)
          have HON := hid (show On (fun j => j < w.heap.size ∨ j = wr.heap.size) V V from on_below (Below.refl _ _))
          have HWF := hid (i64_wf HF.out.1)
          have HNX := hid fun (X : World) (hX : On (fun j => j < w.heap.size ∨ j = wr.heap.size) V X) => script_next HBW.out HBV.out hX
          obtain ⟨x0, x1, x2, x3, x4, x5⟩ := HC6.out _ HON.out
          clear hops ho hlt h6 hk hk6 hbl hc HVC HF HR
          by_cases h4 : l4.length ≤ 20
          · have f4 : decide ((20 : Int) < (l4.length : Int)) = false := decide_eq_false (by omega)
            have f4' : decide (20 < l4.length) = false := decide_eq_false (by omega)
            have HL4 := hid (show l4.length ≤ 1000000 by omega)
            by_cases h5 : l5.length ≤ 20
            · have f5 : decide ((20 : Int) < (l5.length : Int)) = false := decide_eq_false (by omega)
              have f5' : decide (20 < l5.length) = false := decide_eq_false (by omega)
              have HL5 := hid (show l5.length ≤ 1000000 by omega)
              clear h4 h5
              by_cases h0 : a0 = 0
              · as_aux_lemma =>
                  subst h0
                  go_wp2_with fail
                  clear hV d0 d1 d2 d3 d4 d5 y1 z0 z1
                  clear x0 x1 x2 x3 x4 x5
                  have y0 := (fun t => And.intro t.2.1 t.2.2.1) (HC6.out _ HON.out)
                  have HRD := hid (HTV.out.next (Below.refl _ _).drew)
                  have HOD := hid (HON.out.trans (on_below (K := fun j => j < w.heap.size ∨ j = wr.heap.size) (Below.refl V.heap.size V).drew))
                  go_region_held3 (fun w' => w'.cell? ⟨wr.heap.size, 1, none⟩ = some (.int .i64 a1) ∧ w'.cell? ⟨wr.heap.size, 2, none⟩ = some (.int .i64 a2)) (first | exact y0 | exact y1 | exact y2 | go_keep)
                    (first
                      | (go_at_call 12; refine (HRD.out.grow a1 a2).mono ?_; rintro e w5 ⟨rfl, hr, ho⟩; have HR5 := hid hr; have HON5 := hid (HOD.out.trans ho); have y1 := (fun t => And.intro t.2.1 t.2.2.1) (HC6.out _ HON5.out); clear hr ho)
                      | (go_at_call 13; refine (HR5.out.rgrow a1 a2).mono ?_; rintro e w6 ⟨rfl, hr, ho⟩; have HR6 := hid hr; have HON6 := hid (HON5.out.trans ho); have y2 := (fun t => And.intro t.2.1 t.2.2.1) (HC6.out _ HON6.out); clear hr ho)
                      | fail)
                  clear y0 y1 y2 HRD HOD HR5 HON5
                  generalize (growU S C a1 a2).1 = ee
                  generalize (growU S C a1 a2).2.1 = S1 at HR6
                  generalize (growU S C a1 a2).2.2 = C1 at HR6
                  obtain ⟨gS, gC, kS, kC, hsh⟩ := HR6.out.shows
                  have HSH := hid hsh
                  have q0 := (fun t => And.intro t.1 t.2.1) (hsh _ (Below.refl _ _))
                  have HSM := hid HR6.out.same
                  have HRD := hid (HR6.out.next (Below.refl _ _).drew)
                  clear hsh
                  go_wp2_with fail
                  go_region_held3 (fun w' => w'.cell? ⟨b', 0, none⟩ = some (.slice (some ⟨gS, 0, none⟩) S1.length kS) ∧ w'.cell? ⟨b', 1, none⟩ = some (.slice (some ⟨gC, 0, none⟩) C1.length kC)) (first | exact q0 | exact q1 | exact q2 | exact q3 | exact q4 | go_keep)
                    (first
                      | (go_at_call 25; refine (HRD.out.sizes).mono ?_; rintro e wA ⟨pa, ca, rfl, hc, hb⟩; have HA := hid (show Below w6.heap.size w6 wA from (Below.refl _ w6).drew.trans hb); have HAC := hid hc; have HAT := hid (HRD.out.next hb); have q1 := (fun t => And.intro t.1 t.2.1) (HSH.out _ HA.out); clear hb hc)
                      | (go_at_call 26; refine (HBT.out.cells).mono ?_; rintro e wC ⟨pc, cc, rfl, hc, hb⟩; have HC := hid (HB.out.trans (hb.mono HB.out.size)); have HCC := hid hc; have q3 := (fun t => And.intro t.1 t.2.1) (HSH.out _ HC.out); clear hb hc)
                      | (go_at_call 24; with_reducible refine (ints_sz S1 pa _ ca _ wA HAC.out (HSH.out _ HA.out).2.2.1 HSM.out.1).mono ?_; rintro e wB ⟨rfl, hb⟩; have HB := hid (HA.out.trans (hb.mono HA.out.size)); have HBT := hid (HAT.out.next hb); have q2 := (fun t => And.intro t.1 t.2.1) (HSH.out _ HB.out); clear hb)
                      | (go_at_call 24; with_reducible refine (ints_co C1 pc _ cc _ wC HCC.out (HSH.out _ HC.out).2.2.2 HSM.out.2.1).mono ?_; rintro e wD ⟨rfl, hb⟩; have HD := hid (HC.out.trans (hb.mono HC.out.size)); have q4 := (fun t => And.intro t.1 t.2.1) (HSH.out _ HD.out); clear hb)
                      | fail)
                  have HRE := hid ((HR6.out.next HD.out).less (K' := fun j => j < w.heap.size) fun j hj => .inl hj)
                  have HOE := hid (HNX.out _ (HON6.out.trans (on_below HD.out)))
                  clear q0 q1 q2 q3 q4 HRD HA HAC HAT HB HBT HC HCC HD HSH HSM HR6 HON6
                  go_wp2_with fail
                  go_roundw
                  case rel => exact ⟨k + 1, _, _, HKL.out.1, HKL.out.2, by rw [HW.out], HRE.out, HOE.out⟩
                  case measure => have := HKL.out.2; rw [HW.out]; simp [intOf]; omega
              · have fh0 : (a0 == 0) = false := by simpa using h0
                by_cases h1 : a0 = 1
                · as_aux_lemma =>
                    subst h1
                    go_wp2_with fail
                    clear hV d0 d1 d2 d3 d4 d5 y1 z0 z1
                    clear x0 x1 x2 x3 x4 x5
                    have y0 := (fun t => And.intro t.2.1 t.2.2.1) (HC6.out _ HON.out)
                    have HRD := hid (HTV.out.next (Below.refl _ _).drew)
                    have HOD := hid (HON.out.trans (on_below (K := fun j => j < w.heap.size ∨ j = wr.heap.size) (Below.refl V.heap.size V).drew))
                    go_region_held3 (fun w' => w'.cell? ⟨wr.heap.size, 1, none⟩ = some (.int .i64 a1) ∧ w'.cell? ⟨wr.heap.size, 2, none⟩ = some (.int .i64 a2)) (first | exact y0 | exact y1 | exact y2 | go_keep)
                      (first
                        | (go_at_call 14; refine (HRD.out.shrink a1 a2).mono ?_; rintro e w5 ⟨rfl, hr, ho⟩; have HR5 := hid hr; have HON5 := hid (HOD.out.trans ho); have y1 := (fun t => And.intro t.2.1 t.2.2.1) (HC6.out _ HON5.out); clear hr ho)
                        | (go_at_call 15; refine (HR5.out.rshrink a1 a2).mono ?_; rintro e w6 ⟨rfl, hr, ho⟩; have HR6 := hid hr; have HON6 := hid (HON5.out.trans ho); have y2 := (fun t => And.intro t.2.1 t.2.2.1) (HC6.out _ HON6.out); clear hr ho)
                        | fail)
                    clear y0 y1 y2 HRD HOD HR5 HON5
                    generalize (shrinkU S C a1 a2).1 = ee
                    generalize (shrinkU S C a1 a2).2.1 = S1 at HR6
                    generalize (shrinkU S C a1 a2).2.2 = C1 at HR6
                    obtain ⟨gS, gC, kS, kC, hsh⟩ := HR6.out.shows
                    have HSH := hid hsh
                    have q0 := (fun t => And.intro t.1 t.2.1) (hsh _ (Below.refl _ _))
                    have HSM := hid HR6.out.same
                    have HRD := hid (HR6.out.next (Below.refl _ _).drew)
                    clear hsh
                    go_wp2_with fail
                    go_region_held3 (fun w' => w'.cell? ⟨b', 0, none⟩ = some (.slice (some ⟨gS, 0, none⟩) S1.length kS) ∧ w'.cell? ⟨b', 1, none⟩ = some (.slice (some ⟨gC, 0, none⟩) C1.length kC)) (first | exact q0 | exact q1 | exact q2 | exact q3 | exact q4 | go_keep)
                      (first
                        | (go_at_call 25; refine (HRD.out.sizes).mono ?_; rintro e wA ⟨pa, ca, rfl, hc, hb⟩; have HA := hid (show Below w6.heap.size w6 wA from (Below.refl _ w6).drew.trans hb); have HAC := hid hc; have HAT := hid (HRD.out.next hb); have q1 := (fun t => And.intro t.1 t.2.1) (HSH.out _ HA.out); clear hb hc)
                        | (go_at_call 26; refine (HBT.out.cells).mono ?_; rintro e wC ⟨pc, cc, rfl, hc, hb⟩; have HC := hid (HB.out.trans (hb.mono HB.out.size)); have HCC := hid hc; have q3 := (fun t => And.intro t.1 t.2.1) (HSH.out _ HC.out); clear hb hc)
                        | (go_at_call 24; with_reducible refine (ints_sz S1 pa _ ca _ wA HAC.out (HSH.out _ HA.out).2.2.1 HSM.out.1).mono ?_; rintro e wB ⟨rfl, hb⟩; have HB := hid (HA.out.trans (hb.mono HA.out.size)); have HBT := hid (HAT.out.next hb); have q2 := (fun t => And.intro t.1 t.2.1) (HSH.out _ HB.out); clear hb)
                        | (go_at_call 24; with_reducible refine (ints_co C1 pc _ cc _ wC HCC.out (HSH.out _ HC.out).2.2.2 HSM.out.2.1).mono ?_; rintro e wD ⟨rfl, hb⟩; have HD := hid (HC.out.trans (hb.mono HC.out.size)); have q4 := (fun t => And.intro t.1 t.2.1) (HSH.out _ HD.out); clear hb)
                        | fail)
                    have HRE := hid ((HR6.out.next HD.out).less (K' := fun j => j < w.heap.size) fun j hj => .inl hj)
                    have HOE := hid (HNX.out _ (HON6.out.trans (on_below HD.out)))
                    clear q0 q1 q2 q3 q4 HRD HA HAC HAT HB HBT HC HCC HD HSH HSM HR6 HON6
                    go_wp2_with fail
                    go_roundw
                    case rel => exact ⟨k + 1, _, _, HKL.out.1, HKL.out.2, by rw [HW.out], HRE.out, HOE.out⟩
                    case measure => have := HKL.out.2; rw [HW.out]; simp [intOf]; omega
                · have fh1 : (a0 == 1) = false := by simpa using h1
                  by_cases h2 : a0 = 2
                  · as_aux_lemma =>
                      subst h2
                      go_wp2_with fail
                      clear hV d0 d1 d2 d3 d4 d5 y1 z0 z1
                      clear x0 x1 x2 x3 x4 x5
                      have y0 := (fun t => And.intro t.2.2.2.2.1 (And.intro t.2.2.2.2.2 t.2.2.2.1)) (HC6.out _ HON.out)
                      have HRD := hid (HTV.out.next (Below.refl _ _).drew)
                      have HOD := hid (HON.out.trans (on_below (K := fun j => j < w.heap.size ∨ j = wr.heap.size) (Below.refl V.heap.size V).drew))
                      go_region_held3 (fun w' => w'.cell? ⟨wr.heap.size, 4, none⟩ = some (.slice p4 l4.length c4) ∧ w'.cell? ⟨wr.heap.size, 5, none⟩ = some (.slice p5 l5.length c5) ∧ w'.cell? ⟨wr.heap.size, 3, none⟩ = some (.int .i64 a3)) (first | exact y0 | exact y1 | exact y2 | go_keep)
                        (first
                          | (go_at_call 16; refine (HRD.out.fill l4 l5 p4 p5 c4 c5 (HLO.out.1.on HOD.out) (HLO.out.2.on HOD.out) HL4.out HL5.out a3 HWF.out).mono ?_; rintro e w5 ⟨rfl, hr, ho⟩; have HR5 := hid hr; have HON5 := hid (HOD.out.trans ho); have y1 := (fun t => And.intro t.2.2.2.2.1 (And.intro t.2.2.2.2.2 t.2.2.2.1)) (HC6.out _ HON5.out); clear hr ho)
                          | (go_at_call 17; refine (HR5.out.rfill l4 l5 p4 p5 c4 c5 (HLO.out.1.on HON5.out) (HLO.out.2.on HON5.out) HL4.out HL5.out a3).mono ?_; rintro e w6 ⟨rfl, hr, ho⟩; have HR6 := hid hr; have HON6 := hid (HON5.out.trans ho); have y2 := (fun t => And.intro t.2.2.2.2.1 (And.intro t.2.2.2.2.2 t.2.2.2.1)) (HC6.out _ HON6.out); clear hr ho)
                          | fail)
                      clear y0 y1 y2 HRD HOD HR5 HON5
                      generalize (fillU S C l4 l5 a3).1 = ee
                      generalize (fillU S C l4 l5 a3).2 = C1 at HR6
                      generalize S = S1 at HR6
                      obtain ⟨gS, gC, kS, kC, hsh⟩ := HR6.out.shows
                      have HSH := hid hsh
                      have q0 := (fun t => And.intro t.1 t.2.1) (hsh _ (Below.refl _ _))
                      have HSM := hid HR6.out.same
                      have HRD := hid (HR6.out.next (Below.refl _ _).drew)
                      clear hsh
                      go_wp2_with fail
                      go_region_held3 (fun w' => w'.cell? ⟨b', 0, none⟩ = some (.slice (some ⟨gS, 0, none⟩) S1.length kS) ∧ w'.cell? ⟨b', 1, none⟩ = some (.slice (some ⟨gC, 0, none⟩) C1.length kC)) (first | exact q0 | exact q1 | exact q2 | exact q3 | exact q4 | go_keep)
                        (first
                          | (go_at_call 25; refine (HRD.out.sizes).mono ?_; rintro e wA ⟨pa, ca, rfl, hc, hb⟩; have HA := hid (show Below w6.heap.size w6 wA from (Below.refl _ w6).drew.trans hb); have HAC := hid hc; have HAT := hid (HRD.out.next hb); have q1 := (fun t => And.intro t.1 t.2.1) (HSH.out _ HA.out); clear hb hc)
                          | (go_at_call 26; refine (HBT.out.cells).mono ?_; rintro e wC ⟨pc, cc, rfl, hc, hb⟩; have HC := hid (HB.out.trans (hb.mono HB.out.size)); have HCC := hid hc; have q3 := (fun t => And.intro t.1 t.2.1) (HSH.out _ HC.out); clear hb hc)
                          | (go_at_call 24; with_reducible refine (ints_sz S1 pa _ ca _ wA HAC.out (HSH.out _ HA.out).2.2.1 HSM.out.1).mono ?_; rintro e wB ⟨rfl, hb⟩; have HB := hid (HA.out.trans (hb.mono HA.out.size)); have HBT := hid (HAT.out.next hb); have q2 := (fun t => And.intro t.1 t.2.1) (HSH.out _ HB.out); clear hb)
                          | (go_at_call 24; with_reducible refine (ints_co C1 pc _ cc _ wC HCC.out (HSH.out _ HC.out).2.2.2 HSM.out.2.1).mono ?_; rintro e wD ⟨rfl, hb⟩; have HD := hid (HC.out.trans (hb.mono HC.out.size)); have q4 := (fun t => And.intro t.1 t.2.1) (HSH.out _ HD.out); clear hb)
                          | fail)
                      have HRE := hid ((HR6.out.next HD.out).less (K' := fun j => j < w.heap.size) fun j hj => .inl hj)
                      have HOE := hid (HNX.out _ (HON6.out.trans (on_below HD.out)))
                      clear q0 q1 q2 q3 q4 HRD HA HAC HAT HB HBT HC HCC HD HSH HSM HR6 HON6
                      go_wp2_with fail
                      go_roundw
                      case rel => exact ⟨k + 1, _, _, HKL.out.1, HKL.out.2, by rw [HW.out], HRE.out, HOE.out⟩
                      case measure => have := HKL.out.2; rw [HW.out]; simp [intOf]; omega
                  · have fh2 : (a0 == 2) = false := by simpa using h2
                    by_cases h3 : a0 = 3
                    · as_aux_lemma =>
                        subst h3
                        have HR0 := HTV
                        have HON0 := HON
                        go_wp2_with fail
                        clear hV d0 d1 d2 d3 d4 d5 y1 z0 z1
                        clear x0 x1 x2 x3 x4 x5
                        refine (HR0.out.get l4 p4 c4 (HLO.out.1.on HON0.out).cells HL4.out).mono ?_
                        rintro e w1 ⟨rfl, hb⟩
                        have HR1 := hid (HR0.out.next hb)
                        have HON1 := hid (HON0.out.trans (on_below hb))
                        clear hb HR0 HON0
                        obtain ⟨x0, x1, x2, x3, x4, x5⟩ := HC6.out _ HON1.out
                        go_wp2_with fail
                        refine (HR1.out.rget l4 p4 c4 (HLO.out.1.on HON1.out).cells HL4.out).mono ?_
                        rintro e w2 ⟨rfl, hb⟩
                        have HR2 := hid (HR1.out.next hb)
                        have HON2 := hid (HON1.out.trans (on_below hb))
                        clear hb HR1 HON1
                        clear x0 x1 x2 x3 x4 x5
                        obtain ⟨x0, x1, x2, x3, x4, x5⟩ := HC6.out _ HON2.out
                        go_wp2_with fail
                        refine (HR2.out.place l4 p4 c4 (HLO.out.1.on HON2.out).cells HL4.out).mono ?_
                        rintro e w3 ⟨rfl, hb⟩
                        have HR3 := hid (HR2.out.next hb)
                        have HON3 := hid (HON2.out.trans (on_below hb))
                        clear hb HR2 HON2
                        clear x0 x1 x2 x3 x4 x5
                        obtain ⟨x0, x1, x2, x3, x4, x5⟩ := HC6.out _ HON3.out
                        go_wp2_with fail
                        refine (HR3.out.rplace l4 p4 c4 (HLO.out.1.on HON3.out).cells HL4.out).mono ?_
                        rintro e w6 ⟨rfl, hb⟩
                        have HR6 := hid (HR3.out.next hb)
                        have HON6 := hid (HON3.out.trans (on_below hb))
                        clear hb HR3 HON3
                        clear x0 x1 x2 x3 x4 x5
                        generalize (getAns S C l4).1 = ea
                        generalize (getAns S C l4).2 = eb
                        generalize (placeAns S l4).1 = ec
                        generalize (placeAns S l4).2 = ed
                        generalize S = S1 at HR6
                        generalize C = C1 at HR6
                        obtain ⟨gS, gC, kS, kC, hsh⟩ := HR6.out.shows
                        have HSH := hid hsh
                        have q0 := (fun t => And.intro t.1 t.2.1) (hsh _ (Below.refl _ _))
                        have HSM := hid HR6.out.same
                        have HRD := hid (HR6.out.next (Below.refl _ _).drew)
                        clear hsh
                        go_wp2_with fail
                        go_region_held3 (fun w' => w'.cell? ⟨b', 0, none⟩ = some (.slice (some ⟨gS, 0, none⟩) S1.length kS) ∧ w'.cell? ⟨b', 1, none⟩ = some (.slice (some ⟨gC, 0, none⟩) C1.length kC)) (first | exact q0 | exact q1 | exact q2 | exact q3 | exact q4 | go_keep)
                          (first
                            | (go_at_call 25; refine (HRD.out.sizes).mono ?_; rintro e wA ⟨pa, ca, rfl, hc, hb⟩; have HA := hid (show Below w6.heap.size w6 wA from (Below.refl _ w6).drew.trans hb); have HAC := hid hc; have HAT := hid (HRD.out.next hb); have q1 := (fun t => And.intro t.1 t.2.1) (HSH.out _ HA.out); clear hb hc)
                            | (go_at_call 26; refine (HBT.out.cells).mono ?_; rintro e wC ⟨pc, cc, rfl, hc, hb⟩; have HC := hid (HB.out.trans (hb.mono HB.out.size)); have HCC := hid hc; have q3 := (fun t => And.intro t.1 t.2.1) (HSH.out _ HC.out); clear hb hc)
                            | (go_at_call 24; with_reducible refine (ints_sz S1 pa _ ca _ wA HAC.out (HSH.out _ HA.out).2.2.1 HSM.out.1).mono ?_; rintro e wB ⟨rfl, hb⟩; have HB := hid (HA.out.trans (hb.mono HA.out.size)); have HBT := hid (HAT.out.next hb); have q2 := (fun t => And.intro t.1 t.2.1) (HSH.out _ HB.out); clear hb)
                            | (go_at_call 24; with_reducible refine (ints_co C1 pc _ cc _ wC HCC.out (HSH.out _ HC.out).2.2.2 HSM.out.2.1).mono ?_; rintro e wD ⟨rfl, hb⟩; have HD := hid (HC.out.trans (hb.mono HC.out.size)); have q4 := (fun t => And.intro t.1 t.2.1) (HSH.out _ HD.out); clear hb)
                            | fail)
                        have HRE := hid ((HR6.out.next HD.out).less (K' := fun j => j < w.heap.size) fun j hj => .inl hj)
                        have HOE := hid (HNX.out _ (HON6.out.trans (on_below HD.out)))
                        clear q0 q1 q2 q3 q4 HRD HA HAC HAT HB HBT HC HCC HD HSH HSM HR6 HON6
                        go_wp2_with fail
                        go_roundw
                        case rel => exact ⟨k + 1, _, _, HKL.out.1, HKL.out.2, by rw [HW.out], HRE.out, HOE.out⟩
                        case measure => have := HKL.out.2; rw [HW.out]; simp [intOf]; omega
                    · have fh3 : (a0 == 3) = false := by simpa using h3
                      as_aux_lemma =>
                        have HR0 := HTV
                        have HON0 := HON
                        have HLEN := hid (seenU_len HTV.out.fit l4 l5)
                        go_wp2_with fail
                        clear hV d0 d1 d2 d3 d4 d5 y1 z0 z1
                        clear x0 x1 x2 x3 x4 x5
                        refine (HR0.out.seen l4 l5 p4 p5 c4 c5 (HLO.out.1.on HON0.out).cells (HLO.out.2.on HON0.out).cells HL4.out HL5.out).mono ?_
                        rintro e w1 ⟨pa, ca, rfl, hca, hb⟩
                        have HR1 := hid (HR0.out.next hb)
                        have HON1 := hid (HON0.out.trans (on_below hb))
                        have HCA := hid hca
                        clear hca
                        clear hb HR0 HON0
                        obtain ⟨x0, x1, x2, x3, x4, x5⟩ := HC6.out _ HON1.out
                        go_wp2_with fail
                        refine (HR1.out.rseen l4 l5 p4 p5 c4 c5 (HLO.out.1.on HON1.out).cells (HLO.out.2.on HON1.out).cells HL4.out HL5.out).mono ?_
                        rintro e w2 ⟨pb, cb, rfl, hcb, hb⟩
                        have HR2 := hid (HR1.out.next hb)
                        have HON2 := hid (HON1.out.trans (on_below hb))
                        have HCB := hid (And.intro (HCA.out.below hb) hcb)
                        clear hcb
                        clear hb HR1 HON1
                        clear x0 x1 x2 x3 x4 x5
                        generalize (seenU S C l4 l5).1 = ee
                        generalize (seenU S C l4 l5).2 = EL at HCB HLEN ⊢
                        go_wp2_with fail
                        refine (ints_co EL pa pb ca cb w2 HCB.out.1 HCB.out.2 HLEN.out).mono ?_
                        rintro e w6 ⟨rfl, hb⟩
                        have HR6 := hid (HR2.out.next hb)
                        have HON6 := hid (HON2.out.trans (on_below hb))
                        clear hb HR2 HON2 HCB HCA HLEN
                        generalize S = S1 at HR6
                        generalize C = C1 at HR6
                        obtain ⟨gS, gC, kS, kC, hsh⟩ := HR6.out.shows
                        have HSH := hid hsh
                        have q0 := (fun t => And.intro t.1 t.2.1) (hsh _ (Below.refl _ _))
                        have HSM := hid HR6.out.same
                        have HRD := hid (HR6.out.next (Below.refl _ _).drew)
                        clear hsh
                        go_wp2_with fail
                        go_region_held3 (fun w' => w'.cell? ⟨b', 0, none⟩ = some (.slice (some ⟨gS, 0, none⟩) S1.length kS) ∧ w'.cell? ⟨b', 1, none⟩ = some (.slice (some ⟨gC, 0, none⟩) C1.length kC)) (first | exact q0 | exact q1 | exact q2 | exact q3 | exact q4 | go_keep)
                          (first
                            | (go_at_call 25; refine (HRD.out.sizes).mono ?_; rintro e wA ⟨pa, ca, rfl, hc, hb⟩; have HA := hid (show Below w6.heap.size w6 wA from (Below.refl _ w6).drew.trans hb); have HAC := hid hc; have HAT := hid (HRD.out.next hb); have q1 := (fun t => And.intro t.1 t.2.1) (HSH.out _ HA.out); clear hb hc)
                            | (go_at_call 26; refine (HBT.out.cells).mono ?_; rintro e wC ⟨pc, cc, rfl, hc, hb⟩; have HC := hid (HB.out.trans (hb.mono HB.out.size)); have HCC := hid hc; have q3 := (fun t => And.intro t.1 t.2.1) (HSH.out _ HC.out); clear hb hc)
                            | (go_at_call 24; with_reducible refine (ints_sz S1 pa _ ca _ wA HAC.out (HSH.out _ HA.out).2.2.1 HSM.out.1).mono ?_; rintro e wB ⟨rfl, hb⟩; have HB := hid (HA.out.trans (hb.mono HA.out.size)); have HBT := hid (HAT.out.next hb); have q2 := (fun t => And.intro t.1 t.2.1) (HSH.out _ HB.out); clear hb)
                            | (go_at_call 24; with_reducible refine (ints_co C1 pc _ cc _ wC HCC.out (HSH.out _ HC.out).2.2.2 HSM.out.2.1).mono ?_; rintro e wD ⟨rfl, hb⟩; have HD := hid (HC.out.trans (hb.mono HC.out.size)); have q4 := (fun t => And.intro t.1 t.2.1) (HSH.out _ HD.out); clear hb)
                            | fail)
                        have HRE := hid ((HR6.out.next HD.out).less (K' := fun j => j < w.heap.size) fun j hj => .inl hj)
                        have HOE := hid (HNX.out _ (HON6.out.trans (on_below HD.out)))
                        clear q0 q1 q2 q3 q4 HRD HA HAC HAT HB HBT HC HCC HD HSH HSM HR6 HON6
                        go_wp2_with fail
                        go_roundw
                        case rel => exact ⟨k + 1, _, _, HKL.out.1, HKL.out.2, by rw [HW.out], HRE.out, HOE.out⟩
                        case measure => have := HKL.out.2; rw [HW.out]; simp [intOf]; omega
            · have f5 : decide ((20 : Int) < (l5.length : Int)) = true := decide_eq_true (by omega)
              have f5' : decide (20 < l5.length) = true := decide_eq_true (by omega)
              clear h4 h5
              go_wp2_with fail
              refine (live_any _).mono ?_
              rintro e w4 ⟨rfl, hb⟩
              have H4 := hid (HNX.out _ (on_below hb)); clear hb
              go_wp2_with fail
              go_ret
              exact ⟨rfl, H4.out⟩
          · have f4 : decide ((20 : Int) < (l4.length : Int)) = true := decide_eq_true (by omega)
            have f4' : decide (20 < l4.length) = true := decide_eq_true (by omega)
            clear h4
            go_wp2_with fail
            refine (live_any _).mono ?_
            rintro e w4 ⟨rfl, hb⟩
            have H4 := hid (HNX.out _ (on_below hb)); clear hb
            go_wp2_with fail
            go_ret
            exact ⟨rfl, H4.out⟩
        · have e3 : decide ((C.length : Int) ≤ 200) = false := decide_eq_false (by omega)
          have e3' : decide (C.length ≤ 200) = false := decide_eq_false (by omega)
          clear hlt h6 hk hk6 hc
          go_wp2_with fail
          refine (live_any _).mono ?_
          rintro e w4 ⟨rfl, hb⟩
          have H4 := hid (HBW.out.trans (hb.mono HBW.out.size)); clear hb
          go_wp2_with fail
          go_ret
          exact ⟨rfl, H4.out⟩
      · have e2 : decide ((k : Int) < 40) = false := by simp; omega
        have e2' : decide (k < 40) = false := by simp; omega
        clear hlt h6 hk hk6
        go_wp2_with fail
        refine (live_any _).mono ?_
        rintro e w4 ⟨rfl, hb⟩
        have H4 := hid (HBW.out.trans (hb.mono HBW.out.size)); clear hb
        go_wp2_with fail
        go_ret
        exact ⟨rfl, H4.out⟩
    · have e1 : decide ((k : Int) < (len : Int)) = false := by simp; omega
      have e1' : decide (k < len) = false := by simp; omega
      clear hlt hk hk6
      go_wp2_with fail
      refine (live_any _).mono ?_
      rintro e w4 ⟨rfl, hb⟩
      have H4 := hid (HBW.out.trans (hb.mono HBW.out.size)); clear hb
      go_wp2_with fail
      go_ret
      exact ⟨rfl, H4.out⟩
set_option maxRecDepth 100000 in
theorem SlabScripts_walk (dim n : Int) (v : Value) (w : World) (_ : (Lit.int .i64 dim).wf = true) (hw : (Lit.int .i64 n).wf = true) (h1 : ∃ a len cap, v = .slice a len cap ∧ IsOps w a len) :
    Calls Try.prog 3 #[.int .i64 dim, .int .i64 n, v] w fun e w' => e = .returned (.bool true) ∧ Below w.heap.size w w' := by
  obtain ⟨a, len, cap, rfl, hs⟩ := h1
  by_cases hd : 1 ≤ dim ∧ dim ≤ 6
  · exact Scr_yes dim n a len cap w hd hw hs
  · exact Scr_no dim n a len cap w hd
end Go.Proofs.Ytpbidpgpehicmaa
