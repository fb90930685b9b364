/- EntryWrites walked. -/
import Derived.Test.YtigaddpjmgncmaaDoorEnDcA
import Derived.Test.YtigaddpjmgncmaaDoorEnPgs
namespace Go.Proofs.YtigaddpjmgncmaaDoor.En
open Go.RowKit
open Go.Lib (hid)
open Go.Proofs.YtigaddpjmgncmaaDoor.Sm (U sumB)
set_option maxRecDepth 100000 in
set_option maxHeartbeats 4000000 in
theorem wrt_far1
    (kd tx ix pk pn : Int) (b : ByteArray) (ct sm : Int) (p : Option Addr) (L : List PageT) (cap : Nat) (w : World) (hL : Lst w) (hp : Pgs w p L) (h : 300 < b.size) :
    Calls Tryd.prog 3 #[.agg (entC kd tx ix pk pn b ct sm), .slice p L.length cap] w fun e w' => e = .returned (.bool true) ∧ Below w.heap.size w w' := by
  have HL := hid hL
  have HP := hid hL.pos
  have HG := hid hp
  clear hL hp
  have HB0 := hid ((Below.refl w.heap.size w).alloc (Nat.le_refl _) (.cells (entC kd tx ix pk pn b ct sm) 26))
  have HX0 := hid (heap_alloc_new w (.cells (entC kd tx ix pk pn b ct sm) 26))
  have a1 : decide ((300 : Int) < (b.size : Int)) = true := by simp; omega
  have a2 : decide (300 < b.size) = true := by simp; omega
  have a3 : 300 < b.size := by omega
  go_enter Tryd.func3, Tryd.ntmps3
  go_wp2_with fail
  refine (live_any _ (HL.out.next HP.out HB0.out)).mono ?_
  rintro e v9 ⟨rfl, hb⟩
  have HB9 := hid (HB0.out.trans (hb.mono HB0.out.size))
  clear hb
  go_wp2_with fail
  go_ret
  exact ⟨rfl, HB9.out⟩
set_option maxRecDepth 100000 in
set_option maxHeartbeats 4000000 in
theorem wrt_far2
    (kd tx ix pk pn : Int) (b : ByteArray) (ct sm : Int) (p : Option Addr) (L : List PageT) (cap : Nat) (w : World) (hL : Lst w) (hp : Pgs w p L) (h : b.size ≤ 300) (h' : 60 < L.length) :
    Calls Tryd.prog 3 #[.agg (entC kd tx ix pk pn b ct sm), .slice p L.length cap] w fun e w' => e = .returned (.bool true) ∧ Below w.heap.size w w' := by
  obtain ⟨n, hn⟩ : ∃ n, L.length = n := ⟨_, rfl⟩
  have HN := hid hn
  rw [hn] at h' ⊢
  clear hn
  have HL := hid hL
  have HP := hid hL.pos
  have HG := hid hp
  clear hL hp
  have HB0 := hid ((Below.refl w.heap.size w).alloc (Nat.le_refl _) (.cells (entC kd tx ix pk pn b ct sm) 26))
  have HX0 := hid (heap_alloc_new w (.cells (entC kd tx ix pk pn b ct sm) 26))
  have a1 : decide ((300 : Int) < (b.size : Int)) = false := by simp; omega
  have a2 : decide (300 < b.size) = false := by simp; omega
  have a3 : ¬ 300 < b.size := by omega
  have d1 : decide ((60 : Int) < (n : Int)) = true := by simp; omega
  have d2 : decide (60 < n) = true := by simp; omega
  have d3 : 60 < n := by omega
  go_enter Tryd.func3, Tryd.ntmps3
  go_wp2_with fail
  refine (live_any _ (HL.out.next HP.out HB0.out)).mono ?_
  rintro e v9 ⟨rfl, hb⟩
  have HB9 := hid (HB0.out.trans (hb.mono HB0.out.size))
  clear hb
  go_wp2_with fail
  go_ret
  exact ⟨rfl, HB9.out⟩
set_option maxRecDepth 100000 in
set_option maxHeartbeats 4000000 in
theorem wrt_any
    (kd tx ix pk pn : Int) (b : ByteArray) (ct sm : Int) (p : Option Addr) (L : List PageT) (cap : Nat) (w : World) (hL : Lst w) (hp : Pgs w p L) (h : b.size ≤ 300) (h' : L.length ≤ 60) (S : ByteArray) (cc ck : Int)
    (hE : ∀ V : World, Lst V → Calls Tryd.prog 9 #[.agg (entC kd tx ix pk pn b ct sm)] V fun e w' => e = .returned (.tuple #[.string S, .int .i64 cc]) ∧ Below V.heap.size V w')
    (hR : ∀ V : World, Calls Tryd.prog 11 #[.agg (entC kd tx ix pk pn b ct sm)] V fun e w' => e = .returned (.tuple #[.string S, .int .i64 cc]) ∧ Below V.heap.size V w')
    (hC : ∀ V : World, Calls Tryd.prog 12 #[.agg (entC kd tx ix pk pn b ct sm)] V fun e w' => e = .returned (.int .i64 ck) ∧ Below V.heap.size V w')
    (hK : ∀ V : World, Calls Tryd.prog 13 #[.agg (entC kd tx ix pk pn b ct sm)] V fun e w' => e = .returned (.int .i64 ck) ∧ Below V.heap.size V w') :
    Calls Tryd.prog 3 #[.agg (entC kd tx ix pk pn b ct sm), .slice p L.length cap] w fun e w' => e = .returned (.bool true) ∧ Below w.heap.size w w' := by
  obtain ⟨n, hn⟩ : ∃ n, L.length = n := ⟨_, rfl⟩
  have HN := hid hn
  have HE := hid hE; have HR := hid hR; have HC := hid hC; have HK := hid hK
  clear hE hR hC hK
  obtain ⟨u, hu⟩ : ∃ u, U (sumB (textS L L.length)) = u := ⟨_, rfl⟩
  have HSU := hid fun (V : World) (hV : Lst V) (hq : Pgs V p L) => (show Calls Tryd.prog 14 #[.slice p n cap] V fun e w' => e = .returned (.int .u32 u) ∧ Below V.heap.size V w' by
    have h2 := sum_ok L p cap V hV hq (by omega); rw [hu, hn] at h2; exact h2)
  have HSR := hid fun (V : World) (hq : Pgs V p L) => (show Calls Tryd.prog 15 #[.slice p n cap] V fun e w' => e = .returned (.int .u32 u) ∧ Below V.heap.size V w' by
    have h2 := refsum_ok L p cap V hq (by omega); rw [hu, hn] at h2; exact h2)
  rw [hn] at h' ⊢
  clear hn hu
  have HL := hid hL
  have HP := hid hL.pos
  have HG := hid hp
  clear hL hp
  have HB0 := hid ((Below.refl w.heap.size w).alloc (Nat.le_refl _) (.cells (entC kd tx ix pk pn b ct sm) 26))
  have HX0 := hid (heap_alloc_new w (.cells (entC kd tx ix pk pn b ct sm) 26))
  have a1 : decide ((300 : Int) < (b.size : Int)) = false := by simp; omega
  have a2 : decide (300 < b.size) = false := by simp; omega
  have a3 : ¬ 300 < b.size := by omega
  have d1 : decide ((60 : Int) < (n : Int)) = false := by simp; omega
  have d2 : decide (60 < n) = false := by simp; omega
  have d3 : ¬ 60 < n := by omega
  have HNN := hid h'
  clear h h'
  go_enter Tryd.func3, Tryd.ntmps3
  go_wp2_with fail
  obtain ⟨w0, hw0⟩ : ∃ w0, w.alloc (.cells (entC kd tx ix pk pn b ct sm) 26) = w0 := ⟨_, rfl⟩
  rw [hw0] at HB0 HX0
  rw [hw0]
  clear a1 a2 a3 d1 d2 d3 hw0
  go_loopw [5] (fun s wr => ∃ i : Nat, s = .int .i64 i ∧ i ≤ n ∧ Below w.heap.size w wr ∧ wr.heap[w.heap.size]? = some (.cells (entC kd tx ix pk pn b ct sm) 26)) (fun s _ => n - (intOf s).toNat)
  case atStart => exact ⟨0, rfl, Nat.zero_le _, HB0.out, HX0.out⟩
  case round =>
    obtain ⟨i, rfl, hi, hb, hx⟩ := hrel
    have HB1 := hid hb; have HX1 := hid hx
    clear hb hx HB0 HX0
    by_cases hlt : i < n
    · have hiL : i < L.length := by rw [HN.out]; exact hlt
      obtain ⟨g, off, rfl, hbl, d0, d1, d2⟩ := HG.out.below HB1.out i hiL
      generalize L[i].2.2 = bb at *
      have HI := hid hlt
      by_cases hbig : 300 < bb.size
      · have e1 : decide ((300 : Int) < (bb.size : Int)) = true := by simp; omega
        have e2 : decide (300 < bb.size) = true := by simp; omega
        go_wp2_with fail
        refine (live_any _ (HL.out.next HP.out HB1.out)).mono ?_
        rintro e v9 ⟨rfl, hb⟩
        have HB9 := hid (HB1.out.trans (hb.mono HB1.out.size))
        clear hb
        go_wp2_with fail
        go_ret
        exact ⟨rfl, HB9.out⟩
      · have e1 : decide ((300 : Int) < (bb.size : Int)) = false := by simp; omega
        have e2 : decide (300 < bb.size) = false := by simp; omega
        have hnn := HNN.out
        go_wp2_with fail
        go_roundw
        case rel => exact ⟨i + 1, by go_num, HI.out, HB1.out, HX1.out⟩
        case measure => simp [intOf]; have := HI.out; omega
    · obtain rfl : i = n := by omega
      clear hlt hi
      obtain ⟨p0, p1, p2, p3, p4, p5, p6, p7⟩ := ent_at HX1.out
      generalize wr = w1 at *
      go_wp2_with fail
      refine (own_ok kd tx ix pk pn ct sm b _).mono ?_
      rintro e w2 ⟨rfl, hb⟩
      have HB2 := hid (HB1.out.trans (hb.mono HB1.out.size))
      have HX2 := hid ((hb.block (w.heap.size) (Array.getElem?_eq_some_iff.1 HX1.out).1).trans HX1.out)
      clear hb HB1 HX1
      go_wp2_with fail
      refine (HE.out _ (HL.out.next HP.out HB2.out)).mono ?_
      rintro e w3 ⟨rfl, hb⟩
      have HB3 := hid (HB2.out.trans (hb.mono HB2.out.size))
      have HX3 := hid ((hb.block (w.heap.size) (Array.getElem?_eq_some_iff.1 HX2.out).1).trans HX2.out)
      clear hb HB2 HX2
      clear p0 p1 p2 p3 p4 p5 p6 p7
      obtain ⟨p0, p1, p2, p3, p4, p5, p6, p7⟩ := ent_at HX3.out
      go_wp2_with fail
      refine (HR.out _).mono ?_
      rintro e w4 ⟨rfl, hb⟩
      have HB4 := hid (HB3.out.trans (hb.mono HB3.out.size))
      have HX4 := hid ((hb.block (w.heap.size) (Array.getElem?_eq_some_iff.1 HX3.out).1).trans HX3.out)
      clear hb HB3 HX3
      go_wp2_with fail
      clear p0 p1 p2 p3 p4 p5 p6 p7
      have HDD := hid fun (V : World) (hv : Below w4.heap.size w4 V) => (show V.cell? ⟨w.heap.size, 0, none⟩ = some (.int .i64 kd) ∧ V.cell? ⟨w.heap.size, 1, none⟩ = some (.int .i64 tx) ∧ V.cell? ⟨w.heap.size, 2, none⟩ = some (.int .i64 ix) ∧ V.cell? ⟨w.heap.size, 3, none⟩ = some (.int .i64 pk) ∧ V.cell? ⟨w.heap.size, 4, none⟩ = some (.int .i64 pn) ∧ V.cell? ⟨w.heap.size, 5, none⟩ = some (.string b) ∧ V.cell? ⟨w.heap.size, 6, none⟩ = some (.int .i64 ct) ∧ V.cell? ⟨w.heap.size, 7, none⟩ = some (.int .u32 sm) from by
        obtain ⟨p0, p1, p2, p3, p4, p5, p6, p7⟩ := ent_at ((hv.block w.heap.size (Array.getElem?_eq_some_iff.1 HX4.out).1).trans HX4.out)
        exact ⟨p0, p1, p2, p3, p4, p5, p6, p7⟩)
      have B0 := hid (Below.refl w4.heap.size w4).drew
      have y0 := HDD.out _ B0.out
      have x0 := HDD.out _ (Below.refl w4.heap.size w4)
      go_region_held3 (fun V => V.cell? ⟨w.heap.size, 0, none⟩ = some (.int .i64 kd) ∧ V.cell? ⟨w.heap.size, 1, none⟩ = some (.int .i64 tx) ∧ V.cell? ⟨w.heap.size, 2, none⟩ = some (.int .i64 ix) ∧ V.cell? ⟨w.heap.size, 3, none⟩ = some (.int .i64 pk) ∧ V.cell? ⟨w.heap.size, 4, none⟩ = some (.int .i64 pn) ∧ V.cell? ⟨w.heap.size, 5, none⟩ = some (.string b) ∧ V.cell? ⟨w.heap.size, 6, none⟩ = some (.int .i64 ct) ∧ V.cell? ⟨w.heap.size, 7, none⟩ = some (.int .u32 sm)) (first | exact x0 | exact y0 | exact y1 | exact y2 | exact y3 | exact y4 | exact y5 | exact y6 | go_keep)
        (first
          | (go_at_call 10; with_reducible refine (own_ok kd tx ix pk pn ct sm b _).mono ?_; rintro e v1 ⟨rfl, hb⟩; have B1 := hid (B0.out.trans (hb.mono B0.out.size)); have y1 := HDD.out _ B1.out; clear hb)
          | (go_at_call 12; with_reducible refine (HC.out _).mono ?_; rintro e v2 ⟨rfl, hb⟩; have B2 := hid (B1.out.trans (hb.mono B1.out.size)); have y2 := HDD.out _ B2.out; clear hb)
          | (go_at_call 13; with_reducible refine (HK.out _).mono ?_; rintro e v3 ⟨rfl, hb⟩; have B3 := hid (B2.out.trans (hb.mono B2.out.size)); have y3 := HDD.out _ B3.out; clear hb)
          | (go_at_call 14; with_reducible refine (HSU.out _ (HL.out.next HP.out (HB4.out.trans (B3.out.mono HB4.out.size))) (HG.out.below (HB4.out.trans (B3.out.mono HB4.out.size)))).mono ?_; rintro e v4 ⟨rfl, hb⟩; have B4 := hid (B3.out.trans (hb.mono B3.out.size)); have y4 := HDD.out _ B4.out; clear hb)
          | (go_at_call 15; with_reducible refine (HSR.out _ (HG.out.below (HB4.out.trans (B4.out.mono HB4.out.size)))).mono ?_; rintro e v5 ⟨rfl, hb⟩; have B5 := hid (B4.out.trans (hb.mono B4.out.size)); have y5 := HDD.out _ B5.out; clear hb)
          | (go_at_call 8; with_reducible refine (live_any _ (HL.out.next HP.out (HB4.out.trans (B5.out.mono HB4.out.size)))).mono ?_; rintro e v6 ⟨rfl, hb⟩; have B6 := hid (B5.out.trans (hb.mono B5.out.size)); have y6 := HDD.out _ B6.out; clear hb)
          | fail)
      have HB9 := hid (HB4.out.trans (B6.out.mono HB4.out.size))
      go_wp2_with fail
      go_ret
      exact ⟨rfl, HB9.out⟩
theorem EntryWrites_walk (v v' : Value) (w : World) (h : EnV w v) (h' : ∃ a len cap, v' = .slice a len cap ∧ IsPgs w a len) (hL : Lst w) :
    Calls Tryd.prog 3 #[v, v'] w fun e w' => e = .returned (.bool true) ∧ Below w.heap.size w w' := by
  obtain ⟨⟨kd, tx, ix, pk, pn, b, ct, sm⟩, rfl, hd⟩ := h
  obtain ⟨p, len, cap, rfl, hg⟩ := h'
  obtain ⟨L, rfl, hp, -⟩ := pgs_list hg
  have l0 : (0 : Int) ≤ sm := by omega
  have l1 : (sm : Int) < 4294967296 := by have h2 : sm < 4294967296 := hd.f5; omega
  by_cases g1 : b.size ≤ 300
  · by_cases g2 : L.length ≤ 60
    · have hE := fun (V : World) (hV : Lst V) => encode_any kd tx ix pk pn b ct sm V hV hd.f1.2 l0 l1
      have hR := fun (V : World) => refenc_any kd tx ix pk pn b ct sm V l0 l1
      by_cases m1 : mayE kd tx ix pk pn b ct sm
      · exact wrt_any kd tx ix pk pn b ct sm p L cap w hL hp g1 g2 _ _ 0 hE hR (fun V => check_yes kd tx ix pk pn ct sm b V m1) (fun V => refcheck_yes kd tx ix pk pn ct sm b V m1)
      · exact wrt_any kd tx ix pk pn b ct sm p L cap w hL hp g1 g2 _ _ 1 hE hR (fun V => check_no kd tx ix pk pn ct sm b V hd.f1.2 m1) (fun V => refcheck_no kd tx ix pk pn ct sm b V m1)
    · exact wrt_far2 kd tx ix pk pn b ct sm p L cap w hL hp g1 (by omega)
  · exact wrt_far1 kd tx ix pk pn b ct sm p L cap w hL hp (by omega)
theorem EntryWrites_open0 {H : Type} {enc : TypeId × Value → H} {W : World} {base : Nat} {v : Value} {d : DataW H} {p : List MemPlace} (hv : Value.okWide Tryd.prog W .any base 26 v) (h : DataW.Trod enc Tryd.prog W 0 (fun _ => true) true 26 v d p) : EnV W v := open_En hv h
theorem EntryWrites_open1 {H : Type} {enc : TypeId × Value → H} {W : World} {base : Nat} {v : Value} {d : DataW H} {p : List MemPlace} (hv : Value.okWide Tryd.prog W .any base 27 v) (h : DataW.Trod enc Tryd.prog W 0 (fun _ => true) true 27 v d p) : ∃ a len cap, v = .slice a len cap ∧ IsPgs W a len := open_Pgs hv h
end Go.Proofs.YtigaddpjmgncmaaDoor.En
