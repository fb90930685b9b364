/- EntryBack walked. -/
import Derived.Test.YtigaddpjmgncmaaDoorEnDcA
import Derived.Test.YtigaddpjmgncmaaDoorEnOpn
namespace Go.Proofs.YtigaddpjmgncmaaDoor.En
open Go.RowKit
open Go.Lib (hid)
set_option maxRecDepth 100000 in
set_option maxHeartbeats 4000000 in
theorem bck_far1
    (kd tx ix pk pn : Int) (b : ByteArray) (ct sm : Int) (s : ByteArray) (w : World) (hL : Lst w) (h : 300 < b.size) :
    Calls Tryd.prog 5 #[.agg (entC kd tx ix pk pn b ct sm), .string s] w fun e w' => e = .returned (.bool true) ∧ Below w.heap.size w w' := by
  have HL := hid hL
  have HP := hid hL.pos
  clear hL
  have HB0 := hid ((Below.refl w.heap.size w).alloc (Nat.le_refl _) (.cells (entC kd tx ix pk pn b ct sm) 26))
  have HX0 := hid (heap_alloc_new w (.cells (entC kd tx ix pk pn b ct sm) 26))
  have a1 : decide ((300 : Int) < (b.size : Int)) = true := by simp; omega
  have a2 : decide (300 < b.size) = true := by simp; omega
  have a3 : 300 < b.size := by omega
  go_enter Tryd.func5, Tryd.ntmps5
  go_wp2_with fail
  refine (live_any _ (HL.out.next HP.out HB0.out)).mono ?_
  rintro e v9 ⟨rfl, hb⟩
  have HB9 := hid (HB0.out.trans (hb.mono HB0.out.size))
  clear hb
  go_wp2_with fail
  go_ret
  exact ⟨rfl, HB9.out⟩
set_option maxRecDepth 100000 in
set_option maxHeartbeats 4000000 in
theorem bck_far2
    (kd tx ix pk pn : Int) (b : ByteArray) (ct sm : Int) (s : ByteArray) (w : World) (hL : Lst w) (h : b.size ≤ 300) (h' : 300 < s.size) :
    Calls Tryd.prog 5 #[.agg (entC kd tx ix pk pn b ct sm), .string s] w fun e w' => e = .returned (.bool true) ∧ Below w.heap.size w w' := by
  have HL := hid hL
  have HP := hid hL.pos
  clear hL
  have HB0 := hid ((Below.refl w.heap.size w).alloc (Nat.le_refl _) (.cells (entC kd tx ix pk pn b ct sm) 26))
  have HX0 := hid (heap_alloc_new w (.cells (entC kd tx ix pk pn b ct sm) 26))
  have a1 : decide ((300 : Int) < (b.size : Int)) = false := by simp; omega
  have a2 : decide (300 < b.size) = false := by simp; omega
  have a3 : ¬ 300 < b.size := by omega
  have d1 : decide ((300 : Int) < (s.size : Int)) = true := by simp; omega
  have d2 : decide (300 < s.size) = true := by simp; omega
  have d3 : 300 < s.size := by omega
  go_enter Tryd.func5, Tryd.ntmps5
  go_wp2_with fail
  refine (live_any _ (HL.out.next HP.out HB0.out)).mono ?_
  rintro e v9 ⟨rfl, hb⟩
  have HB9 := hid (HB0.out.trans (hb.mono HB0.out.size))
  clear hb
  go_wp2_with fail
  go_ret
  exact ⟨rfl, HB9.out⟩
set_option maxRecDepth 100000 in
set_option maxHeartbeats 4000000 in
theorem bck_00
    (kd tx ix pk pn : Int) (b : ByteArray) (ct sm : Int) (s : ByteArray) (w : World) (hL : Lst w) (h : b.size ≤ 300) (h' : s.size ≤ 300) (S : ByteArray) (hz1 : 7 ≤ S.size) (hz2 : S.size ≤ 244) (c2 : Int) (hc2 : c2 ≠ 0)
    (hE : ∀ V : World, Lst V → Calls Tryd.prog 9 #[.agg (entC kd tx ix pk pn b ct sm)] V fun e w' => e = .returned (.tuple #[.string S, .int .i64 0]) ∧ Below V.heap.size V w')
    (hD : ∀ V : World, Lst V → Calls Tryd.prog 16 #[.string S] V fun e w' => e = .returned (.tuple #[.agg (entC kd tx ix pk pn b ct sm), .int .i64 0]) ∧ Below V.heap.size V w')
    (hF : ∀ V : World, Lst V → Calls Tryd.prog 16 #[.string s] V fun e w' => e = .returned (.tuple #[.agg (entC 0 0 0 0 0 ⟨#[]⟩ 0 0), .int .i64 c2]) ∧ Below V.heap.size V w') :
    Calls Tryd.prog 5 #[.agg (entC kd tx ix pk pn b ct sm), .string s] w fun e w' => e = .returned (.bool true) ∧ Below w.heap.size w w' := by
  have HE' := hid hE
  clear hE
  have HD' := hid hD
  clear hD
  have HF' := hid hF
  clear hF
  have HL := hid hL
  have HP := hid hL.pos
  clear hL
  have HB0 := hid ((Below.refl w.heap.size w).alloc (Nat.le_refl _) (.cells (entC kd tx ix pk pn b ct sm) 26))
  have HX0 := hid (heap_alloc_new w (.cells (entC kd tx ix pk pn b ct sm) 26))
  have a1 : decide ((300 : Int) < (b.size : Int)) = false := by simp; omega
  have a2 : decide (300 < b.size) = false := by simp; omega
  have a3 : ¬ 300 < b.size := by omega
  have d1 : decide ((300 : Int) < (s.size : Int)) = false := by simp; omega
  have d2 : decide (300 < s.size) = false := by simp; omega
  have d3 : ¬ 300 < s.size := by omega
  have z1 : decide ((244 : Int) < (S.size : Int)) = false := by simp; omega
  have z2 : decide (244 < S.size) = false := by simp; omega
  have z3 : ¬ 244 < S.size := by omega
  have z4 : decide ((S.size : Int) < 7) = false := by simp; omega
  have z5 : decide (S.size < 7) = false := by simp; omega
  have z6 : ¬ S.size < 7 := by omega
  have heqn := fun V => (neq32 kd tx ix pk pn b ct sm kd tx ix pk pn b ct sm V).trans (by rw [entB_self])
  have k1 : (c2 != 0) = true := by simpa using hc2
  have k2 : (c2 == 0) = false := by simpa using hc2
  have heqz := fun V => (eql32 0 0 0 0 0 ⟨#[]⟩ 0 0 0 0 0 0 0 ⟨#[]⟩ 0 0 V).trans (by rw [entB_self])
  go_enter Tryd.func5, Tryd.ntmps5
  go_wp2_with fail
  refine (own_ok kd tx ix pk pn ct sm b _).mono ?_
  rintro e w1 ⟨rfl, hb⟩
  have HB1 := hid (HB0.out.trans (hb.mono HB0.out.size))
  have HX1 := hid ((hb.block (w.heap.size) (Array.getElem?_eq_some_iff.1 HX0.out).1).trans HX0.out)
  clear hb HB0 HX0
  go_wp2_with fail
  refine (HE'.out _ (HL.out.next HP.out HB1.out)).mono ?_
  rintro e w2 ⟨rfl, hb⟩
  have HB2 := hid (HB1.out.trans (hb.mono HB1.out.size))
  have HX2 := hid ((hb.block (w.heap.size) (Array.getElem?_eq_some_iff.1 HX1.out).1).trans HX1.out)
  clear hb HB1 HX1
  go_wp2_with fail
  refine (HD'.out _ (HL.out.next HP.out HB2.out)).mono ?_
  rintro e w3 ⟨rfl, hb⟩
  have HB3 := hid (HB2.out.trans (hb.mono HB2.out.size))
  have HX3 := hid ((hb.block (w.heap.size) (Array.getElem?_eq_some_iff.1 HX2.out).1).trans HX2.out)
  clear hb HB2 HX2
  have A4 := hid ((Below.refl w3.heap.size w3).alloc (Nat.le_refl _) (.cells (entC kd tx ix pk pn b ct sm) 32))
  have HB4 := hid (HB3.out.trans (A4.out.mono HB3.out.size))
  have HX4 := hid ((A4.out.block (w.heap.size) (Array.getElem?_eq_some_iff.1 HX3.out).1).trans HX3.out)
  have HY4 := hid (heap_alloc_new w3 (.cells (entC kd tx ix pk pn b ct sm) 32))
  clear A4
  go_wp2_with fail
  generalize w3.alloc (.cells (entC kd tx ix pk pn b ct sm) 32) = w4 at *
  have HDD := hid fun (V : World) (hv : Below w4.heap.size w4 V) => (show V.cell? ⟨w.heap.size, 0, none⟩ = some (.int .i64 kd) ∧ V.cell? ⟨w.heap.size, 1, none⟩ = some (.int .i64 tx) ∧ V.cell? ⟨w.heap.size, 2, none⟩ = some (.int .i64 ix) ∧ V.cell? ⟨w.heap.size, 3, none⟩ = some (.int .i64 pk) ∧ V.cell? ⟨w.heap.size, 4, none⟩ = some (.int .i64 pn) ∧ V.cell? ⟨w.heap.size, 5, none⟩ = some (.string b) ∧ V.cell? ⟨w.heap.size, 6, none⟩ = some (.int .i64 ct) ∧ V.cell? ⟨w.heap.size, 7, none⟩ = some (.int .u32 sm) ∧ V.cell? ⟨w3.heap.size, 0, none⟩ = some (.int .i64 kd) ∧ V.cell? ⟨w3.heap.size, 1, none⟩ = some (.int .i64 tx) ∧ V.cell? ⟨w3.heap.size, 2, none⟩ = some (.int .i64 ix) ∧ V.cell? ⟨w3.heap.size, 3, none⟩ = some (.int .i64 pk) ∧ V.cell? ⟨w3.heap.size, 4, none⟩ = some (.int .i64 pn) ∧ V.cell? ⟨w3.heap.size, 5, none⟩ = some (.string b) ∧ V.cell? ⟨w3.heap.size, 6, none⟩ = some (.int .i64 ct) ∧ V.cell? ⟨w3.heap.size, 7, none⟩ = some (.int .u32 sm) from by
      obtain ⟨p0, p1, p2, p3, p4, p5, p6, p7⟩ := ent_at ((hv.block w.heap.size (Array.getElem?_eq_some_iff.1 HX4.out).1).trans HX4.out)
      obtain ⟨q0, q1, q2, q3, q4, q5, q6, q7⟩ := ent_at ((hv.block w3.heap.size (Array.getElem?_eq_some_iff.1 HY4.out).1).trans HY4.out)
      exact ⟨p0, p1, p2, p3, p4, p5, p6, p7, q0, q1, q2, q3, q4, q5, q6, q7⟩)
  have B0 := hid (Below.refl w4.heap.size w4).drew
  have y0 := HDD.out _ B0.out
  have x0 := HDD.out _ (Below.refl w4.heap.size w4)
  go_region_held3 (fun V => V.cell? ⟨w.heap.size, 0, none⟩ = some (.int .i64 kd) ∧ V.cell? ⟨w.heap.size, 1, none⟩ = some (.int .i64 tx) ∧ V.cell? ⟨w.heap.size, 2, none⟩ = some (.int .i64 ix) ∧ V.cell? ⟨w.heap.size, 3, none⟩ = some (.int .i64 pk) ∧ V.cell? ⟨w.heap.size, 4, none⟩ = some (.int .i64 pn) ∧ V.cell? ⟨w.heap.size, 5, none⟩ = some (.string b) ∧ V.cell? ⟨w.heap.size, 6, none⟩ = some (.int .i64 ct) ∧ V.cell? ⟨w.heap.size, 7, none⟩ = some (.int .u32 sm) ∧ V.cell? ⟨w3.heap.size, 0, none⟩ = some (.int .i64 kd) ∧ V.cell? ⟨w3.heap.size, 1, none⟩ = some (.int .i64 tx) ∧ V.cell? ⟨w3.heap.size, 2, none⟩ = some (.int .i64 ix) ∧ V.cell? ⟨w3.heap.size, 3, none⟩ = some (.int .i64 pk) ∧ V.cell? ⟨w3.heap.size, 4, none⟩ = some (.int .i64 pn) ∧ V.cell? ⟨w3.heap.size, 5, none⟩ = some (.string b) ∧ V.cell? ⟨w3.heap.size, 6, none⟩ = some (.int .i64 ct) ∧ V.cell? ⟨w3.heap.size, 7, none⟩ = some (.int .u32 sm)) (first | exact x0 | exact y0 | exact y1 | go_keep)
    (first
      | (go_at_call 10; with_reducible refine (own_ok kd tx ix pk pn ct sm b _).mono ?_; rintro e v1 ⟨rfl, hb⟩; have B1 := hid (B0.out.trans (hb.mono B0.out.size)); have y1 := HDD.out _ B1.out; clear hb)
      | fail)
  have HB5 := hid (HB4.out.trans (B1.out.mono HB4.out.size))
  clear y0 x0 y1 HDD B0 HX4 HY4 B1
  go_wp2_with fail
  refine (HF'.out _ (HL.out.next HP.out HB5.out)).mono ?_
  rintro e w6 ⟨rfl, hb⟩
  have HB6 := hid (HB5.out.trans (hb.mono HB5.out.size))
  clear hb HB5 
  have A7 := hid ((Below.refl w6.heap.size w6).alloc (Nat.le_refl _) (.cells (entC 0 0 0 0 0 ⟨#[]⟩ 0 0) 32))
  have HB7 := hid (HB6.out.trans (A7.out.mono HB6.out.size))
  have HZ7 := hid (heap_alloc_new w6 (.cells (entC 0 0 0 0 0 ⟨#[]⟩ 0 0) 32))
  clear A7
  go_wp2_with fail
  refine (live_any _ (HL.out.next HP.out HB7.out)).mono ?_
  rintro e v9 ⟨rfl, hb⟩
  have HB9 := hid (HB7.out.trans (hb.mono HB7.out.size))
  clear hb
  go_wp2_with fail
  go_ret
  exact ⟨rfl, HB9.out⟩
set_option maxRecDepth 100000 in
set_option maxHeartbeats 4000000 in
theorem bck_01
    (kd tx ix pk pn : Int) (b : ByteArray) (ct sm : Int) (s : ByteArray) (w : World) (hL : Lst w) (h : b.size ≤ 300) (h' : s.size ≤ 300) (S : ByteArray) (hz1 : 7 ≤ S.size) (hz2 : S.size ≤ 244) (kd' tx' ix' pk' pn' : Int) (b' : ByteArray) (ct' sm' : Int) (hm : mayE kd' tx' ix' pk' pn' b' ct' sm')
    (hE : ∀ V : World, Lst V → Calls Tryd.prog 9 #[.agg (entC kd tx ix pk pn b ct sm)] V fun e w' => e = .returned (.tuple #[.string S, .int .i64 0]) ∧ Below V.heap.size V w')
    (hD : ∀ V : World, Lst V → Calls Tryd.prog 16 #[.string S] V fun e w' => e = .returned (.tuple #[.agg (entC kd tx ix pk pn b ct sm), .int .i64 0]) ∧ Below V.heap.size V w')
    (hF : ∀ V : World, Lst V → Calls Tryd.prog 16 #[.string s] V fun e w' => e = .returned (.tuple #[.agg (entC kd' tx' ix' pk' pn' b' ct' sm'), .int .i64 0]) ∧ Below V.heap.size V w')
    (hG : ∀ V : World, Lst V → Calls Tryd.prog 9 #[.agg (entC kd' tx' ix' pk' pn' b' ct' sm')] V fun e w' => e = .returned (.tuple #[.string s, .int .i64 0]) ∧ Below V.heap.size V w') :
    Calls Tryd.prog 5 #[.agg (entC kd tx ix pk pn b ct sm), .string s] w fun e w' => e = .returned (.bool true) ∧ Below w.heap.size w w' := by
  have HE' := hid hE
  clear hE
  have HD' := hid hD
  clear hD
  have HF' := hid hF
  clear hF
  have HG' := hid hG
  clear hG
  have HL := hid hL
  have HP := hid hL.pos
  clear hL
  have HB0 := hid ((Below.refl w.heap.size w).alloc (Nat.le_refl _) (.cells (entC kd tx ix pk pn b ct sm) 26))
  have HX0 := hid (heap_alloc_new w (.cells (entC kd tx ix pk pn b ct sm) 26))
  have a1 : decide ((300 : Int) < (b.size : Int)) = false := by simp; omega
  have a2 : decide (300 < b.size) = false := by simp; omega
  have a3 : ¬ 300 < b.size := by omega
  have d1 : decide ((300 : Int) < (s.size : Int)) = false := by simp; omega
  have d2 : decide (300 < s.size) = false := by simp; omega
  have d3 : ¬ 300 < s.size := by omega
  have z1 : decide ((244 : Int) < (S.size : Int)) = false := by simp; omega
  have z2 : decide (244 < S.size) = false := by simp; omega
  have z3 : ¬ 244 < S.size := by omega
  have z4 : decide ((S.size : Int) < 7) = false := by simp; omega
  have z5 : decide (S.size < 7) = false := by simp; omega
  have z6 : ¬ S.size < 7 := by omega
  have heqn := fun V => (neq32 kd tx ix pk pn b ct sm kd tx ix pk pn b ct sm V).trans (by rw [entB_self])
  go_enter Tryd.func5, Tryd.ntmps5
  go_wp2_with fail
  refine (own_ok kd tx ix pk pn ct sm b _).mono ?_
  rintro e w1 ⟨rfl, hb⟩
  have HB1 := hid (HB0.out.trans (hb.mono HB0.out.size))
  have HX1 := hid ((hb.block (w.heap.size) (Array.getElem?_eq_some_iff.1 HX0.out).1).trans HX0.out)
  clear hb HB0 HX0
  go_wp2_with fail
  refine (HE'.out _ (HL.out.next HP.out HB1.out)).mono ?_
  rintro e w2 ⟨rfl, hb⟩
  have HB2 := hid (HB1.out.trans (hb.mono HB1.out.size))
  have HX2 := hid ((hb.block (w.heap.size) (Array.getElem?_eq_some_iff.1 HX1.out).1).trans HX1.out)
  clear hb HB1 HX1
  go_wp2_with fail
  refine (HD'.out _ (HL.out.next HP.out HB2.out)).mono ?_
  rintro e w3 ⟨rfl, hb⟩
  have HB3 := hid (HB2.out.trans (hb.mono HB2.out.size))
  have HX3 := hid ((hb.block (w.heap.size) (Array.getElem?_eq_some_iff.1 HX2.out).1).trans HX2.out)
  clear hb HB2 HX2
  have A4 := hid ((Below.refl w3.heap.size w3).alloc (Nat.le_refl _) (.cells (entC kd tx ix pk pn b ct sm) 32))
  have HB4 := hid (HB3.out.trans (A4.out.mono HB3.out.size))
  have HX4 := hid ((A4.out.block (w.heap.size) (Array.getElem?_eq_some_iff.1 HX3.out).1).trans HX3.out)
  have HY4 := hid (heap_alloc_new w3 (.cells (entC kd tx ix pk pn b ct sm) 32))
  clear A4
  go_wp2_with fail
  generalize w3.alloc (.cells (entC kd tx ix pk pn b ct sm) 32) = w4 at *
  have HDD := hid fun (V : World) (hv : Below w4.heap.size w4 V) => (show V.cell? ⟨w.heap.size, 0, none⟩ = some (.int .i64 kd) ∧ V.cell? ⟨w.heap.size, 1, none⟩ = some (.int .i64 tx) ∧ V.cell? ⟨w.heap.size, 2, none⟩ = some (.int .i64 ix) ∧ V.cell? ⟨w.heap.size, 3, none⟩ = some (.int .i64 pk) ∧ V.cell? ⟨w.heap.size, 4, none⟩ = some (.int .i64 pn) ∧ V.cell? ⟨w.heap.size, 5, none⟩ = some (.string b) ∧ V.cell? ⟨w.heap.size, 6, none⟩ = some (.int .i64 ct) ∧ V.cell? ⟨w.heap.size, 7, none⟩ = some (.int .u32 sm) ∧ V.cell? ⟨w3.heap.size, 0, none⟩ = some (.int .i64 kd) ∧ V.cell? ⟨w3.heap.size, 1, none⟩ = some (.int .i64 tx) ∧ V.cell? ⟨w3.heap.size, 2, none⟩ = some (.int .i64 ix) ∧ V.cell? ⟨w3.heap.size, 3, none⟩ = some (.int .i64 pk) ∧ V.cell? ⟨w3.heap.size, 4, none⟩ = some (.int .i64 pn) ∧ V.cell? ⟨w3.heap.size, 5, none⟩ = some (.string b) ∧ V.cell? ⟨w3.heap.size, 6, none⟩ = some (.int .i64 ct) ∧ V.cell? ⟨w3.heap.size, 7, none⟩ = some (.int .u32 sm) from by
      obtain ⟨p0, p1, p2, p3, p4, p5, p6, p7⟩ := ent_at ((hv.block w.heap.size (Array.getElem?_eq_some_iff.1 HX4.out).1).trans HX4.out)
      obtain ⟨q0, q1, q2, q3, q4, q5, q6, q7⟩ := ent_at ((hv.block w3.heap.size (Array.getElem?_eq_some_iff.1 HY4.out).1).trans HY4.out)
      exact ⟨p0, p1, p2, p3, p4, p5, p6, p7, q0, q1, q2, q3, q4, q5, q6, q7⟩)
  have B0 := hid (Below.refl w4.heap.size w4).drew
  have y0 := HDD.out _ B0.out
  have x0 := HDD.out _ (Below.refl w4.heap.size w4)
  go_region_held3 (fun V => V.cell? ⟨w.heap.size, 0, none⟩ = some (.int .i64 kd) ∧ V.cell? ⟨w.heap.size, 1, none⟩ = some (.int .i64 tx) ∧ V.cell? ⟨w.heap.size, 2, none⟩ = some (.int .i64 ix) ∧ V.cell? ⟨w.heap.size, 3, none⟩ = some (.int .i64 pk) ∧ V.cell? ⟨w.heap.size, 4, none⟩ = some (.int .i64 pn) ∧ V.cell? ⟨w.heap.size, 5, none⟩ = some (.string b) ∧ V.cell? ⟨w.heap.size, 6, none⟩ = some (.int .i64 ct) ∧ V.cell? ⟨w.heap.size, 7, none⟩ = some (.int .u32 sm) ∧ V.cell? ⟨w3.heap.size, 0, none⟩ = some (.int .i64 kd) ∧ V.cell? ⟨w3.heap.size, 1, none⟩ = some (.int .i64 tx) ∧ V.cell? ⟨w3.heap.size, 2, none⟩ = some (.int .i64 ix) ∧ V.cell? ⟨w3.heap.size, 3, none⟩ = some (.int .i64 pk) ∧ V.cell? ⟨w3.heap.size, 4, none⟩ = some (.int .i64 pn) ∧ V.cell? ⟨w3.heap.size, 5, none⟩ = some (.string b) ∧ V.cell? ⟨w3.heap.size, 6, none⟩ = some (.int .i64 ct) ∧ V.cell? ⟨w3.heap.size, 7, none⟩ = some (.int .u32 sm)) (first | exact x0 | exact y0 | exact y1 | go_keep)
    (first
      | (go_at_call 10; with_reducible refine (own_ok kd tx ix pk pn ct sm b _).mono ?_; rintro e v1 ⟨rfl, hb⟩; have B1 := hid (B0.out.trans (hb.mono B0.out.size)); have y1 := HDD.out _ B1.out; clear hb)
      | fail)
  have HB5 := hid (HB4.out.trans (B1.out.mono HB4.out.size))
  clear y0 x0 y1 HDD B0 HX4 HY4 B1
  go_wp2_with fail
  refine (HF'.out _ (HL.out.next HP.out HB5.out)).mono ?_
  rintro e w6 ⟨rfl, hb⟩
  have HB6 := hid (HB5.out.trans (hb.mono HB5.out.size))
  clear hb HB5 
  have A7 := hid ((Below.refl w6.heap.size w6).alloc (Nat.le_refl _) (.cells (entC kd' tx' ix' pk' pn' b' ct' sm') 32))
  have HB7 := hid (HB6.out.trans (A7.out.mono HB6.out.size))
  have HZ7 := hid (heap_alloc_new w6 (.cells (entC kd' tx' ix' pk' pn' b' ct' sm') 32))
  clear A7
  go_wp2_with fail
  refine (HG'.out _ (HL.out.next HP.out HB7.out)).mono ?_
  rintro e w8 ⟨rfl, hb⟩
  have HB8 := hid (HB7.out.trans (hb.mono HB7.out.size))
  have HZ8 := hid ((hb.block (w6.heap.size) (Array.getElem?_eq_some_iff.1 HZ7.out).1).trans HZ7.out)
  clear hb HB7 HZ7
  obtain ⟨p0, p1, p2, p3, p4, p5, p6, p7⟩ := ent_at HZ8.out
  go_wp2_with fail
  refine (check_yes kd' tx' ix' pk' pn' ct' sm' b' _ hm).mono ?_
  rintro e w9 ⟨rfl, hb⟩
  have HB9 := hid (HB8.out.trans (hb.mono HB8.out.size))
  clear hb HB8 
  go_wp2_with fail
  refine (live_any _ (HL.out.next HP.out HB9.out)).mono ?_
  rintro e v9 ⟨rfl, hb⟩
  have HB10 := hid (HB9.out.trans (hb.mono HB9.out.size))
  clear hb
  go_wp2_with fail
  go_ret
  exact ⟨rfl, HB10.out⟩
set_option maxRecDepth 100000 in
set_option maxHeartbeats 4000000 in
theorem bck_10
    (kd tx ix pk pn : Int) (b : ByteArray) (ct sm : Int) (s : ByteArray) (w : World) (hL : Lst w) (h : b.size ≤ 300) (h' : s.size ≤ 300) (S : ByteArray) (c2 : Int) (hc2 : c2 ≠ 0)
    (hE : ∀ V : World, Lst V → Calls Tryd.prog 9 #[.agg (entC kd tx ix pk pn b ct sm)] V fun e w' => e = .returned (.tuple #[.string S, .int .i64 1]) ∧ Below V.heap.size V w')
    (hF : ∀ V : World, Lst V → Calls Tryd.prog 16 #[.string s] V fun e w' => e = .returned (.tuple #[.agg (entC 0 0 0 0 0 ⟨#[]⟩ 0 0), .int .i64 c2]) ∧ Below V.heap.size V w') :
    Calls Tryd.prog 5 #[.agg (entC kd tx ix pk pn b ct sm), .string s] w fun e w' => e = .returned (.bool true) ∧ Below w.heap.size w w' := by
  have HE' := hid hE
  clear hE
  have HF' := hid hF
  clear hF
  have HL := hid hL
  have HP := hid hL.pos
  clear hL
  have HB0 := hid ((Below.refl w.heap.size w).alloc (Nat.le_refl _) (.cells (entC kd tx ix pk pn b ct sm) 26))
  have HX0 := hid (heap_alloc_new w (.cells (entC kd tx ix pk pn b ct sm) 26))
  have a1 : decide ((300 : Int) < (b.size : Int)) = false := by simp; omega
  have a2 : decide (300 < b.size) = false := by simp; omega
  have a3 : ¬ 300 < b.size := by omega
  have d1 : decide ((300 : Int) < (s.size : Int)) = false := by simp; omega
  have d2 : decide (300 < s.size) = false := by simp; omega
  have d3 : ¬ 300 < s.size := by omega
  have k1 : (c2 != 0) = true := by simpa using hc2
  have k2 : (c2 == 0) = false := by simpa using hc2
  have heqz := fun V => (eql32 0 0 0 0 0 ⟨#[]⟩ 0 0 0 0 0 0 0 ⟨#[]⟩ 0 0 V).trans (by rw [entB_self])
  go_enter Tryd.func5, Tryd.ntmps5
  go_wp2_with fail
  refine (own_ok kd tx ix pk pn ct sm b _).mono ?_
  rintro e w1 ⟨rfl, hb⟩
  have HB1 := hid (HB0.out.trans (hb.mono HB0.out.size))
  have HX1 := hid ((hb.block (w.heap.size) (Array.getElem?_eq_some_iff.1 HX0.out).1).trans HX0.out)
  clear hb HB0 HX0
  go_wp2_with fail
  refine (HE'.out _ (HL.out.next HP.out HB1.out)).mono ?_
  rintro e w2 ⟨rfl, hb⟩
  have HB2 := hid (HB1.out.trans (hb.mono HB1.out.size))
  have HX2 := hid ((hb.block (w.heap.size) (Array.getElem?_eq_some_iff.1 HX1.out).1).trans HX1.out)
  clear hb HB1 HX1
  go_wp2_with fail
  refine (HF'.out _ (HL.out.next HP.out HB2.out)).mono ?_
  rintro e w6 ⟨rfl, hb⟩
  have HB6 := hid (HB2.out.trans (hb.mono HB2.out.size))
  clear hb HB2 
  have A7 := hid ((Below.refl w6.heap.size w6).alloc (Nat.le_refl _) (.cells (entC 0 0 0 0 0 ⟨#[]⟩ 0 0) 32))
  have HB7 := hid (HB6.out.trans (A7.out.mono HB6.out.size))
  have HZ7 := hid (heap_alloc_new w6 (.cells (entC 0 0 0 0 0 ⟨#[]⟩ 0 0) 32))
  clear A7
  go_wp2_with fail
  refine (live_any _ (HL.out.next HP.out HB7.out)).mono ?_
  rintro e v9 ⟨rfl, hb⟩
  have HB9 := hid (HB7.out.trans (hb.mono HB7.out.size))
  clear hb
  go_wp2_with fail
  go_ret
  exact ⟨rfl, HB9.out⟩
set_option maxRecDepth 100000 in
set_option maxHeartbeats 4000000 in
theorem bck_11
    (kd tx ix pk pn : Int) (b : ByteArray) (ct sm : Int) (s : ByteArray) (w : World) (hL : Lst w) (h : b.size ≤ 300) (h' : s.size ≤ 300) (S : ByteArray) (kd' tx' ix' pk' pn' : Int) (b' : ByteArray) (ct' sm' : Int) (hm : mayE kd' tx' ix' pk' pn' b' ct' sm')
    (hE : ∀ V : World, Lst V → Calls Tryd.prog 9 #[.agg (entC kd tx ix pk pn b ct sm)] V fun e w' => e = .returned (.tuple #[.string S, .int .i64 1]) ∧ Below V.heap.size V w')
    (hF : ∀ V : World, Lst V → Calls Tryd.prog 16 #[.string s] V fun e w' => e = .returned (.tuple #[.agg (entC kd' tx' ix' pk' pn' b' ct' sm'), .int .i64 0]) ∧ Below V.heap.size V w')
    (hG : ∀ V : World, Lst V → Calls Tryd.prog 9 #[.agg (entC kd' tx' ix' pk' pn' b' ct' sm')] V fun e w' => e = .returned (.tuple #[.string s, .int .i64 0]) ∧ Below V.heap.size V w') :
    Calls Tryd.prog 5 #[.agg (entC kd tx ix pk pn b ct sm), .string s] w fun e w' => e = .returned (.bool true) ∧ Below w.heap.size w w' := by
  have HE' := hid hE
  clear hE
  have HF' := hid hF
  clear hF
  have HG' := hid hG
  clear hG
  have HL := hid hL
  have HP := hid hL.pos
  clear hL
  have HB0 := hid ((Below.refl w.heap.size w).alloc (Nat.le_refl _) (.cells (entC kd tx ix pk pn b ct sm) 26))
  have HX0 := hid (heap_alloc_new w (.cells (entC kd tx ix pk pn b ct sm) 26))
  have a1 : decide ((300 : Int) < (b.size : Int)) = false := by simp; omega
  have a2 : decide (300 < b.size) = false := by simp; omega
  have a3 : ¬ 300 < b.size := by omega
  have d1 : decide ((300 : Int) < (s.size : Int)) = false := by simp; omega
  have d2 : decide (300 < s.size) = false := by simp; omega
  have d3 : ¬ 300 < s.size := by omega
  go_enter Tryd.func5, Tryd.ntmps5
  go_wp2_with fail
  refine (own_ok kd tx ix pk pn ct sm b _).mono ?_
  rintro e w1 ⟨rfl, hb⟩
  have HB1 := hid (HB0.out.trans (hb.mono HB0.out.size))
  have HX1 := hid ((hb.block (w.heap.size) (Array.getElem?_eq_some_iff.1 HX0.out).1).trans HX0.out)
  clear hb HB0 HX0
  go_wp2_with fail
  refine (HE'.out _ (HL.out.next HP.out HB1.out)).mono ?_
  rintro e w2 ⟨rfl, hb⟩
  have HB2 := hid (HB1.out.trans (hb.mono HB1.out.size))
  have HX2 := hid ((hb.block (w.heap.size) (Array.getElem?_eq_some_iff.1 HX1.out).1).trans HX1.out)
  clear hb HB1 HX1
  go_wp2_with fail
  refine (HF'.out _ (HL.out.next HP.out HB2.out)).mono ?_
  rintro e w6 ⟨rfl, hb⟩
  have HB6 := hid (HB2.out.trans (hb.mono HB2.out.size))
  clear hb HB2 
  have A7 := hid ((Below.refl w6.heap.size w6).alloc (Nat.le_refl _) (.cells (entC kd' tx' ix' pk' pn' b' ct' sm') 32))
  have HB7 := hid (HB6.out.trans (A7.out.mono HB6.out.size))
  have HZ7 := hid (heap_alloc_new w6 (.cells (entC kd' tx' ix' pk' pn' b' ct' sm') 32))
  clear A7
  go_wp2_with fail
  refine (HG'.out _ (HL.out.next HP.out HB7.out)).mono ?_
  rintro e w8 ⟨rfl, hb⟩
  have HB8 := hid (HB7.out.trans (hb.mono HB7.out.size))
  have HZ8 := hid ((hb.block (w6.heap.size) (Array.getElem?_eq_some_iff.1 HZ7.out).1).trans HZ7.out)
  clear hb HB7 HZ7
  obtain ⟨p0, p1, p2, p3, p4, p5, p6, p7⟩ := ent_at HZ8.out
  go_wp2_with fail
  refine (check_yes kd' tx' ix' pk' pn' ct' sm' b' _ hm).mono ?_
  rintro e w9 ⟨rfl, hb⟩
  have HB9 := hid (HB8.out.trans (hb.mono HB8.out.size))
  clear hb HB8 
  go_wp2_with fail
  refine (live_any _ (HL.out.next HP.out HB9.out)).mono ?_
  rintro e v9 ⟨rfl, hb⟩
  have HB10 := hid (HB9.out.trans (hb.mono HB9.out.size))
  clear hb
  go_wp2_with fail
  go_ret
  exact ⟨rfl, HB10.out⟩
theorem EntryBack_walk (v : Value) (s : ByteArray) (w : World) (h : EnV w v) (_ : s.size ≤ maxLen) (hL : Lst w) :
    Calls Tryd.prog 5 #[v, .string s] w fun e w' => e = .returned (.bool true) ∧ Below w.heap.size w w' := by
  obtain ⟨⟨kd, tx, ix, pk, pn, b, ct, sm⟩, rfl, hd⟩ := h
  have l0 : (0 : Int) ≤ sm := by omega
  have l1 : (sm : Int) < 4294967296 := by have h2 : sm < 4294967296 := hd.f5; omega
  have hE := fun (V : World) (hV : Lst V) => encode_any kd tx ix pk pn b ct sm V hV hd.f1.2 l0 l1
  by_cases g1 : b.size ≤ 300
  · by_cases g2 : s.size ≤ 300
    · by_cases m1 : mayE kd tx ix pk pn b ct sm
      · have hz := encR_size l0 m1
        have hD := fun (V : World) (hV : Lst V) => dec_enc l0 l1 m1 V hV
        rw [show (encR kd tx ix pk pn b ct sm).2 = 0 by rw [encR_yes m1]] at hE
        rcases dec_any s (by omega) with ⟨c, hc, hF⟩ | ⟨kd', tx', ix', pk', pn', b', ct', sm', q0, q1, q2, hm, hq, hF⟩
        · exact bck_00 kd tx ix pk pn b ct sm s w hL g1 g2 _ hz.1 hz.2 c hc hE hD hF
        · have hG := fun (V : World) (hV : Lst V) => encode_any kd' tx' ix' pk' pn' b' ct' sm' V hV q2 q0 q1
          rw [show (encR kd' tx' ix' pk' pn' b' ct' sm').2 = 0 by rw [encR_yes hm], hq] at hG
          exact bck_01 kd tx ix pk pn b ct sm s w hL g1 g2 _ hz.1 hz.2 kd' tx' ix' pk' pn' b' ct' sm' hm hE hD hF hG
      · rw [show (encR kd tx ix pk pn b ct sm).2 = 1 by rw [encR_no m1]] at hE
        rcases dec_any s (by omega) with ⟨c, hc, hF⟩ | ⟨kd', tx', ix', pk', pn', b', ct', sm', q0, q1, q2, hm, hq, hF⟩
        · exact bck_10 kd tx ix pk pn b ct sm s w hL g1 g2 _ c hc hE hF
        · have hG := fun (V : World) (hV : Lst V) => encode_any kd' tx' ix' pk' pn' b' ct' sm' V hV q2 q0 q1
          rw [show (encR kd' tx' ix' pk' pn' b' ct' sm').2 = 0 by rw [encR_yes hm], hq] at hG
          exact bck_11 kd tx ix pk pn b ct sm s w hL g1 g2 _ kd' tx' ix' pk' pn' b' ct' sm' hm hE hF hG
    · exact bck_far2 kd tx ix pk pn b ct sm s w hL g1 (by omega)
  · exact bck_far1 kd tx ix pk pn b ct sm s w hL (by omega)
theorem EntryBack_open0 {H : Type} {enc : TypeId × Value → H} {W : World} {base : Nat} {v : Value} {d : DataW H} {p : List MemPlace} (hv : Value.okWide Tryd.prog W .any base 26 v) (h : DataW.Trod enc Tryd.prog W 0 (fun _ => true) true 26 v d p) : EnV W v := open_En hv h
end Go.Proofs.YtigaddpjmgncmaaDoor.En
