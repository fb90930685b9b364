/- EntryApart walked. -/
import Derived.Test.YtigaddpjmgncmaaDoorEnPl
import Derived.Test.YtigaddpjmgncmaaDoorEnOpn
namespace Go.Proofs.YtigaddpjmgncmaaDoor.En
open Go.RowKit
open Go.Lib (hid)
set_option maxRecDepth 100000 in
set_option maxHeartbeats 4000000 in
theorem apa_far1
    (kd tx ix pk pn : Int) (b : ByteArray) (ct sm kd' tx' ix' pk' pn' : Int) (b' : ByteArray) (ct' sm' : Int) (w : World) (hL : Lst w) (h : 300 < b.size) :
    Calls Tryd.prog 7 #[.agg (entC kd tx ix pk pn b ct sm), .agg (entC kd' tx' ix' pk' pn' b' ct' sm')] w fun e w' => e = .returned (.bool true) ∧ Below w.heap.size w w' := by
  have HL := hid hL
  have HP := hid hL.pos
  clear hL
  have HB0 := hid (((Below.refl w.heap.size w).alloc (Nat.le_refl _) (.cells (entC kd tx ix pk pn b ct sm) 26)).alloc (by simp) (.cells (entC kd' tx' ix' pk' pn' b' ct' sm') 26))
  have HX0 := hid (show ((w.alloc (.cells (entC kd tx ix pk pn b ct sm) 26)).alloc (.cells (entC kd' tx' ix' pk' pn' b' ct' sm') 26)).heap[w.heap.size]? = some (.cells (entC kd tx ix pk pn b ct sm) 26) from ((Below.refl (w.alloc (.cells (entC kd tx ix pk pn b ct sm) 26)).heap.size (w.alloc (.cells (entC kd tx ix pk pn b ct sm) 26))).alloc (Nat.le_refl _) (.cells (entC kd' tx' ix' pk' pn' b' ct' sm') 26)).block w.heap.size (by simp) |>.trans (heap_alloc_new _ _))
  have HY0 := hid (show ((w.alloc (.cells (entC kd tx ix pk pn b ct sm) 26)).alloc (.cells (entC kd' tx' ix' pk' pn' b' ct' sm') 26)).heap[w.heap.size + 1]? = some (.cells (entC kd' tx' ix' pk' pn' b' ct' sm') 26) from by
    have h := heap_alloc_new (w.alloc (.cells (entC kd tx ix pk pn b ct sm) 26)) (.cells (entC kd' tx' ix' pk' pn' b' ct' sm') 26)
    rw [show (w.alloc (.cells (entC kd tx ix pk pn b ct sm) 26)).heap.size = w.heap.size + 1 by simp] at h
    exact h)
  have a1 : decide ((300 : Int) < (b.size : Int)) = true := by simp; omega
  have a2 : decide (300 < b.size) = true := by simp; omega
  have a3 : 300 < b.size := by omega
  go_enter Tryd.func7, Tryd.ntmps7
  go_wp2_with fail
  refine (live_any _ (HL.out.next HP.out HB0.out)).mono ?_
  rintro e v1 ⟨rfl, hb⟩
  have HB9 := hid (HB0.out.trans (hb.mono HB0.out.size))
  clear hb
  go_wp2_with fail
  go_ret
  exact ⟨rfl, HB9.out⟩
set_option maxRecDepth 100000 in
set_option maxHeartbeats 4000000 in
theorem apa_far2
    (kd tx ix pk pn : Int) (b : ByteArray) (ct sm kd' tx' ix' pk' pn' : Int) (b' : ByteArray) (ct' sm' : Int) (w : World) (hL : Lst w) (h : b.size ≤ 300) (h' : 300 < b'.size) :
    Calls Tryd.prog 7 #[.agg (entC kd tx ix pk pn b ct sm), .agg (entC kd' tx' ix' pk' pn' b' ct' sm')] w fun e w' => e = .returned (.bool true) ∧ Below w.heap.size w w' := by
  have HL := hid hL
  have HP := hid hL.pos
  clear hL
  have HB0 := hid (((Below.refl w.heap.size w).alloc (Nat.le_refl _) (.cells (entC kd tx ix pk pn b ct sm) 26)).alloc (by simp) (.cells (entC kd' tx' ix' pk' pn' b' ct' sm') 26))
  have HX0 := hid (show ((w.alloc (.cells (entC kd tx ix pk pn b ct sm) 26)).alloc (.cells (entC kd' tx' ix' pk' pn' b' ct' sm') 26)).heap[w.heap.size]? = some (.cells (entC kd tx ix pk pn b ct sm) 26) from ((Below.refl (w.alloc (.cells (entC kd tx ix pk pn b ct sm) 26)).heap.size (w.alloc (.cells (entC kd tx ix pk pn b ct sm) 26))).alloc (Nat.le_refl _) (.cells (entC kd' tx' ix' pk' pn' b' ct' sm') 26)).block w.heap.size (by simp) |>.trans (heap_alloc_new _ _))
  have HY0 := hid (show ((w.alloc (.cells (entC kd tx ix pk pn b ct sm) 26)).alloc (.cells (entC kd' tx' ix' pk' pn' b' ct' sm') 26)).heap[w.heap.size + 1]? = some (.cells (entC kd' tx' ix' pk' pn' b' ct' sm') 26) from by
    have h := heap_alloc_new (w.alloc (.cells (entC kd tx ix pk pn b ct sm) 26)) (.cells (entC kd' tx' ix' pk' pn' b' ct' sm') 26)
    rw [show (w.alloc (.cells (entC kd tx ix pk pn b ct sm) 26)).heap.size = w.heap.size + 1 by simp] at h
    exact h)
  have a1 : decide ((300 : Int) < (b.size : Int)) = false := by simp; omega
  have a2 : decide (300 < b.size) = false := by simp; omega
  have a3 : ¬ 300 < b.size := by omega
  have c1 : decide ((300 : Int) < (b'.size : Int)) = true := by simp; omega
  have c2 : decide (300 < b'.size) = true := by simp; omega
  have c3 : 300 < b'.size := by omega
  go_enter Tryd.func7, Tryd.ntmps7
  go_wp2_with fail
  refine (live_any _ (HL.out.next HP.out HB0.out)).mono ?_
  rintro e v1 ⟨rfl, hb⟩
  have HB9 := hid (HB0.out.trans (hb.mono HB0.out.size))
  clear hb
  go_wp2_with fail
  go_ret
  exact ⟨rfl, HB9.out⟩
set_option maxRecDepth 100000 in
set_option maxHeartbeats 4000000 in
theorem apa_no1
    (kd tx ix pk pn : Int) (b : ByteArray) (ct sm kd' tx' ix' pk' pn' : Int) (b' : ByteArray) (ct' sm' : Int) (w : World) (hL : Lst w) (h : b.size ≤ 300) (h' : b'.size ≤ 300) (S S' : ByteArray) (cc : Int)
    (hE : ∀ V : World, Lst V → Calls Tryd.prog 9 #[.agg (entC kd tx ix pk pn b ct sm)] V fun e w' => e = .returned (.tuple #[.string S, .int .i64 1]) ∧ Below V.heap.size V w')
    (hG : ∀ V : World, Lst V → Calls Tryd.prog 9 #[.agg (entC kd' tx' ix' pk' pn' b' ct' sm')] V fun e w' => e = .returned (.tuple #[.string S', .int .i64 cc]) ∧ Below V.heap.size V w') :
    Calls Tryd.prog 7 #[.agg (entC kd tx ix pk pn b ct sm), .agg (entC kd' tx' ix' pk' pn' b' ct' sm')] w fun e w' => e = .returned (.bool true) ∧ Below w.heap.size w w' := by
  have HE := hid hE
  have HG := hid hG
  clear hE hG
  have HL := hid hL
  have HP := hid hL.pos
  clear hL
  have HB0 := hid (((Below.refl w.heap.size w).alloc (Nat.le_refl _) (.cells (entC kd tx ix pk pn b ct sm) 26)).alloc (by simp) (.cells (entC kd' tx' ix' pk' pn' b' ct' sm') 26))
  have HX0 := hid (show ((w.alloc (.cells (entC kd tx ix pk pn b ct sm) 26)).alloc (.cells (entC kd' tx' ix' pk' pn' b' ct' sm') 26)).heap[w.heap.size]? = some (.cells (entC kd tx ix pk pn b ct sm) 26) from ((Below.refl (w.alloc (.cells (entC kd tx ix pk pn b ct sm) 26)).heap.size (w.alloc (.cells (entC kd tx ix pk pn b ct sm) 26))).alloc (Nat.le_refl _) (.cells (entC kd' tx' ix' pk' pn' b' ct' sm') 26)).block w.heap.size (by simp) |>.trans (heap_alloc_new _ _))
  have HY0 := hid (show ((w.alloc (.cells (entC kd tx ix pk pn b ct sm) 26)).alloc (.cells (entC kd' tx' ix' pk' pn' b' ct' sm') 26)).heap[w.heap.size + 1]? = some (.cells (entC kd' tx' ix' pk' pn' b' ct' sm') 26) from by
    have h := heap_alloc_new (w.alloc (.cells (entC kd tx ix pk pn b ct sm) 26)) (.cells (entC kd' tx' ix' pk' pn' b' ct' sm') 26)
    rw [show (w.alloc (.cells (entC kd tx ix pk pn b ct sm) 26)).heap.size = w.heap.size + 1 by simp] at h
    exact h)
  have a1 : decide ((300 : Int) < (b.size : Int)) = false := by simp; omega
  have a2 : decide (300 < b.size) = false := by simp; omega
  have a3 : ¬ 300 < b.size := by omega
  have c1 : decide ((300 : Int) < (b'.size : Int)) = false := by simp; omega
  have c2 : decide (300 < b'.size) = false := by simp; omega
  have c3 : ¬ 300 < b'.size := by omega
  go_enter Tryd.func7, Tryd.ntmps7
  go_wp2_with fail
  refine (own_ok kd tx ix pk pn ct sm b _).mono ?_
  rintro e w1 ⟨rfl, hb⟩
  have HB1 := hid (HB0.out.trans (hb.mono HB0.out.size))
  have HX1 := hid ((hb.block w.heap.size (Array.getElem?_eq_some_iff.1 HX0.out).1).trans HX0.out)
  have HY1 := hid ((hb.block (w.heap.size + 1) (Array.getElem?_eq_some_iff.1 HY0.out).1).trans HY0.out)
  clear hb HB0 HX0 HY0
  go_wp2_with fail
  refine (HE.out _ (HL.out.next HP.out HB1.out)).mono ?_
  rintro e w2 ⟨rfl, hb⟩
  have HB2 := hid (HB1.out.trans (hb.mono HB1.out.size))
  have HX2 := hid ((hb.block w.heap.size (Array.getElem?_eq_some_iff.1 HX1.out).1).trans HX1.out)
  have HY2 := hid ((hb.block (w.heap.size + 1) (Array.getElem?_eq_some_iff.1 HY1.out).1).trans HY1.out)
  clear hb HB1 HX1 HY1
  obtain ⟨q0, q1, q2, q3, q4, q5, q6, q7⟩ := ent_at HY2.out
  go_wp2_with fail
  refine (own_ok kd' tx' ix' pk' pn' ct' sm' b' _).mono ?_
  rintro e w3 ⟨rfl, hb⟩
  have HB3 := hid (HB2.out.trans (hb.mono HB2.out.size))
  have HX3 := hid ((hb.block w.heap.size (Array.getElem?_eq_some_iff.1 HX2.out).1).trans HX2.out)
  have HY3 := hid ((hb.block (w.heap.size + 1) (Array.getElem?_eq_some_iff.1 HY2.out).1).trans HY2.out)
  clear hb HB2 HX2 HY2
  go_wp2_with fail
  refine (HG.out _ (HL.out.next HP.out HB3.out)).mono ?_
  rintro e w4 ⟨rfl, hb⟩
  have HB4 := hid (HB3.out.trans (hb.mono HB3.out.size))
  have HX4 := hid ((hb.block w.heap.size (Array.getElem?_eq_some_iff.1 HX3.out).1).trans HX3.out)
  have HY4 := hid ((hb.block (w.heap.size + 1) (Array.getElem?_eq_some_iff.1 HY3.out).1).trans HY3.out)
  clear hb HB3 HX3 HY3
  clear q0 q1 q2 q3 q4 q5 q6 q7
  obtain ⟨p0, p1, p2, p3, p4, p5, p6, p7⟩ := ent_at HX4.out
  obtain ⟨q0, q1, q2, q3, q4, q5, q6, q7⟩ := ent_at HY4.out
  go_wp2_with fail
  refine (live_any _ (HL.out.next HP.out HB4.out)).mono ?_
  rintro e v1 ⟨rfl, hb⟩
  have HB9 := hid (HB4.out.trans (hb.mono HB4.out.size))
  clear hb
  go_wp2_with fail
  go_ret
  exact ⟨rfl, HB9.out⟩
set_option maxRecDepth 100000 in
set_option maxHeartbeats 4000000 in
theorem apa_no2
    (kd tx ix pk pn : Int) (b : ByteArray) (ct sm kd' tx' ix' pk' pn' : Int) (b' : ByteArray) (ct' sm' : Int) (w : World) (hL : Lst w) (h : b.size ≤ 300) (h' : b'.size ≤ 300) (S S' : ByteArray)
    (hE : ∀ V : World, Lst V → Calls Tryd.prog 9 #[.agg (entC kd tx ix pk pn b ct sm)] V fun e w' => e = .returned (.tuple #[.string S, .int .i64 0]) ∧ Below V.heap.size V w')
    (hG : ∀ V : World, Lst V → Calls Tryd.prog 9 #[.agg (entC kd' tx' ix' pk' pn' b' ct' sm')] V fun e w' => e = .returned (.tuple #[.string S', .int .i64 1]) ∧ Below V.heap.size V w') :
    Calls Tryd.prog 7 #[.agg (entC kd tx ix pk pn b ct sm), .agg (entC kd' tx' ix' pk' pn' b' ct' sm')] w fun e w' => e = .returned (.bool true) ∧ Below w.heap.size w w' := by
  have HE := hid hE
  have HG := hid hG
  clear hE hG
  have HL := hid hL
  have HP := hid hL.pos
  clear hL
  have HB0 := hid (((Below.refl w.heap.size w).alloc (Nat.le_refl _) (.cells (entC kd tx ix pk pn b ct sm) 26)).alloc (by simp) (.cells (entC kd' tx' ix' pk' pn' b' ct' sm') 26))
  have HX0 := hid (show ((w.alloc (.cells (entC kd tx ix pk pn b ct sm) 26)).alloc (.cells (entC kd' tx' ix' pk' pn' b' ct' sm') 26)).heap[w.heap.size]? = some (.cells (entC kd tx ix pk pn b ct sm) 26) from ((Below.refl (w.alloc (.cells (entC kd tx ix pk pn b ct sm) 26)).heap.size (w.alloc (.cells (entC kd tx ix pk pn b ct sm) 26))).alloc (Nat.le_refl _) (.cells (entC kd' tx' ix' pk' pn' b' ct' sm') 26)).block w.heap.size (by simp) |>.trans (heap_alloc_new _ _))
  have HY0 := hid (show ((w.alloc (.cells (entC kd tx ix pk pn b ct sm) 26)).alloc (.cells (entC kd' tx' ix' pk' pn' b' ct' sm') 26)).heap[w.heap.size + 1]? = some (.cells (entC kd' tx' ix' pk' pn' b' ct' sm') 26) from by
    have h := heap_alloc_new (w.alloc (.cells (entC kd tx ix pk pn b ct sm) 26)) (.cells (entC kd' tx' ix' pk' pn' b' ct' sm') 26)
    rw [show (w.alloc (.cells (entC kd tx ix pk pn b ct sm) 26)).heap.size = w.heap.size + 1 by simp] at h
    exact h)
  have a1 : decide ((300 : Int) < (b.size : Int)) = false := by simp; omega
  have a2 : decide (300 < b.size) = false := by simp; omega
  have a3 : ¬ 300 < b.size := by omega
  have c1 : decide ((300 : Int) < (b'.size : Int)) = false := by simp; omega
  have c2 : decide (300 < b'.size) = false := by simp; omega
  have c3 : ¬ 300 < b'.size := by omega
  go_enter Tryd.func7, Tryd.ntmps7
  go_wp2_with fail
  refine (own_ok kd tx ix pk pn ct sm b _).mono ?_
  rintro e w1 ⟨rfl, hb⟩
  have HB1 := hid (HB0.out.trans (hb.mono HB0.out.size))
  have HX1 := hid ((hb.block w.heap.size (Array.getElem?_eq_some_iff.1 HX0.out).1).trans HX0.out)
  have HY1 := hid ((hb.block (w.heap.size + 1) (Array.getElem?_eq_some_iff.1 HY0.out).1).trans HY0.out)
  clear hb HB0 HX0 HY0
  go_wp2_with fail
  refine (HE.out _ (HL.out.next HP.out HB1.out)).mono ?_
  rintro e w2 ⟨rfl, hb⟩
  have HB2 := hid (HB1.out.trans (hb.mono HB1.out.size))
  have HX2 := hid ((hb.block w.heap.size (Array.getElem?_eq_some_iff.1 HX1.out).1).trans HX1.out)
  have HY2 := hid ((hb.block (w.heap.size + 1) (Array.getElem?_eq_some_iff.1 HY1.out).1).trans HY1.out)
  clear hb HB1 HX1 HY1
  obtain ⟨q0, q1, q2, q3, q4, q5, q6, q7⟩ := ent_at HY2.out
  go_wp2_with fail
  refine (own_ok kd' tx' ix' pk' pn' ct' sm' b' _).mono ?_
  rintro e w3 ⟨rfl, hb⟩
  have HB3 := hid (HB2.out.trans (hb.mono HB2.out.size))
  have HX3 := hid ((hb.block w.heap.size (Array.getElem?_eq_some_iff.1 HX2.out).1).trans HX2.out)
  have HY3 := hid ((hb.block (w.heap.size + 1) (Array.getElem?_eq_some_iff.1 HY2.out).1).trans HY2.out)
  clear hb HB2 HX2 HY2
  go_wp2_with fail
  refine (HG.out _ (HL.out.next HP.out HB3.out)).mono ?_
  rintro e w4 ⟨rfl, hb⟩
  have HB4 := hid (HB3.out.trans (hb.mono HB3.out.size))
  have HX4 := hid ((hb.block w.heap.size (Array.getElem?_eq_some_iff.1 HX3.out).1).trans HX3.out)
  have HY4 := hid ((hb.block (w.heap.size + 1) (Array.getElem?_eq_some_iff.1 HY3.out).1).trans HY3.out)
  clear hb HB3 HX3 HY3
  clear q0 q1 q2 q3 q4 q5 q6 q7
  obtain ⟨p0, p1, p2, p3, p4, p5, p6, p7⟩ := ent_at HX4.out
  obtain ⟨q0, q1, q2, q3, q4, q5, q6, q7⟩ := ent_at HY4.out
  go_wp2_with fail
  refine (live_any _ (HL.out.next HP.out HB4.out)).mono ?_
  rintro e v1 ⟨rfl, hb⟩
  have HB9 := hid (HB4.out.trans (hb.mono HB4.out.size))
  clear hb
  go_wp2_with fail
  go_ret
  exact ⟨rfl, HB9.out⟩
set_option maxRecDepth 100000 in
set_option maxHeartbeats 4000000 in
theorem apa_yes
    (kd tx ix pk pn : Int) (b : ByteArray) (ct sm kd' tx' ix' pk' pn' : Int) (b' : ByteArray) (ct' sm' : Int) (w : World) (hL : Lst w) (h : b.size ≤ 300) (h' : b'.size ≤ 300) (S S' : ByteArray) (B : Bool) (hS : (S.toList == S'.toList) = B) (hB : entB kd tx ix pk pn b ct sm kd' tx' ix' pk' pn' b' ct' sm' = B)
    (hE : ∀ V : World, Lst V → Calls Tryd.prog 9 #[.agg (entC kd tx ix pk pn b ct sm)] V fun e w' => e = .returned (.tuple #[.string S, .int .i64 0]) ∧ Below V.heap.size V w')
    (hG : ∀ V : World, Lst V → Calls Tryd.prog 9 #[.agg (entC kd' tx' ix' pk' pn' b' ct' sm')] V fun e w' => e = .returned (.tuple #[.string S', .int .i64 0]) ∧ Below V.heap.size V w') :
    Calls Tryd.prog 7 #[.agg (entC kd tx ix pk pn b ct sm), .agg (entC kd' tx' ix' pk' pn' b' ct' sm')] w fun e w' => e = .returned (.bool true) ∧ Below w.heap.size w w' := by
  have HE := hid hE
  have HG := hid hG
  clear hE hG
  have HL := hid hL
  have HP := hid hL.pos
  clear hL
  have HB0 := hid (((Below.refl w.heap.size w).alloc (Nat.le_refl _) (.cells (entC kd tx ix pk pn b ct sm) 26)).alloc (by simp) (.cells (entC kd' tx' ix' pk' pn' b' ct' sm') 26))
  have HX0 := hid (show ((w.alloc (.cells (entC kd tx ix pk pn b ct sm) 26)).alloc (.cells (entC kd' tx' ix' pk' pn' b' ct' sm') 26)).heap[w.heap.size]? = some (.cells (entC kd tx ix pk pn b ct sm) 26) from ((Below.refl (w.alloc (.cells (entC kd tx ix pk pn b ct sm) 26)).heap.size (w.alloc (.cells (entC kd tx ix pk pn b ct sm) 26))).alloc (Nat.le_refl _) (.cells (entC kd' tx' ix' pk' pn' b' ct' sm') 26)).block w.heap.size (by simp) |>.trans (heap_alloc_new _ _))
  have HY0 := hid (show ((w.alloc (.cells (entC kd tx ix pk pn b ct sm) 26)).alloc (.cells (entC kd' tx' ix' pk' pn' b' ct' sm') 26)).heap[w.heap.size + 1]? = some (.cells (entC kd' tx' ix' pk' pn' b' ct' sm') 26) from by
    have h := heap_alloc_new (w.alloc (.cells (entC kd tx ix pk pn b ct sm) 26)) (.cells (entC kd' tx' ix' pk' pn' b' ct' sm') 26)
    rw [show (w.alloc (.cells (entC kd tx ix pk pn b ct sm) 26)).heap.size = w.heap.size + 1 by simp] at h
    exact h)
  have a1 : decide ((300 : Int) < (b.size : Int)) = false := by simp; omega
  have a2 : decide (300 < b.size) = false := by simp; omega
  have a3 : ¬ 300 < b.size := by omega
  have c1 : decide ((300 : Int) < (b'.size : Int)) = false := by simp; omega
  have c2 : decide (300 < b'.size) = false := by simp; omega
  have c3 : ¬ 300 < b'.size := by omega
  have heq := fun V => (eql26 kd tx ix pk pn b ct sm kd' tx' ix' pk' pn' b' ct' sm' V).trans (by rw [hB])
  clear hB
  go_enter Tryd.func7, Tryd.ntmps7
  go_wp2_with fail
  refine (own_ok kd tx ix pk pn ct sm b _).mono ?_
  rintro e w1 ⟨rfl, hb⟩
  have HB1 := hid (HB0.out.trans (hb.mono HB0.out.size))
  have HX1 := hid ((hb.block w.heap.size (Array.getElem?_eq_some_iff.1 HX0.out).1).trans HX0.out)
  have HY1 := hid ((hb.block (w.heap.size + 1) (Array.getElem?_eq_some_iff.1 HY0.out).1).trans HY0.out)
  clear hb HB0 HX0 HY0
  go_wp2_with fail
  refine (HE.out _ (HL.out.next HP.out HB1.out)).mono ?_
  rintro e w2 ⟨rfl, hb⟩
  have HB2 := hid (HB1.out.trans (hb.mono HB1.out.size))
  have HX2 := hid ((hb.block w.heap.size (Array.getElem?_eq_some_iff.1 HX1.out).1).trans HX1.out)
  have HY2 := hid ((hb.block (w.heap.size + 1) (Array.getElem?_eq_some_iff.1 HY1.out).1).trans HY1.out)
  clear hb HB1 HX1 HY1
  obtain ⟨q0, q1, q2, q3, q4, q5, q6, q7⟩ := ent_at HY2.out
  go_wp2_with fail
  refine (own_ok kd' tx' ix' pk' pn' ct' sm' b' _).mono ?_
  rintro e w3 ⟨rfl, hb⟩
  have HB3 := hid (HB2.out.trans (hb.mono HB2.out.size))
  have HX3 := hid ((hb.block w.heap.size (Array.getElem?_eq_some_iff.1 HX2.out).1).trans HX2.out)
  have HY3 := hid ((hb.block (w.heap.size + 1) (Array.getElem?_eq_some_iff.1 HY2.out).1).trans HY2.out)
  clear hb HB2 HX2 HY2
  go_wp2_with fail
  refine (HG.out _ (HL.out.next HP.out HB3.out)).mono ?_
  rintro e w4 ⟨rfl, hb⟩
  have HB4 := hid (HB3.out.trans (hb.mono HB3.out.size))
  have HX4 := hid ((hb.block w.heap.size (Array.getElem?_eq_some_iff.1 HX3.out).1).trans HX3.out)
  have HY4 := hid ((hb.block (w.heap.size + 1) (Array.getElem?_eq_some_iff.1 HY3.out).1).trans HY3.out)
  clear hb HB3 HX3 HY3
  clear q0 q1 q2 q3 q4 q5 q6 q7
  obtain ⟨p0, p1, p2, p3, p4, p5, p6, p7⟩ := ent_at HX4.out
  obtain ⟨q0, q1, q2, q3, q4, q5, q6, q7⟩ := ent_at HY4.out
  go_wp2_with fail
  refine (live_any _ (HL.out.next HP.out HB4.out)).mono ?_
  rintro e v1 ⟨rfl, hb⟩
  have HB9 := hid (HB4.out.trans (hb.mono HB4.out.size))
  clear hb
  go_wp2_with fail
  go_ret
  exact ⟨rfl, HB9.out⟩
theorem EntryApart_walk (v v' : Value) (w : World) (h : EnV w v) (h' : EnV w v') (hL : Lst w) :
    Calls Tryd.prog 7 #[v, v'] w fun e w' => e = .returned (.bool true) ∧ Below w.heap.size w w' := by
  obtain ⟨⟨kd, tx, ix, pk, pn, b, ct, sm⟩, rfl, hd⟩ := h
  obtain ⟨⟨kd', tx', ix', pk', pn', b', ct', sm'⟩, rfl, hd'⟩ := h'
  have hE := fun (V : World) (hV : Lst V) => encode_any kd tx ix pk pn b ct sm V hV hd.f1.2 (by omega) (by have := hd.f5; show (sm : Int) < _; have h2 : sm < 4294967296 := this; omega)
  have hG := fun (V : World) (hV : Lst V) => encode_any kd' tx' ix' pk' pn' b' ct' sm' V hV hd'.f1.2 (by omega) (by have := hd'.f5; show (sm' : Int) < _; have h2 : sm' < 4294967296 := this; omega)
  have l1 : (sm : Int) < 4294967296 := by have h2 : sm < 4294967296 := hd.f5; omega
  have l2 : (sm' : Int) < 4294967296 := by have h2 : sm' < 4294967296 := hd'.f5; omega
  by_cases g1 : b.size ≤ 300
  · by_cases g2 : b'.size ≤ 300
    · by_cases m1 : mayE kd tx ix pk pn b ct sm
      · by_cases m2 : mayE kd' tx' ix' pk' pn' b' ct' sm'
        · have hA := apart (by omega) l1 (by omega) l2 m1 m2
          rw [show (encR kd tx ix pk pn b ct sm).2 = 0 by rw [encR_yes m1]] at hE
          rw [show (encR kd' tx' ix' pk' pn' b' ct' sm').2 = 0 by rw [encR_yes m2]] at hG
          exact apa_yes kd tx ix pk pn b ct sm kd' tx' ix' pk' pn' b' ct' sm' w hL g1 g2 _ _ _ hA rfl hE hG
        · rw [show (encR kd tx ix pk pn b ct sm).2 = 0 by rw [encR_yes m1]] at hE
          rw [show (encR kd' tx' ix' pk' pn' b' ct' sm').2 = 1 by rw [encR_no m2]] at hG
          exact apa_no2 kd tx ix pk pn b ct sm kd' tx' ix' pk' pn' b' ct' sm' w hL g1 g2 _ _ hE hG
      · rw [show (encR kd tx ix pk pn b ct sm).2 = 1 by rw [encR_no m1]] at hE
        exact apa_no1 kd tx ix pk pn b ct sm kd' tx' ix' pk' pn' b' ct' sm' w hL g1 g2 _ _ _ hE hG
    · exact apa_far2 kd tx ix pk pn b ct sm kd' tx' ix' pk' pn' b' ct' sm' w hL g1 (by omega)
  · exact apa_far1 kd tx ix pk pn b ct sm kd' tx' ix' pk' pn' b' ct' sm' w hL (by omega)
theorem EntryApart_open0 {H : Type} {enc : TypeId × Value → H} {W : World} {base : Nat} {v : Value} {d : DataW H} {p : List MemPlace} (hv : Value.okWide Tryd.prog W .any base 26 v) (h : DataW.Trod enc Tryd.prog W 0 (fun _ => true) true 26 v d p) : EnV W v := open_En hv h
theorem EntryApart_open1 {H : Type} {enc : TypeId × Value → H} {W : World} {base : Nat} {v : Value} {d : DataW H} {p : List MemPlace} (hv : Value.okWide Tryd.prog W .any base 26 v) (h : DataW.Trod enc Tryd.prog W 0 (fun _ => true) true 26 v d p) : EnV W v := open_En hv h
end Go.Proofs.YtigaddpjmgncmaaDoor.En
