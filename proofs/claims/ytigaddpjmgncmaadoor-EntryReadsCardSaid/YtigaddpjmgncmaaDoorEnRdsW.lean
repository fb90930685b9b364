/- EntryReads walked. -/
import Derived.Test.YtigaddpjmgncmaaDoorEnLiv2
import Derived.Test.YtigaddpjmgncmaaDoorEnOwn
namespace Go.Proofs.YtigaddpjmgncmaaDoor.En
open Go.RowKit
open Go.Lib (hid)
theorem neq_err {a b : Int} (h : a = b) : (a == b) = true := by simp [h]
set_option maxRecDepth 100000 in
set_option maxHeartbeats 4000000 in
theorem EntryReads_walk (s : ByteArray) (w : World) (_ : s.size ≤ maxLen) (hL : Lst w) :
    Calls Tryd.prog 4 #[.string s] w fun e w' => e = .returned (.bool true) ∧ Below w.heap.size w w' := by
  have HL := hid hL
  have HP := hid hL.pos
  clear hL
  by_cases h : s.size ≤ 300
  · obtain ⟨kd, tx, ix, pk, pn, b, ct, sm, c, -, -, hA, hB⟩ := both_any s h
    have HA := hid hA
    have HR := hid hB
    clear hA hB
    have e1 : decide ((300 : Int) < (s.size : Int)) = false := by simp; omega
    have e2 : decide (300 < s.size) = false := by simp; omega
    have e3 : ¬ (300 < s.size) := by omega
    go_enter Tryd.func4, Tryd.ntmps4
    go_wp2_with fail
    refine (HA.out _ HL.out).mono ?_
    rintro e w1 ⟨rfl, hb⟩
    have HB1 := hid hb
    clear hb
    have HB1a := hid (HB1.out.trans (((Below.refl w1.heap.size w1).alloc (Nat.le_refl _) (.cells (entC kd tx ix pk pn b ct sm) 32)).mono HB1.out.size))
    go_wp2_with fail
    refine (HR.out _).mono ?_
    rintro e w2 ⟨rfl, hb⟩
    have HB2 := hid (HB1a.out.trans (hb.mono HB1a.out.size))
    have HT2 := hid ((hb.block w1.heap.size (by simp)).trans (heap_alloc_new _ _))
    clear hb
    have A2 := hid ((Below.refl w2.heap.size w2).alloc (Nat.le_refl _) (.cells (entC kd tx ix pk pn b ct sm) 26))
    have HB3 := hid (HB2.out.trans (A2.out.mono HB2.out.size))
    have HT3 := hid ((A2.out.block w1.heap.size (Array.getElem?_eq_some_iff.1 HT2.out).1).trans HT2.out)
    have HU3 := hid (heap_alloc_new w2 (.cells (entC kd tx ix pk pn b ct sm) 26))
    clear e1 e2 e3 h A2
    go_wp2_with fail
    generalize w2.alloc (.cells (entC kd tx ix pk pn b ct sm) 26) = X at *
    have HD := hid fun (V : World) (hv : Below X.heap.size X V) => (show V.cell? ⟨w1.heap.size, 0, none⟩ = some (.int .i64 kd) ∧ V.cell? ⟨w1.heap.size, 1, none⟩ = some (.int .i64 tx) ∧ V.cell? ⟨w1.heap.size, 2, none⟩ = some (.int .i64 ix) ∧ V.cell? ⟨w1.heap.size, 3, none⟩ = some (.int .i64 pk) ∧ V.cell? ⟨w1.heap.size, 4, none⟩ = some (.int .i64 pn) ∧ V.cell? ⟨w1.heap.size, 5, none⟩ = some (.string b) ∧ V.cell? ⟨w1.heap.size, 6, none⟩ = some (.int .i64 ct) ∧ V.cell? ⟨w1.heap.size, 7, none⟩ = some (.int .u32 sm) ∧ V.cell? ⟨w2.heap.size, 0, none⟩ = some (.int .i64 kd) ∧ V.cell? ⟨w2.heap.size, 1, none⟩ = some (.int .i64 tx) ∧ V.cell? ⟨w2.heap.size, 2, none⟩ = some (.int .i64 ix) ∧ V.cell? ⟨w2.heap.size, 3, none⟩ = some (.int .i64 pk) ∧ V.cell? ⟨w2.heap.size, 4, none⟩ = some (.int .i64 pn) ∧ V.cell? ⟨w2.heap.size, 5, none⟩ = some (.string b) ∧ V.cell? ⟨w2.heap.size, 6, none⟩ = some (.int .i64 ct) ∧ V.cell? ⟨w2.heap.size, 7, none⟩ = some (.int .u32 sm) from by
      obtain ⟨p0, p1, p2, p3, p4, p5, p6, p7⟩ := ent_at ((hv.block w1.heap.size (Array.getElem?_eq_some_iff.1 HT3.out).1).trans HT3.out)
      obtain ⟨q0, q1, q2, q3, q4, q5, q6, q7⟩ := ent_at ((hv.block w2.heap.size (Array.getElem?_eq_some_iff.1 HU3.out).1).trans HU3.out)
      exact ⟨p0, p1, p2, p3, p4, p5, p6, p7, q0, q1, q2, q3, q4, q5, q6, q7⟩)
    have HE := hid (eqr kd tx ix pk pn b ct sm kd tx ix pk pn b ct sm)
    have B0 := hid (Below.refl X.heap.size X).drew
    have y0 := HD.out _ B0.out
    have x0 := HD.out _ (Below.refl X.heap.size X)
    have heq := fun V => (eql26 kd tx ix pk pn b ct sm kd tx ix pk pn b ct sm V).trans (by rw [entB_self])
    go_region_held3 (fun V => V.cell? ⟨w1.heap.size, 0, none⟩ = some (.int .i64 kd) ∧ V.cell? ⟨w1.heap.size, 1, none⟩ = some (.int .i64 tx) ∧ V.cell? ⟨w1.heap.size, 2, none⟩ = some (.int .i64 ix) ∧ V.cell? ⟨w1.heap.size, 3, none⟩ = some (.int .i64 pk) ∧ V.cell? ⟨w1.heap.size, 4, none⟩ = some (.int .i64 pn) ∧ V.cell? ⟨w1.heap.size, 5, none⟩ = some (.string b) ∧ V.cell? ⟨w1.heap.size, 6, none⟩ = some (.int .i64 ct) ∧ V.cell? ⟨w1.heap.size, 7, none⟩ = some (.int .u32 sm) ∧ V.cell? ⟨w2.heap.size, 0, none⟩ = some (.int .i64 kd) ∧ V.cell? ⟨w2.heap.size, 1, none⟩ = some (.int .i64 tx) ∧ V.cell? ⟨w2.heap.size, 2, none⟩ = some (.int .i64 ix) ∧ V.cell? ⟨w2.heap.size, 3, none⟩ = some (.int .i64 pk) ∧ V.cell? ⟨w2.heap.size, 4, none⟩ = some (.int .i64 pn) ∧ V.cell? ⟨w2.heap.size, 5, none⟩ = some (.string b) ∧ V.cell? ⟨w2.heap.size, 6, none⟩ = some (.int .i64 ct) ∧ V.cell? ⟨w2.heap.size, 7, none⟩ = some (.int .u32 sm)) (first | exact x0 | exact y0 | exact y1 | exact y2 | go_keep)
      (first
        | (go_at_call 18; with_reducible refine (told_ok kd tx ix pk pn ct sm b _).mono ?_; rintro e v1 ⟨rfl, hb⟩; have B1 := hid (B0.out.trans (hb.mono B0.out.size)); have y1 := HD.out _ B1.out; clear hb)
        | (go_at_call 8; with_reducible refine (live_any _ (HL.out.next HP.out (HB3.out.trans (B1.out.mono HB3.out.size)))).mono ?_; rintro e v2 ⟨rfl, hb⟩; have B2 := hid (B1.out.trans (hb.mono B1.out.size)); have y2 := HD.out _ B2.out; clear hb)
        | fail)
    have HB9 := hid (HB3.out.trans (B2.out.mono HB3.out.size))
    go_wp2_with fail
    go_ret
    exact ⟨rfl, HB9.out⟩
  · have e1 : decide ((300 : Int) < (s.size : Int)) = true := by simp; omega
    have e2 : decide (300 < s.size) = true := by simp; omega
    have e3 : 300 < s.size := by omega
    go_enter Tryd.func4, Tryd.ntmps4
    go_wp2_with fail
    refine (live_any _ HL.out).mono ?_
    rintro e w1 ⟨rfl, hb⟩
    have HB1 := hid hb
    clear hb
    go_wp2_with fail
    go_ret
    exact ⟨rfl, HB1.out⟩
end Go.Proofs.YtigaddpjmgncmaaDoor.En
