/- The document's own Encode, whatever entry it is asked for. -/
import Derived.Test.YtigaddpjmgncmaaDoorEnWide
import Derived.Test.YtigaddpjmgncmaaDoorEnRefC
import Derived.Test.YtigaddpjmgncmaaDoorEnDec
namespace Go.Proofs.YtigaddpjmgncmaaDoor.En
open Go.RowKit
open Go.Lib (hid)
open Go.Proofs.YtigaddpjmgncmaaDoor.Fd (be be_length num getAt)

theorem join_list (a b : List UInt8) : (⟨a.toArray⟩ : ByteArray) ++ (⟨b.toArray⟩ : ByteArray) = ⟨(a ++ b).toArray⟩ := by
  apply ByteArray.ext; simp
theorem join_bytes (a : List UInt8) (b : ByteArray) : (⟨a.toArray⟩ : ByteArray) ++ b = ⟨(a ++ b.data.toList).toArray⟩ := by
  apply ByteArray.ext; simp
theorem refenc_no (kd tx ix pk pn ct sm : Int) (b : ByteArray) (w : World) (h : ¬ mayE kd tx ix pk pn b ct sm) :
    Calls Tryd.prog 11 #[.agg (entC kd tx ix pk pn b ct sm)] w fun e w' => e = .returned (.tuple #[.string ⟨#[]⟩, .int .i64 1]) ∧ Below w.heap.size w w' := by
  have HC := hid fun (V : World) => refcheck_no kd tx ix pk pn ct sm b V h
  clear h
  go_enter Tryd.func11, Tryd.ntmps11
  go_wp2_with fail
  refine (HC.out _).mono ?_
  rintro e w1 ⟨rfl, hb⟩
  have HB := hid (((Below.refl w.heap.size w).alloc (Nat.le_refl _) _).trans (hb.mono (by simp)))
  clear hb
  go_wp2_with fail
  go_ret2
  exact ⟨rfl, HB.out⟩
set_option maxRecDepth 100000 in
set_option maxHeartbeats 4000000 in
theorem refenc_abort (tx ix : Nat) (w : World) (h : mayE 3 tx ix 0 0 ⟨#[]⟩ 0 0) :
    Calls Tryd.prog 11 #[.agg (entC 3 tx ix 0 0 ⟨#[]⟩ 0 0)] w fun e w' => e = .returned (.tuple #[.string ⟨(encE 3 tx ix 0 0 [] 0 0).toArray⟩, .int .i64 0]) ∧ Below w.heap.size w w' := by
  have HC := hid fun (V : World) => refcheck_yes 3 tx ix 0 0 0 0 ⟨#[]⟩ V h
  obtain ⟨h1, h2, h3, h4, hr⟩ := h
  obtain ⟨sa, hsa⟩ : ∃ s, (⟨(be 1 3).toArray⟩ : ByteArray) = s := ⟨_, rfl⟩
  have HWa := hid fun (V : World) => (show Calls Tryd.prog 23 #[.int .i64 3, .int .i64 1] V fun e w' => e = .returned (.string sa) ∧ Below V.heap.size V w' by have h2 := wide_any 3 1 V (by decide) (by decide); rw [hsa] at h2; exact h2)
  have za : sa.size = 1 := by rw [← hsa]; exact be_length 1 3
  obtain ⟨sb, hsb⟩ : ∃ s, (⟨(be 4 tx).toArray⟩ : ByteArray) = s := ⟨_, rfl⟩
  have HWb := hid fun (V : World) => (show Calls Tryd.prog 23 #[.int .i64 (tx : Int), .int .i64 4] V fun e w' => e = .returned (.string sb) ∧ Below V.heap.size V w' by have h2 := wide_any tx 4 V (by omega) (by decide); rw [hsb] at h2; exact h2)
  have zb : sb.size = 4 := by rw [← hsb]; exact be_length 4 tx
  obtain ⟨sc, hsc⟩ : ∃ s, (⟨(be 2 ix).toArray⟩ : ByteArray) = s := ⟨_, rfl⟩
  have HWc := hid fun (V : World) => (show Calls Tryd.prog 23 #[.int .i64 (ix : Int), .int .i64 2] V fun e w' => e = .returned (.string sc) ∧ Below V.heap.size V w' by have h2 := wide_any ix 2 V (by omega) (by decide); rw [hsc] at h2; exact h2)
  have zc : sc.size = 2 := by rw [← hsc]; exact be_length 2 ix
  have r0sb : ∀ V : World, (Op.stringOp .add (sa) sb).run Tryd.prog V = .ok (.string (sa ++ sb)) V := fun V => run_string_add_sum V (sa) sb (by (try simp only [ByteArray.size_append]); omega)
  have j0sb : ¬ (9223372036854775807 < sa.size + sb.size) := by omega
  have k0sb : sa.size + sb.size ≤ 9223372036854775807 := by omega
  have r1sc : ∀ V : World, (Op.stringOp .add (sa ++ sb) sc).run Tryd.prog V = .ok (.string (sa ++ sb ++ sc)) V := fun V => run_string_add_sum V (sa ++ sb) sc (by (try simp only [ByteArray.size_append]); omega)
  have j1sc : ¬ (9223372036854775807 < sa.size + sb.size + sc.size) := by omega
  have k1sc : sa.size + sb.size + sc.size ≤ 9223372036854775807 := by omega
  have HSS := hid (show sa ++ sb ++ sc = ⟨(encE 3 tx ix 0 0 [] 0 0).toArray⟩ by rw [← hsa, ← hsb, ← hsc, join_list, join_list]; simp [encE, headE])
  clear hsa hsb hsc za zb zc
  clear hr
  go_enter Tryd.func11, Tryd.ntmps11
  go_wp2_with fail
  refine (HC.out _).mono ?_
  rintro e w1 ⟨rfl, hb⟩
  have HB := hid (((Below.refl w.heap.size w).alloc (Nat.le_refl _) _).trans (hb.mono (by simp)))
  have HD := hid fun (V : World) (hv : Below w1.heap.size w1 V) => ent_at ((hv.block w.heap.size (by have := hb.size; simp at this; omega)).trans ((hb.block w.heap.size (by simp)).trans (heap_alloc_new _ _)))
  have HB0 := hid (Below.refl w1.heap.size w1).drew
  have y0 := HD.out _ HB0.out
  have x0 := HD.out _ (Below.refl w1.heap.size w1)
  clear hb
  go_wp2_with fail
  go_region_held3 (fun V => V.cell? ⟨w.heap.size, 0, none⟩ = some (.int .i64 3) ∧ V.cell? ⟨w.heap.size, 1, none⟩ = some (.int .i64 (tx : Int)) ∧ V.cell? ⟨w.heap.size, 2, none⟩ = some (.int .i64 (ix : Int))) (first | exact ⟨x0.1, x0.2.1, x0.2.2.1⟩ | exact ⟨y0.1, y0.2.1, y0.2.2.1⟩ | exact ⟨y1.1, y1.2.1, y1.2.2.1⟩ | exact ⟨y2.1, y2.2.1, y2.2.2.1⟩ | exact ⟨y3.1, y3.2.1, y3.2.2.1⟩ | go_keep)
    (first
      | (go_at_call 23; with_reducible refine (HWa.out _).mono ?_; rintro e v1 ⟨rfl, hb⟩; have HB1 := hid (HB0.out.trans (hb.mono HB0.out.size)); have y1 := HD.out _ HB1.out; clear hb)
      | (go_at_call 23; with_reducible refine (HWb.out _).mono ?_; rintro e v2 ⟨rfl, hb⟩; have HB2 := hid (HB1.out.trans (hb.mono HB1.out.size)); have y2 := HD.out _ HB2.out; clear hb)
      | (go_at_call 23; with_reducible refine (HWc.out _).mono ?_; rintro e v3 ⟨rfl, hb⟩; have HB3 := hid (HB2.out.trans (hb.mono HB2.out.size)); have y3 := HD.out _ HB3.out; clear hb)
      | fail)
  obtain ⟨c0, -, -, c3, c4, c5, c6, c7⟩ := y3
  clear y0 y1 y2 x0
  go_wp2_with fail
  go_ret2
  exact ⟨by rw [HSS.out]; rfl, HB.out.trans (HB3.out.mono HB.out.size)⟩
set_option maxRecDepth 100000 in
set_option maxHeartbeats 4000000 in
theorem refenc_stage (tx ix pk pn : Nat) (b : ByteArray) (w : World) (h : mayE 1 tx ix pk pn b 0 0) :
    Calls Tryd.prog 11 #[.agg (entC 1 tx ix pk pn b 0 0)] w fun e w' => e = .returned (.tuple #[.string ⟨(encE 1 tx ix pk pn b.data.toList 0 0).toArray⟩, .int .i64 0]) ∧ Below w.heap.size w w' := by
  have HC := hid fun (V : World) => refcheck_yes 1 tx ix pk pn 0 0 b V h
  obtain ⟨h1, h2, h3, h4, hr⟩ := h
  have hst : mayS pk pn b := by rcases hr with hr | hr | hr; exact hr.2.1; exact absurd hr.1 (by decide); exact absurd hr.1 (by decide)
  obtain ⟨-, -, hk5, -, hn9, hb2⟩ := hst
  obtain ⟨sa, hsa⟩ : ∃ s, (⟨(be 1 1).toArray⟩ : ByteArray) = s := ⟨_, rfl⟩
  have HWa := hid fun (V : World) => (show Calls Tryd.prog 23 #[.int .i64 1, .int .i64 1] V fun e w' => e = .returned (.string sa) ∧ Below V.heap.size V w' by have h2 := wide_any 1 1 V (by decide) (by decide); rw [hsa] at h2; exact h2)
  have za : sa.size = 1 := by rw [← hsa]; exact be_length 1 1
  obtain ⟨sb, hsb⟩ : ∃ s, (⟨(be 4 tx).toArray⟩ : ByteArray) = s := ⟨_, rfl⟩
  have HWb := hid fun (V : World) => (show Calls Tryd.prog 23 #[.int .i64 (tx : Int), .int .i64 4] V fun e w' => e = .returned (.string sb) ∧ Below V.heap.size V w' by have h2 := wide_any tx 4 V (by omega) (by decide); rw [hsb] at h2; exact h2)
  have zb : sb.size = 4 := by rw [← hsb]; exact be_length 4 tx
  obtain ⟨sc, hsc⟩ : ∃ s, (⟨(be 2 ix).toArray⟩ : ByteArray) = s := ⟨_, rfl⟩
  have HWc := hid fun (V : World) => (show Calls Tryd.prog 23 #[.int .i64 (ix : Int), .int .i64 2] V fun e w' => e = .returned (.string sc) ∧ Below V.heap.size V w' by have h2 := wide_any ix 2 V (by omega) (by decide); rw [hsc] at h2; exact h2)
  have zc : sc.size = 2 := by rw [← hsc]; exact be_length 2 ix
  obtain ⟨sd, hsd⟩ : ∃ s, (⟨(be 1 pk).toArray⟩ : ByteArray) = s := ⟨_, rfl⟩
  have HWd := hid fun (V : World) => (show Calls Tryd.prog 23 #[.int .i64 (pk : Int), .int .i64 1] V fun e w' => e = .returned (.string sd) ∧ Below V.heap.size V w' by have h2 := wide_any pk 1 V (by omega) (by decide); rw [hsd] at h2; exact h2)
  have zd : sd.size = 1 := by rw [← hsd]; exact be_length 1 pk
  obtain ⟨se, hse⟩ : ∃ s, (⟨(be 2 pn).toArray⟩ : ByteArray) = s := ⟨_, rfl⟩
  have HWe := hid fun (V : World) => (show Calls Tryd.prog 23 #[.int .i64 (pn : Int), .int .i64 2] V fun e w' => e = .returned (.string se) ∧ Below V.heap.size V w' by have h2 := wide_any pn 2 V (by omega) (by decide); rw [hse] at h2; exact h2)
  have ze : se.size = 2 := by rw [← hse]; exact be_length 2 pn
  have r0sb : ∀ V : World, (Op.stringOp .add (sa) sb).run Tryd.prog V = .ok (.string (sa ++ sb)) V := fun V => run_string_add_sum V (sa) sb (by (try simp only [ByteArray.size_append]); omega)
  have j0sb : ¬ (9223372036854775807 < sa.size + sb.size) := by omega
  have k0sb : sa.size + sb.size ≤ 9223372036854775807 := by omega
  have r1sc : ∀ V : World, (Op.stringOp .add (sa ++ sb) sc).run Tryd.prog V = .ok (.string (sa ++ sb ++ sc)) V := fun V => run_string_add_sum V (sa ++ sb) sc (by (try simp only [ByteArray.size_append]); omega)
  have j1sc : ¬ (9223372036854775807 < sa.size + sb.size + sc.size) := by omega
  have k1sc : sa.size + sb.size + sc.size ≤ 9223372036854775807 := by omega
  have r2sd : ∀ V : World, (Op.stringOp .add (sa ++ sb ++ sc) sd).run Tryd.prog V = .ok (.string (sa ++ sb ++ sc ++ sd)) V := fun V => run_string_add_sum V (sa ++ sb ++ sc) sd (by (try simp only [ByteArray.size_append]); omega)
  have j2sd : ¬ (9223372036854775807 < sa.size + sb.size + sc.size + sd.size) := by omega
  have k2sd : sa.size + sb.size + sc.size + sd.size ≤ 9223372036854775807 := by omega
  have r3se : ∀ V : World, (Op.stringOp .add (sa ++ sb ++ sc ++ sd) se).run Tryd.prog V = .ok (.string (sa ++ sb ++ sc ++ sd ++ se)) V := fun V => run_string_add_sum V (sa ++ sb ++ sc ++ sd) se (by (try simp only [ByteArray.size_append]); omega)
  have j3se : ¬ (9223372036854775807 < sa.size + sb.size + sc.size + sd.size + se.size) := by omega
  have k3se : sa.size + sb.size + sc.size + sd.size + se.size ≤ 9223372036854775807 := by omega
  have r4b : ∀ V : World, (Op.stringOp .add (sa ++ sb ++ sc ++ sd ++ se) b).run Tryd.prog V = .ok (.string (sa ++ sb ++ sc ++ sd ++ se ++ b)) V := fun V => run_string_add_sum V (sa ++ sb ++ sc ++ sd ++ se) b (by (try simp only [ByteArray.size_append]); omega)
  have j4b : ¬ (9223372036854775807 < sa.size + sb.size + sc.size + sd.size + se.size + b.size) := by omega
  have k4b : sa.size + sb.size + sc.size + sd.size + se.size + b.size ≤ 9223372036854775807 := by omega
  have HSS := hid (show sa ++ sb ++ sc ++ sd ++ se ++ b = ⟨(encE 1 tx ix pk pn b.data.toList 0 0).toArray⟩ by rw [← hsa, ← hsb, ← hsc, ← hsd, ← hse, join_list, join_list, join_list, join_list, join_bytes]; simp [encE, headE])
  clear hsa hsb hsc hsd hse za zb zc zd ze hb2
  clear hr
  go_enter Tryd.func11, Tryd.ntmps11
  go_wp2_with fail
  refine (HC.out _).mono ?_
  rintro e w1 ⟨rfl, hb⟩
  have HB := hid (((Below.refl w.heap.size w).alloc (Nat.le_refl _) _).trans (hb.mono (by simp)))
  have HD := hid fun (V : World) (hv : Below w1.heap.size w1 V) => ent_at ((hv.block w.heap.size (by have := hb.size; simp at this; omega)).trans ((hb.block w.heap.size (by simp)).trans (heap_alloc_new _ _)))
  have HB0 := hid (Below.refl w1.heap.size w1).drew
  have y0 := HD.out _ HB0.out
  have x0 := HD.out _ (Below.refl w1.heap.size w1)
  clear hb
  go_wp2_with fail
  go_region_held3 (fun V => V.cell? ⟨w.heap.size, 0, none⟩ = some (.int .i64 1) ∧ V.cell? ⟨w.heap.size, 1, none⟩ = some (.int .i64 (tx : Int)) ∧ V.cell? ⟨w.heap.size, 2, none⟩ = some (.int .i64 (ix : Int))) (first | exact ⟨x0.1, x0.2.1, x0.2.2.1⟩ | exact ⟨y0.1, y0.2.1, y0.2.2.1⟩ | exact ⟨y1.1, y1.2.1, y1.2.2.1⟩ | exact ⟨y2.1, y2.2.1, y2.2.2.1⟩ | exact ⟨y3.1, y3.2.1, y3.2.2.1⟩ | go_keep)
    (first
      | (go_at_call 23; with_reducible refine (HWa.out _).mono ?_; rintro e v1 ⟨rfl, hb⟩; have HB1 := hid (HB0.out.trans (hb.mono HB0.out.size)); have y1 := HD.out _ HB1.out; clear hb)
      | (go_at_call 23; with_reducible refine (HWb.out _).mono ?_; rintro e v2 ⟨rfl, hb⟩; have HB2 := hid (HB1.out.trans (hb.mono HB1.out.size)); have y2 := HD.out _ HB2.out; clear hb)
      | (go_at_call 23; with_reducible refine (HWc.out _).mono ?_; rintro e v3 ⟨rfl, hb⟩; have HB3 := hid (HB2.out.trans (hb.mono HB2.out.size)); have y3 := HD.out _ HB3.out; clear hb)
      | fail)
  obtain ⟨c0, c1, c2, c3, c4, c5, c6, c7⟩ := y3
  have HB4 := hid HB3.out.drew
  have x4 := HD.out _ HB3.out
  have y4 := HD.out _ HB4.out
  clear y0 y1 y2 x0
  go_wp2_with fail
  go_region_held3 (fun V => V.cell? ⟨w.heap.size, 3, none⟩ = some (.int .i64 (pk : Int)) ∧ V.cell? ⟨w.heap.size, 4, none⟩ = some (.int .i64 (pn : Int)) ∧ V.cell? ⟨w.heap.size, 5, none⟩ = some (.string b)) (first | exact ⟨x4.2.2.2.1, x4.2.2.2.2.1, x4.2.2.2.2.2.1⟩ | exact ⟨y4.2.2.2.1, y4.2.2.2.2.1, y4.2.2.2.2.2.1⟩ | exact ⟨y5.2.2.2.1, y5.2.2.2.2.1, y5.2.2.2.2.2.1⟩ | exact ⟨y6.2.2.2.1, y6.2.2.2.2.1, y6.2.2.2.2.2.1⟩ | go_keep)
    (first
      | (go_at_call 23; with_reducible refine (HWd.out _).mono ?_; rintro e v5 ⟨rfl, hb⟩; have HB5 := hid (HB4.out.trans (hb.mono HB4.out.size)); have y5 := HD.out _ HB5.out; clear hb)
      | (go_at_call 23; with_reducible refine (HWe.out _).mono ?_; rintro e v6 ⟨rfl, hb⟩; have HB6 := hid (HB5.out.trans (hb.mono HB5.out.size)); have y6 := HD.out _ HB6.out; clear hb)
      | fail)
  obtain ⟨f0, -, -, f3, f4, f5, f6, f7⟩ := y6
  clear y4 y5 x4 c0 c1 c2 c3 c4 c5 c6 c7
  go_wp2_with fail
  go_ret2
  exact ⟨by rw [HSS.out]; rfl, HB.out.trans (HB6.out.mono HB.out.size)⟩
set_option maxRecDepth 100000 in
set_option maxHeartbeats 4000000 in
theorem refenc_commit (tx ix ct sm : Nat) (hsm : sm < 4294967296) (w : World) (h : mayE 2 tx ix 0 0 ⟨#[]⟩ ct sm) :
    Calls Tryd.prog 11 #[.agg (entC 2 tx ix 0 0 ⟨#[]⟩ ct sm)] w fun e w' => e = .returned (.tuple #[.string ⟨(encE 2 tx ix 0 0 [] ct sm).toArray⟩, .int .i64 0]) ∧ Below w.heap.size w w' := by
  have HC := hid fun (V : World) => refcheck_yes 2 tx ix 0 0 ct sm ⟨#[]⟩ V h
  obtain ⟨h1, h2, h3, h4, hr⟩ := h
  have hct : (ct : Int) ≤ 999 := by rcases hr with hr | hr | hr; exact absurd hr.1 (by decide); (have := hr.2; omega); exact absurd hr.1 (by decide)
  obtain ⟨sa, hsa⟩ : ∃ s, (⟨(be 1 2).toArray⟩ : ByteArray) = s := ⟨_, rfl⟩
  have HWa := hid fun (V : World) => (show Calls Tryd.prog 23 #[.int .i64 2, .int .i64 1] V fun e w' => e = .returned (.string sa) ∧ Below V.heap.size V w' by have h2 := wide_any 2 1 V (by decide) (by decide); rw [hsa] at h2; exact h2)
  have za : sa.size = 1 := by rw [← hsa]; exact be_length 1 2
  obtain ⟨sb, hsb⟩ : ∃ s, (⟨(be 4 tx).toArray⟩ : ByteArray) = s := ⟨_, rfl⟩
  have HWb := hid fun (V : World) => (show Calls Tryd.prog 23 #[.int .i64 (tx : Int), .int .i64 4] V fun e w' => e = .returned (.string sb) ∧ Below V.heap.size V w' by have h2 := wide_any tx 4 V (by omega) (by decide); rw [hsb] at h2; exact h2)
  have zb : sb.size = 4 := by rw [← hsb]; exact be_length 4 tx
  obtain ⟨sc, hsc⟩ : ∃ s, (⟨(be 2 ix).toArray⟩ : ByteArray) = s := ⟨_, rfl⟩
  have HWc := hid fun (V : World) => (show Calls Tryd.prog 23 #[.int .i64 (ix : Int), .int .i64 2] V fun e w' => e = .returned (.string sc) ∧ Below V.heap.size V w' by have h2 := wide_any ix 2 V (by omega) (by decide); rw [hsc] at h2; exact h2)
  have zc : sc.size = 2 := by rw [← hsc]; exact be_length 2 ix
  obtain ⟨sd, hsd⟩ : ∃ s, (⟨(be 2 ct).toArray⟩ : ByteArray) = s := ⟨_, rfl⟩
  have HWd := hid fun (V : World) => (show Calls Tryd.prog 23 #[.int .i64 (ct : Int), .int .i64 2] V fun e w' => e = .returned (.string sd) ∧ Below V.heap.size V w' by have h2 := wide_any ct 2 V (by omega) (by decide); rw [hsd] at h2; exact h2)
  have zd : sd.size = 2 := by rw [← hsd]; exact be_length 2 ct
  obtain ⟨se, hse⟩ : ∃ s, (⟨(be 4 sm).toArray⟩ : ByteArray) = s := ⟨_, rfl⟩
  have HWe := hid fun (V : World) => (show Calls Tryd.prog 23 #[.int .i64 (IntKind.i64.wrap (sm : Int)), .int .i64 4] V fun e w' => e = .returned (.string se) ∧ Below V.heap.size V w' by have h2 := wide_any sm 4 V (by omega) (by decide); rw [hse] at h2; rw [Go.IntWalk.i64_in _ (by omega)]; exact h2)
  have ze : se.size = 4 := by rw [← hse]; exact be_length 4 sm
  have r0sb : ∀ V : World, (Op.stringOp .add (sa) sb).run Tryd.prog V = .ok (.string (sa ++ sb)) V := fun V => run_string_add_sum V (sa) sb (by (try simp only [ByteArray.size_append]); omega)
  have j0sb : ¬ (9223372036854775807 < sa.size + sb.size) := by omega
  have k0sb : sa.size + sb.size ≤ 9223372036854775807 := by omega
  have r1sc : ∀ V : World, (Op.stringOp .add (sa ++ sb) sc).run Tryd.prog V = .ok (.string (sa ++ sb ++ sc)) V := fun V => run_string_add_sum V (sa ++ sb) sc (by (try simp only [ByteArray.size_append]); omega)
  have j1sc : ¬ (9223372036854775807 < sa.size + sb.size + sc.size) := by omega
  have k1sc : sa.size + sb.size + sc.size ≤ 9223372036854775807 := by omega
  have r2sd : ∀ V : World, (Op.stringOp .add (sa ++ sb ++ sc) sd).run Tryd.prog V = .ok (.string (sa ++ sb ++ sc ++ sd)) V := fun V => run_string_add_sum V (sa ++ sb ++ sc) sd (by (try simp only [ByteArray.size_append]); omega)
  have j2sd : ¬ (9223372036854775807 < sa.size + sb.size + sc.size + sd.size) := by omega
  have k2sd : sa.size + sb.size + sc.size + sd.size ≤ 9223372036854775807 := by omega
  have r3se : ∀ V : World, (Op.stringOp .add (sa ++ sb ++ sc ++ sd) se).run Tryd.prog V = .ok (.string (sa ++ sb ++ sc ++ sd ++ se)) V := fun V => run_string_add_sum V (sa ++ sb ++ sc ++ sd) se (by (try simp only [ByteArray.size_append]); omega)
  have j3se : ¬ (9223372036854775807 < sa.size + sb.size + sc.size + sd.size + se.size) := by omega
  have k3se : sa.size + sb.size + sc.size + sd.size + se.size ≤ 9223372036854775807 := by omega
  have HSS := hid (show sa ++ sb ++ sc ++ sd ++ se = ⟨(encE 2 tx ix 0 0 [] ct sm).toArray⟩ by rw [← hsa, ← hsb, ← hsc, ← hsd, ← hse, join_list, join_list, join_list, join_list]; simp [encE, headE])
  have e1 : wrap64 (sm : Int) = (sm : Int) := by unfold wrap64; omega
  clear hsa hsb hsc hsd hse za zb zc zd ze
  clear hr
  go_enter Tryd.func11, Tryd.ntmps11
  go_wp2_with fail
  refine (HC.out _).mono ?_
  rintro e w1 ⟨rfl, hb⟩
  have HB := hid (((Below.refl w.heap.size w).alloc (Nat.le_refl _) _).trans (hb.mono (by simp)))
  have HD := hid fun (V : World) (hv : Below w1.heap.size w1 V) => ent_at ((hv.block w.heap.size (by have := hb.size; simp at this; omega)).trans ((hb.block w.heap.size (by simp)).trans (heap_alloc_new _ _)))
  have HB0 := hid (Below.refl w1.heap.size w1).drew
  have y0 := HD.out _ HB0.out
  have x0 := HD.out _ (Below.refl w1.heap.size w1)
  clear hb
  go_wp2_with fail
  go_region_held3 (fun V => V.cell? ⟨w.heap.size, 0, none⟩ = some (.int .i64 2) ∧ V.cell? ⟨w.heap.size, 1, none⟩ = some (.int .i64 (tx : Int)) ∧ V.cell? ⟨w.heap.size, 2, none⟩ = some (.int .i64 (ix : Int))) (first | exact ⟨x0.1, x0.2.1, x0.2.2.1⟩ | exact ⟨y0.1, y0.2.1, y0.2.2.1⟩ | exact ⟨y1.1, y1.2.1, y1.2.2.1⟩ | exact ⟨y2.1, y2.2.1, y2.2.2.1⟩ | exact ⟨y3.1, y3.2.1, y3.2.2.1⟩ | go_keep)
    (first
      | (go_at_call 23; with_reducible refine (HWa.out _).mono ?_; rintro e v1 ⟨rfl, hb⟩; have HB1 := hid (HB0.out.trans (hb.mono HB0.out.size)); have y1 := HD.out _ HB1.out; clear hb)
      | (go_at_call 23; with_reducible refine (HWb.out _).mono ?_; rintro e v2 ⟨rfl, hb⟩; have HB2 := hid (HB1.out.trans (hb.mono HB1.out.size)); have y2 := HD.out _ HB2.out; clear hb)
      | (go_at_call 23; with_reducible refine (HWc.out _).mono ?_; rintro e v3 ⟨rfl, hb⟩; have HB3 := hid (HB2.out.trans (hb.mono HB2.out.size)); have y3 := HD.out _ HB3.out; clear hb)
      | fail)
  obtain ⟨c0, c1, c2, c3, c4, c5, c6, c7⟩ := y3
  have HB4 := hid HB3.out.drew
  have x4 := HD.out _ HB3.out
  have y4 := HD.out _ HB4.out
  clear y0 y1 y2 x0
  go_wp2_with fail
  go_region_held3 (fun V => V.cell? ⟨w.heap.size, 6, none⟩ = some (.int .i64 (ct : Int)) ∧ V.cell? ⟨w.heap.size, 7, none⟩ = some (.int .u32 (sm : Int))) (first | exact ⟨x4.2.2.2.2.2.2.1, x4.2.2.2.2.2.2.2⟩ | exact ⟨y4.2.2.2.2.2.2.1, y4.2.2.2.2.2.2.2⟩ | exact ⟨y5.2.2.2.2.2.2.1, y5.2.2.2.2.2.2.2⟩ | exact ⟨y6.2.2.2.2.2.2.1, y6.2.2.2.2.2.2.2⟩ | go_keep)
    (first
      | (go_at_call 23; with_reducible refine (HWd.out _).mono ?_; rintro e v5 ⟨rfl, hb⟩; have HB5 := hid (HB4.out.trans (hb.mono HB4.out.size)); have y5 := HD.out _ HB5.out; clear hb)
      | (go_at_call 23; with_reducible refine (HWe.out _).mono ?_; rintro e v6 ⟨rfl, hb⟩; have HB6 := hid (HB5.out.trans (hb.mono HB5.out.size)); have y6 := HD.out _ HB6.out; clear hb)
      | fail)
  obtain ⟨f0, -, -, f3, f4, f5, f6, f7⟩ := y6
  clear y4 y5 x4 c0 c1 c2 c3 c4 c5 c6 c7
  go_wp2_with fail
  go_ret2
  exact ⟨by rw [HSS.out]; rfl, HB.out.trans (HB6.out.mono HB.out.size)⟩
end Go.Proofs.YtigaddpjmgncmaaDoor.En
