/- SlabNil walked. -/
import Derived.Test.YtpbidpgpehicmaaSlLive2
import Derived.Test.YtpbidpgpehicmaaSlNone
import Derived.Test.YtpbidpgpehicmaaSlOpen
namespace Go.Proofs.Ytpbidpgpehicmaa
open Go.RowKit Go.Shelf
open Go.Lib (hid)
open Go.ChangeShapes Go.WideShapes Go.Joins
open Go.Proofs.Ytpbidpgpehicmaa.Sl

set_option maxRecDepth 100000 in
set_option maxHeartbeats 1000000 in
theorem shrink_none (d i : Int) (w : World) : Calls Try.prog 14 #[.pointer none, .int .i64 d, .int .i64 i] w fun e w' => e = .returned (.int .i64 1) ∧ Below w.heap.size w w' := by
  obtain ⟨V0, hV0⟩ : ∃ V0, (w.alloc (.cells #[.int .i64 i] 3)).alloc (.cells #[.int .i64 0] 24) = V0 := ⟨_, rfl⟩
  have hB : Below w.heap.size w V0 := by rw [← hV0]; exact (below_alloc w _).alloc (by simp) _
  have hbx : Boxed V0 (w.heap.size + 1) 24 (.int .i64 0) := by
    rw [← hV0]
    have h0 := Boxed.new (w.alloc (.cells #[.int .i64 i] 3)) 24 (.int .i64 0)
    rwa [World.size_alloc] at h0
  have x0 : V0.cell? ⟨w.heap.size, 0, none⟩ = some (.int .i64 i) := by rw [← hV0]; exact ((Boxed.new w _ _).alloc _).cell
  have c1 := hbx.cell
  have f1 := hbx.frozen
  have HBX := hid hbx; have HB := hid hB
  have fin : Hid (∀ n, ((V0.drewN n).setCell ⟨w.heap.size + 1, 0, none⟩ (.int .i64 1)).cell? ⟨w.heap.size + 1, 0, none⟩ = some (.int .i64 1)) := hid fun n => (show Boxed (V0.drewN n) (w.heap.size + 1) 24 (.int .i64 0) from hbx).set (.int .i64 1) |>.cell
  clear hB hbx
  have H1 := hid (has_none d i V0)
  go_enter Try.func14, Try.ntmps14
  go_wp2_with fail
  refine H1.out.mono ?_
  rintro e w1 ⟨rfl, n1, rfl⟩
  go_wp2_with fail
  have hc := fin.out n1
  refine bodyPost_ret (v := .int .i64 1) (by simp [results, Try.results14, go_sem, hc]) rfl ⟨rfl, ?_⟩
  exact (below_drewN HB.out n1).setCell (p := ⟨w.heap.size + 1, 0, none⟩) (by simp) _
set_option maxRecDepth 100000 in
theorem SlabNil_open0 {H : Type} {enc : TypeId × Value → H} {W : World} {base : Nat} {v : Value} {d : DataW H} {p : List MemPlace} (hv : Value.okWide Try.prog W .any base 34 v) (h : DataW.Trod enc Try.prog W 0 (fun _ => true) true 34 v d p) : OpV W v := open_Op hv h
/-- an op in memory as it came in -/
def OpIn (V : World) (o : Nat) (a0 a1 a2 a3 : Int) (p4 : Option Addr) (n4 c4 : Nat) (p5 : Option Addr) (n5 c5 : Nat) : Prop :=
  V.cell? ⟨o, 0, none⟩ = some (.int .i64 a0) ∧ V.cell? ⟨o, 1, none⟩ = some (.int .i64 a1) ∧ V.cell? ⟨o, 2, none⟩ = some (.int .i64 a2) ∧ V.cell? ⟨o, 3, none⟩ = some (.int .i64 a3) ∧ V.cell? ⟨o, 4, none⟩ = some (.slice p4 n4 c4) ∧ V.cell? ⟨o, 5, none⟩ = some (.slice p5 n5 c5)
theorem opIn_alloc (w : World) (a0 a1 a2 a3 : Int) (p4 : Option Addr) (n4 c4 : Nat) (p5 : Option Addr) (n5 c5 : Nat) (V : World) (hV : Below (w.heap.size + 1) (w.alloc (.cells #[.int .i64 a0, .int .i64 a1, .int .i64 a2, .int .i64 a3, .slice p4 n4 c4, .slice p5 n5 c5] 34 (0, 0))) V) : OpIn V w.heap.size a0 a1 a2 a3 p4 n4 c4 p5 n5 c5 := by
  have h := (hV.block w.heap.size (Nat.lt_succ_self _)).trans (heap_alloc_new w _)
  refine ⟨?_, ?_, ?_, ?_, ?_, ?_⟩
  all_goals (rw [cell_of_row _ _ _ _ _ _ h]; rfl)
set_option maxRecDepth 100000 in
set_option maxHeartbeats 8000000 in
theorem SlabNil_walk (vo : Value) (w : World) (ho : OpV w vo) :
    Calls Try.prog 5 #[vo] w fun e w' => e = .returned (.bool true) ∧ Below w.heap.size w w' := by
  obtain ⟨⟨a0, a1, a2, a3, p4, l4, c4, p5, l5, c5⟩, rfl, ho⟩ := ho
  change Calls _ _ #[.agg #[.int .i64 a0, .int .i64 a1, .int .i64 a2, .int .i64 a3, .slice p4 l4.length c4, .slice p5 l5.length c5]] w _
  generalize l4.length = n4 at *
  generalize l5.length = n5 at *
  clear ho
  obtain ⟨V, hV⟩ : ∃ V, w.alloc (.cells #[.int .i64 a0, .int .i64 a1, .int .i64 a2, .int .i64 a3, .slice p4 n4 c4, .slice p5 n5 c5] 34 (0, 0)) = V := ⟨_, rfl⟩
  have HB := hid (show Below w.heap.size w V by rw [← hV]; exact below_alloc w _)
  have HZ := hid (show V.heap.size = w.heap.size + 1 by rw [← hV]; exact World.size_alloc _ _)
  have HST := hid fun (w' : World) (hb : Below V.heap.size V w') => opIn_alloc w a0 a1 a2 a3 p4 n4 c4 p5 n5 c5 w' (by rw [hV, ← HZ.out]; exact hb)
  have HBV := hid fun (w' : World) (hb : Below V.heap.size V w') => HB.out.trans (hb.mono HB.out.size)
  have H0 := hid (Below.refl V.heap.size V)
  obtain ⟨y0, y1, y2, y3, y4, y5⟩ := HST.out _ H0.out
  by_cases h4 : n4 ≤ 20 ∧ n5 ≤ 20
  · have e4 : decide (20 < (n4 : Int)) = false := by simp; omega
    have e5 : decide (20 < (n5 : Int)) = false := by simp; omega
    clear h4
    go_enter Try.func5, Try.ntmps5
    go_wp2_with fail
    refine (new_bad 0 a3 V (by omega)).mono ?_
    rintro e w' ⟨rfl, rfl⟩
    go_wp2_with fail
    refine (Get_none _ _).mono ?_
    rintro e w' ⟨rfl, rfl⟩
    go_wp2_with fail
    refine (Seen_none _ _ _).mono ?_
    rintro e w1 ⟨rfl, hb⟩
    have H1 := hid hb
    clear hb H0 hV y0 y1 y2 y3 y4 y5
    obtain ⟨y0, y1, y2, y3, y4, y5⟩ := HST.out _ H1.out
    go_wp2_with fail
    refine (Place_none _ _).mono ?_
    rintro e w' ⟨rfl, rfl⟩
    go_wp2_with fail
    refine (Fill_none _ _ _ _).mono ?_
    rintro e w2 ⟨rfl, hb⟩
    have H2 := hid (H1.out.trans (hb.mono H1.out.size))
    clear hb H1 y0 y1 y2 y3 y4 y5
    obtain ⟨y0, y1, y2, y3, y4, y5⟩ := HST.out _ H2.out
    go_wp2_with fail
    refine (Grow_none _ _ _).mono ?_
    rintro e w3 ⟨rfl, hb⟩
    have H3 := hid (H2.out.trans (hb.mono H2.out.size))
    clear hb H2 y0 y1 y2 y3 y4 y5
    obtain ⟨y0, y1, y2, y3, y4, y5⟩ := HST.out _ H3.out
    go_wp2_with fail
    refine (shrink_none _ _ _).mono ?_
    rintro e w4 ⟨rfl, hb⟩
    have H4 := hid (H3.out.trans (hb.mono H3.out.size))
    clear hb H3 y0 y1 y2 y3 y4 y5
    go_wp2_with fail
    refine (Sizes_none _).mono ?_
    rintro e w5 ⟨rfl, hb⟩
    have H5 := hid (H4.out.trans (hb.mono H4.out.size))
    clear hb H4
    go_wp2_with fail
    refine (Cells_none _).mono ?_
    rintro e w6 ⟨rfl, hb⟩
    have H6 := hid (H5.out.trans (hb.mono H5.out.size))
    clear hb H5
    go_wp2_with fail
    refine (live_any _).mono ?_
    rintro e w7 ⟨rfl, hb⟩
    have H7 := hid (H6.out.trans (hb.mono H6.out.size))
    clear hb H6
    go_wp2_with fail
    go_ret
    exact ⟨rfl, HBV.out _ H7.out⟩
  · by_cases h4' : n4 ≤ 20
    · have e4 : decide (20 < (n4 : Int)) = false := by simp; omega
      have e5 : decide (20 < (n5 : Int)) = true := by simp; omega
      clear h4 h4'
      go_enter Try.func5, Try.ntmps5
      go_wp2_with fail
      refine (live_any _).mono ?_
      rintro e w7 ⟨rfl, hb⟩
      have H7 := hid hb
      clear hb
      go_wp2_with fail
      go_ret
      exact ⟨rfl, HBV.out _ H7.out⟩
    · have e4 : decide (20 < (n4 : Int)) = true := by simp; omega
      clear h4 h4'
      go_enter Try.func5, Try.ntmps5
      go_wp2_with fail
      refine (live_any _).mono ?_
      rintro e w7 ⟨rfl, hb⟩
      have H7 := hid hb
      clear hb
      go_wp2_with fail
      go_ret
      exact ⟨rfl, HBV.out _ H7.out⟩
end Go.Proofs.Ytpbidpgpehicmaa
