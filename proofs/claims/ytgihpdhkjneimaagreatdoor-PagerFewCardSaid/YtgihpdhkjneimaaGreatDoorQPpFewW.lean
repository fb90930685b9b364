/- PagerFew walked. -/
import Derived.Test.YtgihpdhkjneimaaGreatDoorP21
import Derived.Test.YtgihpdhkjneimaaGreatDoorQPpPg
namespace Go.Proofs.YtgihpdhkjneimaaGreatDoor.Pp
open Go.RowKit
open Go.Lib (hid)
open Go.Proofs.YtgihpdhkjneimaaGreatDoor.Dk
open Go.Proofs.YtgihpdhkjneimaaGreatDoor.Jn
open Go.Proofs.YtgihpdhkjneimaaGreatDoor.En (Lst PageT Pgs mayS)
theorem dnew_bad (n : Int) (w : World) (h : n < 1 ∨ 1000 < n) : Calls Tryz.prog 9 #[.int .i64 n] w fun e w' => e = .returned (.tuple #[.pointer none, .int .i64 1]) ∧ w' = w := (new_bad n w h).mono fun _ _ ⟨h1, h2⟩ => ⟨h1, h2.symm⟩
theorem fmt_counts {s : St} {b n : Nat} (hf : s.fuse = -1) (hn2 : 2 ≤ n) (hn9 : n ≤ 900) (hb2 : 2 ≤ b) (hp : b + n = s.pages.length) (hm : s.pages.length ≤ 1000) : (fmtS s b).writes = s.writes + 2 ∧ (fmtS s b).flushes = s.flushes + 1 := by
  have ok : JOk b n 1 := ⟨hn2, by omega, by omega, by omega, by omega⟩
  have hq : okP s.pages.length (hdP 1 0) := hdP_ok (by omega) 1 0
  have h1 := wrP_counts hf hq
  have h2 := abo_counts (s := (wrP s (hdP 1 0)).2) (wrP_fuse hf) ok (by rw [wrP_len]; omega)
  show (aboS (wrP s (hdP 1 0)).2 b 1).writes = _ ∧ (aboS (wrP s (hdP 1 0)).2 b 1).flushes = _
  rw [h2.1, h2.2, h1.1, h1.2]
  exact ⟨by omega, rfl⟩
/-- the argument, in its box -/
structure CrB (w : World) (g : Nat) (a0 a1 a4 a6 a7 a8 a10 : Int) (p2 p3 p5 p9 : Option Addr) (c2 c3 n5 c5 n9 c9 : Nat) (M0 M : List PageT) : Prop where
  row : w.heap[g]? = some (.cells #[.int .i64 a0, .int .i64 a1, .slice p2 M0.length c2, .slice p3 M.length c3, .int .i64 a4, .slice p5 n5 c5, .int .i64 a6, .int .i64 a7, .int .i64 a8, .slice p9 n9 c9, .int .i64 a10] 63 (0, 0))
  o : Pgs w p2 M0
  l : Pgs w p3 M
section
variable {a0 a1 a4 a6 a7 a8 a10 : Int} {p2 p3 p5 p9 : Option Addr} {c2 c3 n5 c5 n9 c9 : Nat} {M0 M : List PageT} {w w' : World} {g : Nat}
theorem CrB.below (h : CrB w g a0 a1 a4 a6 a7 a8 a10 p2 p3 p5 p9 c2 c3 n5 c5 n9 c9 M0 M) (hb : Below w.heap.size w w') : CrB w' g a0 a1 a4 a6 a7 a8 a10 p2 p3 p5 p9 c2 c3 n5 c5 n9 c9 M0 M :=
  ⟨(hb.block _ (Array.getElem?_eq_some_iff.1 h.row).1).trans h.row, h.o.below hb, h.l.below hb⟩
theorem pgs_dom {w1 w2 : World} {p : Option Addr} {L : List PageT} (h : Pgs w1 p L) (hk : KS (fun j => j < w1.heap.size) w1 w2) : Pgs w2 p L := fun i hi => by
  obtain ⟨b, off, e, hl, c0, c1, c2⟩ := h i hi
  have hb := hk.block b hl hl
  have hc : ∀ j, w2.cell? ⟨b, j, none⟩ = w1.cell? ⟨b, j, none⟩ := fun j => by unfold World.cell?; rw [hb]
  exact ⟨b, off, e, Nat.lt_of_lt_of_le hl hk.size, (hc _).trans c0, (hc _).trans c1, (hc _).trans c2⟩
theorem CrB.ks (h : CrB w g a0 a1 a4 a6 a7 a8 a10 p2 p3 p5 p9 c2 c3 n5 c5 n9 c9 M0 M) (hk : KS (fun j => j < w.heap.size) w w') : CrB w' g a0 a1 a4 a6 a7 a8 a10 p2 p3 p5 p9 c2 c3 n5 c5 n9 c9 M0 M :=
  ⟨(hk.block _ (Array.getElem?_eq_some_iff.1 h.row).1 (Array.getElem?_eq_some_iff.1 h.row).1).trans h.row, pgs_dom h.o hk, pgs_dom h.l hk⟩
theorem CrB.cells (h : CrB w g a0 a1 a4 a6 a7 a8 a10 p2 p3 p5 p9 c2 c3 n5 c5 n9 c9 M0 M) : w.cell? ⟨g, 0, none⟩ = some (.int .i64 a0) ∧ w.cell? ⟨g, 1, none⟩ = some (.int .i64 a1) ∧ w.cell? ⟨g, 2, none⟩ = some (.slice p2 M0.length c2) ∧ w.cell? ⟨g, 3, none⟩ = some (.slice p3 M.length c3) :=
  ⟨by rw [cell_of_row _ _ _ _ _ _ h.row]; rfl, by rw [cell_of_row _ _ _ _ _ _ h.row]; rfl, by rw [cell_of_row _ _ _ _ _ _ h.row]; rfl, by rw [cell_of_row _ _ _ _ _ _ h.row]; rfl⟩
end
set_option maxRecDepth 100000 in
set_option maxHeartbeats 8000000 in
theorem pfew_far (a0 a1 a4 a6 a7 a8 a10 : Int) (p2 p3 p5 p9 : Option Addr) (c2 c3 n5 c5 n9 c9 : Nat) (M0 M : List PageT) (w : World) (hL : Lst w) (h2 : Pgs w p2 M0) (h3 : Pgs w p3 M) (hf : 40 < a0) : Calls Tryz.prog 7 #[.agg #[.int .i64 a0, .int .i64 a1, .slice p2 M0.length c2, .slice p3 M.length c3, .int .i64 a4, .slice p5 n5 c5, .int .i64 a6, .int .i64 a7, .int .i64 a8, .slice p9 n9 c9, .int .i64 a10]] w fun e w' => e = .returned (.bool true) ∧ Below w.heap.size w w' := by
  have HL := hid hL
  have HP := hid hL.pos
  obtain ⟨X, hX⟩ : ∃ X, w.alloc (.cells #[.int .i64 a0, .int .i64 a1, .slice p2 M0.length c2, .slice p3 M.length c3, .int .i64 a4, .slice p5 n5 c5, .int .i64 a6, .int .i64 a7, .int .i64 a8, .slice p9 n9 c9, .int .i64 a10] 63) = X := ⟨_, rfl⟩
  have HB0 := hid (show Below w.heap.size w X by rw [← hX]; exact (Below.refl _ _).alloc (Nat.le_refl _) _)
  have HX0 := hid (show CrB X w.heap.size a0 a1 a4 a6 a7 a8 a10 p2 p3 p5 p9 c2 c3 n5 c5 n9 c9 M0 M from ⟨by rw [← hX]; exact heap_alloc_new _ _, h2.below HB0.out, h3.below HB0.out⟩)
  have e1 : decide (40 < a0) = true := decide_eq_true hf
  clear hf h2 h3 hL
  obtain ⟨y0, y1, y2, y3⟩ := HX0.out.cells
  go_enter Tryz.func7, Tryz.ntmps7
  go_wp2_with fail
  clear hX
  refine (live_any _ (HL.out.next HP.out HB0.out)).mono ?_
  rintro e w99 ⟨rfl, hb⟩
  have HB99 := hid (HB0.out.trans (hb.mono (HB0.out).size))
  clear hb
  go_wp2_with fail
  go_ret
  exact ⟨rfl, HB99.out⟩
set_option maxRecDepth 100000 in
set_option maxHeartbeats 8000000 in
theorem pfew_far2 (a0 a1 a4 a6 a7 a8 a10 : Int) (p2 p3 p5 p9 : Option Addr) (c2 c3 n5 c5 n9 c9 : Nat) (M0 M : List PageT) (w : World) (hL : Lst w) (h2 : Pgs w p2 M0) (h3 : Pgs w p3 M) (hf : a0 ≤ 40) (hn : ¬ FewP M0) : Calls Tryz.prog 7 #[.agg #[.int .i64 a0, .int .i64 a1, .slice p2 M0.length c2, .slice p3 M.length c3, .int .i64 a4, .slice p5 n5 c5, .int .i64 a6, .int .i64 a7, .int .i64 a8, .slice p9 n9 c9, .int .i64 a10]] w fun e w' => e = .returned (.bool true) ∧ Below w.heap.size w w' := by
  have HL := hid hL
  have HP := hid hL.pos
  obtain ⟨X, hX⟩ : ∃ X, w.alloc (.cells #[.int .i64 a0, .int .i64 a1, .slice p2 M0.length c2, .slice p3 M.length c3, .int .i64 a4, .slice p5 n5 c5, .int .i64 a6, .int .i64 a7, .int .i64 a8, .slice p9 n9 c9, .int .i64 a10] 63) = X := ⟨_, rfl⟩
  have HB0 := hid (show Below w.heap.size w X by rw [← hX]; exact (Below.refl _ _).alloc (Nat.le_refl _) _)
  have HX0 := hid (show CrB X w.heap.size a0 a1 a4 a6 a7 a8 a10 p2 p3 p5 p9 c2 c3 n5 c5 n9 c9 M0 M from ⟨by rw [← hX]; exact heap_alloc_new _ _, h2.below HB0.out, h3.below HB0.out⟩)
  have e1 : decide (40 < a0) = false := decide_eq_false (by omega)
  have HF1 := hid hn
  clear hf hn h2 h3 hL
  obtain ⟨y0, y1, y2, y3⟩ := HX0.out.cells
  go_enter Tryz.func7, Tryz.ntmps7
  go_wp2_with fail
  clear hX
  refine (few_any M0 p2 c2 _ HX0.out.o false ⟨(fun h => by cases h), (fun h => absurd h HF1.out)⟩).mono ?_
  rintro e w1 ⟨rfl, hb⟩
  have HB1 := hid (HB0.out.trans (hb.mono HB0.out.size))
  have HX1 := hid (HX0.out.below hb)
  clear hb y0 y1 y2 y3
  obtain ⟨y0, y1, y2, y3⟩ := HX1.out.cells
  go_wp2_with fail
  refine (live_any _ (HL.out.next HP.out HB1.out)).mono ?_
  rintro e w99 ⟨rfl, hb⟩
  have HB99 := hid (HB1.out.trans (hb.mono (HB1.out).size))
  clear hb
  go_wp2_with fail
  go_ret
  exact ⟨rfl, HB99.out⟩
set_option maxRecDepth 100000 in
set_option maxHeartbeats 8000000 in
theorem pfew_far3 (a0 a1 a4 a6 a7 a8 a10 : Int) (p2 p3 p5 p9 : Option Addr) (c2 c3 n5 c5 n9 c9 : Nat) (M0 M : List PageT) (w : World) (hL : Lst w) (h2 : Pgs w p2 M0) (h3 : Pgs w p3 M) (hf : a0 ≤ 40) (hn : FewP M0) (hn2 : ¬ FewP M) : Calls Tryz.prog 7 #[.agg #[.int .i64 a0, .int .i64 a1, .slice p2 M0.length c2, .slice p3 M.length c3, .int .i64 a4, .slice p5 n5 c5, .int .i64 a6, .int .i64 a7, .int .i64 a8, .slice p9 n9 c9, .int .i64 a10]] w fun e w' => e = .returned (.bool true) ∧ Below w.heap.size w w' := by
  have HL := hid hL
  have HP := hid hL.pos
  obtain ⟨X, hX⟩ : ∃ X, w.alloc (.cells #[.int .i64 a0, .int .i64 a1, .slice p2 M0.length c2, .slice p3 M.length c3, .int .i64 a4, .slice p5 n5 c5, .int .i64 a6, .int .i64 a7, .int .i64 a8, .slice p9 n9 c9, .int .i64 a10] 63) = X := ⟨_, rfl⟩
  have HB0 := hid (show Below w.heap.size w X by rw [← hX]; exact (Below.refl _ _).alloc (Nat.le_refl _) _)
  have HX0 := hid (show CrB X w.heap.size a0 a1 a4 a6 a7 a8 a10 p2 p3 p5 p9 c2 c3 n5 c5 n9 c9 M0 M from ⟨by rw [← hX]; exact heap_alloc_new _ _, h2.below HB0.out, h3.below HB0.out⟩)
  have e1 : decide (40 < a0) = false := decide_eq_false (by omega)
  have HF1 := hid hn
  have HF2 := hid hn2
  clear hf hn hn2 h2 h3 hL
  obtain ⟨y0, y1, y2, y3⟩ := HX0.out.cells
  go_enter Tryz.func7, Tryz.ntmps7
  go_wp2_with fail
  clear hX
  refine (few_any M0 p2 c2 _ HX0.out.o true ⟨(fun _ => HF1.out), (fun _ => rfl)⟩).mono ?_
  rintro e w1 ⟨rfl, hb⟩
  have HB1 := hid (HB0.out.trans (hb.mono HB0.out.size))
  have HX1 := hid (HX0.out.below hb)
  clear hb y0 y1 y2 y3
  obtain ⟨y0, y1, y2, y3⟩ := HX1.out.cells
  go_wp2_with fail
  refine (few_any M p3 c3 _ HX1.out.l false ⟨(fun h => by cases h), (fun h => absurd h HF2.out)⟩).mono ?_
  rintro e w2 ⟨rfl, hb⟩
  have HB2 := hid (HB1.out.trans (hb.mono HB1.out.size))
  have HX2 := hid (HX1.out.below hb)
  clear hb y0 y1 y2 y3
  obtain ⟨y0, y1, y2, y3⟩ := HX2.out.cells
  go_wp2_with fail
  refine (live_any _ (HL.out.next HP.out HB2.out)).mono ?_
  rintro e w99 ⟨rfl, hb⟩
  have HB99 := hid (HB2.out.trans (hb.mono (HB2.out).size))
  clear hb
  go_wp2_with fail
  go_ret
  exact ⟨rfl, HB99.out⟩
set_option maxRecDepth 100000 in
set_option maxHeartbeats 8000000 in
theorem pfew_nodisk (a0 a1 a4 a6 a7 a8 a10 : Int) (p2 p3 p5 p9 : Option Addr) (c2 c3 n5 c5 n9 c9 : Nat) (M0 M : List PageT) (w : World) (hL : Lst w) (h2 : Pgs w p2 M0) (h3 : Pgs w p3 M) (hf : a0 < 1) (hn : FewP M0) (hn2 : FewP M) : Calls Tryz.prog 7 #[.agg #[.int .i64 a0, .int .i64 a1, .slice p2 M0.length c2, .slice p3 M.length c3, .int .i64 a4, .slice p5 n5 c5, .int .i64 a6, .int .i64 a7, .int .i64 a8, .slice p9 n9 c9, .int .i64 a10]] w fun e w' => e = .returned (.bool true) ∧ Below w.heap.size w w' := by
  have HL := hid hL
  have HP := hid hL.pos
  obtain ⟨X, hX⟩ : ∃ X, w.alloc (.cells #[.int .i64 a0, .int .i64 a1, .slice p2 M0.length c2, .slice p3 M.length c3, .int .i64 a4, .slice p5 n5 c5, .int .i64 a6, .int .i64 a7, .int .i64 a8, .slice p9 n9 c9, .int .i64 a10] 63) = X := ⟨_, rfl⟩
  have HB0 := hid (show Below w.heap.size w X by rw [← hX]; exact (Below.refl _ _).alloc (Nat.le_refl _) _)
  have HX0 := hid (show CrB X w.heap.size a0 a1 a4 a6 a7 a8 a10 p2 p3 p5 p9 c2 c3 n5 c5 n9 c9 M0 M from ⟨by rw [← hX]; exact heap_alloc_new _ _, h2.below HB0.out, h3.below HB0.out⟩)
  have e1 : decide (40 < a0) = false := decide_eq_false (by omega)
  have HF1 := hid hn
  have HF2 := hid hn2
  have HD := hid fun (V : World) => dnew_bad a0 V (.inl hf)
  clear hf hn hn2 h2 h3 hL
  obtain ⟨y0, y1, y2, y3⟩ := HX0.out.cells
  go_enter Tryz.func7, Tryz.ntmps7
  go_wp2_with fail
  clear hX
  refine (few_any M0 p2 c2 _ HX0.out.o true ⟨(fun _ => HF1.out), (fun _ => rfl)⟩).mono ?_
  rintro e w1 ⟨rfl, hb⟩
  have HB1 := hid (HB0.out.trans (hb.mono HB0.out.size))
  have HX1 := hid (HX0.out.below hb)
  clear hb y0 y1 y2 y3
  obtain ⟨y0, y1, y2, y3⟩ := HX1.out.cells
  go_wp2_with fail
  refine (few_any M p3 c3 _ HX1.out.l true ⟨(fun _ => HF2.out), (fun _ => rfl)⟩).mono ?_
  rintro e w2 ⟨rfl, hb⟩
  have HB2 := hid (HB1.out.trans (hb.mono HB1.out.size))
  have HX2 := hid (HX1.out.below hb)
  clear hb y0 y1 y2 y3
  obtain ⟨y0, y1, y2, y3⟩ := HX2.out.cells
  go_wp2_with fail
  refine (HD.out _).mono ?_
  rintro e w' ⟨rfl, hw⟩
  obtain rfl := hw.symm
  go_wp2_with fail
  refine (format_nil a1 _).mono ?_
  rintro e w' ⟨rfl, hw⟩
  obtain rfl := hw.symm
  go_wp2_with fail
  refine (live_any _ (HL.out.next HP.out HB2.out)).mono ?_
  rintro e w99 ⟨rfl, hb⟩
  have HB99 := hid (HB2.out.trans (hb.mono (HB2.out).size))
  clear hb
  go_wp2_with fail
  go_ret
  exact ⟨rfl, HB99.out⟩
set_option maxRecDepth 100000 in
set_option maxHeartbeats 8000000 in
theorem pfew_noplace (a0 a1 a4 a6 a7 a8 a10 : Int) (p2 p3 p5 p9 : Option Addr) (c2 c3 n5 c5 n9 c9 : Nat) (M0 M : List PageT) (w : World) (hL : Lst w) (h2 : Pgs w p2 M0) (h3 : Pgs w p3 M) (m : Nat) (hm : a0 = (m : Int)) (h1 : 1 ≤ m) (h40 : m ≤ 40) (hn : FewP M0) (hn2 : FewP M) (hb : ¬ (2 ≤ a1 ∧ a1 ≤ 900 ∧ 2 ≤ (m : Int) - a1)) : Calls Tryz.prog 7 #[.agg #[.int .i64 a0, .int .i64 a1, .slice p2 M0.length c2, .slice p3 M.length c3, .int .i64 a4, .slice p5 n5 c5, .int .i64 a6, .int .i64 a7, .int .i64 a8, .slice p9 n9 c9, .int .i64 a10]] w fun e w' => e = .returned (.bool true) ∧ Below w.heap.size w w' := by
  subst hm
  have HL := hid hL
  have HP := hid hL.pos
  obtain ⟨X, hX⟩ : ∃ X, w.alloc (.cells #[.int .i64 (m : Int), .int .i64 a1, .slice p2 M0.length c2, .slice p3 M.length c3, .int .i64 a4, .slice p5 n5 c5, .int .i64 a6, .int .i64 a7, .int .i64 a8, .slice p9 n9 c9, .int .i64 a10] 63) = X := ⟨_, rfl⟩
  have HB0 := hid (show Below w.heap.size w X by rw [← hX]; exact (Below.refl _ _).alloc (Nat.le_refl _) _)
  have HX0 := hid (show CrB X w.heap.size (m : Int) a1 a4 a6 a7 a8 a10 p2 p3 p5 p9 c2 c3 n5 c5 n9 c9 M0 M from ⟨by rw [← hX]; exact heap_alloc_new _ _, h2.below HB0.out, h3.below HB0.out⟩)
  have e1 : decide (40 < (m : Int)) = false := decide_eq_false (by omega)
  have HF1 := hid hn
  have HF2 := hid hn2
  have e1' : decide (40 < m) = false := decide_eq_false (by omega)
  have HD := hid fun (V : World) => dnew m V h1 (by omega)
  have HSL := hid (show (newS (blanks m)).pages.length = m by show (blanks m).length = _; simp [blanks])
  have HBD := hid hb
  clear h1 h40 hb hn hn2 h2 h3 hL
  obtain ⟨y0, y1, y2, y3⟩ := HX0.out.cells
  go_enter Tryz.func7, Tryz.ntmps7
  go_wp2_with fail
  clear hX
  refine (few_any M0 p2 c2 _ HX0.out.o true ⟨(fun _ => HF1.out), (fun _ => rfl)⟩).mono ?_
  rintro e w1 ⟨rfl, hb⟩
  have HB1 := hid (HB0.out.trans (hb.mono HB0.out.size))
  have HX1 := hid (HX0.out.below hb)
  clear hb y0 y1 y2 y3
  obtain ⟨y0, y1, y2, y3⟩ := HX1.out.cells
  go_wp2_with fail
  refine (few_any M p3 c3 _ HX1.out.l true ⟨(fun _ => HF2.out), (fun _ => rfl)⟩).mono ?_
  rintro e w2 ⟨rfl, hb⟩
  have HB2 := hid (HB1.out.trans (hb.mono HB1.out.size))
  have HX2 := hid (HX1.out.below hb)
  clear hb y0 y1 y2 y3
  obtain ⟨y0, y1, y2, y3⟩ := HX2.out.cells
  go_wp2_with fail
  refine (HD.out _).mono ?_
  rintro e w3 ⟨D, rfl, hc, hb⟩
  have HC3 := hid hc
  have HB3 := hid (HB2.out.trans (hb.mono HB2.out.size))
  have HX3 := hid (HX2.out.below hb)
  clear hc hb y0 y1 y2 y3
  obtain ⟨y0, y1, y2, y3⟩ := HX3.out.cells
  go_wp2_with fail
  refine (format_bad HC3.out a1 (by rw [HSL.out]; exact HBD.out)).mono ?_
  rintro e w' ⟨rfl, hw⟩
  obtain rfl := hw.symm
  go_wp2_with fail
  refine (live_any _ (HL.out.next HP.out HB3.out)).mono ?_
  rintro e w99 ⟨rfl, hb⟩
  have HB99 := hid (HB3.out.trans (hb.mono (HB3.out).size))
  clear hb
  go_wp2_with fail
  go_ret
  exact ⟨rfl, HB99.out⟩
theorem turned_len (L M : List PageT) (i : Nat) : (chg L M (i + 1)).length = (chg L M i).length + (if sameAt L M i then 0 else 1) := by
  show (chg L M i ++ (if sameAt L M i then [] else [turnP M i])).length = _
  rw [List.length_append]; split <;> rfl
set_option maxRecDepth 100000 in
set_option maxHeartbeats 8000000 in
theorem pfew_go (a0 a1 a4 a6 a7 a8 a10 : Int) (p2 p3 p5 p9 : Option Addr) (c2 c3 n5 c5 n9 c9 : Nat) (M0 M : List PageT) (w : World) (hL : Lst w) (h2 : Pgs w p2 M0) (h3 : Pgs w p3 M) (m b n : Nat) (hm : a0 = (m : Int)) (hlog : a1 = (n : Int)) (hbn : b + n = m) (h40 : m ≤ 40) (hn2' : 2 ≤ n) (hb2 : 2 ≤ b) (hn : FewP M0) (hn2 : FewP M) : Calls Tryz.prog 7 #[.agg #[.int .i64 a0, .int .i64 a1, .slice p2 M0.length c2, .slice p3 M.length c3, .int .i64 a4, .slice p5 n5 c5, .int .i64 a6, .int .i64 a7, .int .i64 a8, .slice p9 n9 c9, .int .i64 a10]] w fun e w' => e = .returned (.bool true) ∧ Below w.heap.size w w' := by
  subst hm
  subst hlog
  have HL := hid hL
  have HP := hid hL.pos
  obtain ⟨X, hX⟩ : ∃ X, w.alloc (.cells #[.int .i64 (m : Int), .int .i64 (n : Int), .slice p2 M0.length c2, .slice p3 M.length c3, .int .i64 a4, .slice p5 n5 c5, .int .i64 a6, .int .i64 a7, .int .i64 a8, .slice p9 n9 c9, .int .i64 a10] 63) = X := ⟨_, rfl⟩
  have HB0 := hid (show Below w.heap.size w X by rw [← hX]; exact (Below.refl _ _).alloc (Nat.le_refl _) _)
  have HX0 := hid (show CrB X w.heap.size (m : Int) (n : Int) a4 a6 a7 a8 a10 p2 p3 p5 p9 c2 c3 n5 c5 n9 c9 M0 M from ⟨by rw [← hX]; exact heap_alloc_new _ _, h2.below HB0.out, h3.below HB0.out⟩)
  have e1 : decide (40 < (m : Int)) = false := decide_eq_false (by omega)
  have HF1 := hid hn
  have HF2 := hid hn2
  have e1' : decide (40 < m) = false := decide_eq_false (by omega)
  have HD := hid fun (V : World) => dnew m V (by omega) (by omega)
  have HSL := hid (show (newS (blanks m)).pages.length = m ∧ (newS (blanks m)).fuse = -1 ∧ Few (newS (blanks m)) 0 from ⟨by show (blanks m).length = _; simp [blanks], rfl, few_new _⟩)
  have HN := hid (show 2 ≤ n ∧ n ≤ 900 ∧ 2 ≤ b ∧ b + n = m ∧ m ≤ 40 from ⟨hn2', by omega, hb2, hbn, h40⟩)
  clear hbn h40 hn2' hb2 hn hn2 h2 h3 hL
  obtain ⟨y0, y1, y2, y3⟩ := HX0.out.cells
  go_enter Tryz.func7, Tryz.ntmps7
  go_wp2_with fail
  clear hX
  refine (few_any M0 p2 c2 _ HX0.out.o true ⟨(fun _ => HF1.out), (fun _ => rfl)⟩).mono ?_
  rintro e w1 ⟨rfl, hb⟩
  have HB1 := hid (HB0.out.trans (hb.mono HB0.out.size))
  have HX1 := hid (HX0.out.below hb)
  clear hb y0 y1 y2 y3
  obtain ⟨y0, y1, y2, y3⟩ := HX1.out.cells
  go_wp2_with fail
  refine (few_any M p3 c3 _ HX1.out.l true ⟨(fun _ => HF2.out), (fun _ => rfl)⟩).mono ?_
  rintro e w2 ⟨rfl, hb⟩
  have HB2 := hid (HB1.out.trans (hb.mono HB1.out.size))
  have HX2 := hid (HX1.out.below hb)
  clear hb y0 y1 y2 y3
  obtain ⟨y0, y1, y2, y3⟩ := HX2.out.cells
  go_wp2_with fail
  refine (HD.out _).mono ?_
  rintro e w3 ⟨D, rfl, hc, hb⟩
  have HC3 := hid hc
  have HK3 := hid (KS.of (K := fun j => j < w2.heap.size) hb)
  have HX3 := hid (HX2.out.below hb)
  have HL2 := hid (HL.out.next HP.out HB2.out)
  have HL3 := hid (HL2.out.next HL2.out.pos hb)
  have HZ3 := hid hb.size
  clear hc hb y0 y1 y2 y3
  obtain ⟨y0, y1, y2, y3⟩ := HX3.out.cells
  go_wp2_with fail
  refine (format_ok (n := n) (b := b) HC3.out HL3.out HL2.out.pos HN.out.1 HN.out.2.1 HN.out.2.2.1 (by rw [HSL.out.1]; exact HN.out.2.2.2.1) (by rw [HSL.out.1]; have := HN.out.2.2.2.2; omega) HSL.out.2.1 HSL.out.2.2 (by decide)).mono ?_
  rintro e w4 ⟨P, J, rfl, hJ, hP, hpr, hks⟩
  have HJP := hid (show w2.heap.size ≤ J ∧ w2.heap.size ≤ P from ⟨Nat.le_trans HZ3.out hJ, Nat.le_trans HZ3.out hP⟩)
  have HPR4 := hid hpr
  have HK4 := hid (HK3.out.trans hks)
  have HX4 := hid (HX2.out.ks HK4.out)
  have HON4 := hid (onto_fmt (b := b) (n := n) HSL.out.2.1 HN.out.1 HN.out.2.1 HN.out.2.2.1 (by rw [HSL.out.1]; exact HN.out.2.2.2.1) (by rw [HSL.out.1]; have := HN.out.2.2.2.2; omega))
  have HFU4 := hid (fmt_fuse HSL.out.2.1 b)
  have HFW4 := hid (show Few (fmtS (newS (blanks m)) b) 10 from few_up (few_abo (few_wrP HSL.out.2.2 _) b 1) (by decide))
  clear hJ hP hpr hks y0 y1 y2 y3
  obtain ⟨y0, y1, y2, y3⟩ := HX4.out.cells
  have HC0 := hid (show (fmtS (newS (blanks m)) b).writes = 2 ∧ (fmtS (newS (blanks m)) b).flushes = 1 from fmt_counts (n := n) HSL.out.2.1 HN.out.1 HN.out.2.1 HN.out.2.2.1 (by rw [HSL.out.1]; exact HN.out.2.2.2.1) (by rw [HSL.out.1]; have := HN.out.2.2.2.2; omega))
  generalize fmtS (newS (blanks m)) b = s4 at *
  have HD0 := hid (show J ≠ 0 ∧ P ≠ 0 from ⟨by have := HJP.out.1; have := HL2.out.pos; omega, by have := HJP.out.2; have := HL2.out.pos; omega⟩)
  have HIN := hid fun (q : Option Addr) (N : List PageT) (hq : Pgs w2 q N) (g off : Nat) (e : q = some ⟨g, off, none⟩) (h0 : 0 < N.length) => (show g < w2.heap.size from by
    obtain ⟨b', off', e', hl, _⟩ := hq 0 h0
    rw [e] at e'; cases e'; exact hl)
  have HKZ4 := hid (show ∀ j, j < w2.heap.size → (((fun j => j < w2.heap.size) j ∨ j = J) ∨ j = P) from fun j hj => .inl (.inl hj))
  go_wp2_with fail
  refine (pcom_any HPR4.out HON4.out HFU4.out HD0.out.1 HD0.out.2 HFW4.out (by decide) M0 p2 c2 (by have := HF1.out.1; omega) HX4.out.o (fun g off e h0 => ⟨.inl (.inl (HIN.out p2 M0 HX2.out.o g off e h0)), by have := HIN.out p2 M0 HX2.out.o g off e h0; have := HJP.out.1; omega, by have := HIN.out p2 M0 HX2.out.o g off e h0; have := HJP.out.2; omega⟩)).mono ?_
  rintro e w5 ⟨code, K5, s5, t5, L5, rfl, hcr, hkk, hpr, hon, hfu, hks, hfw⟩
  have HKK5 := hid fun j (e : j < w2.heap.size) => hkk j (HKZ4.out j e)
  have HPR5 := hid hpr; have HON5 := hid hon; have HFU5 := hid hfu; have HFW5 := hid hfw
  have HK5 := hid (HK4.out.trans (KS.less hks fun j hj => ⟨HKZ4.out j hj, by have := HJP.out.2; omega, by have := HJP.out.1; omega⟩))
  have HX5 := hid (HX2.out.ks HK5.out)
  clear hkk hpr hon hfu hks hfw y0 y1 y2 y3 HPR4 HK4 HX4 HON4 HFU4 HFW4
  obtain ⟨y0, y1, y2, y3⟩ := HX5.out.cells
  rcases hcr with ⟨rfl, hLL, rfl, hmay, hwr, hfl⟩ | ⟨hne, rfl, rfl, rfl⟩
  ·
    obtain rfl := hLL.symm
    have HML := hid hmay
    have HLN := hid (show M0.length ≤ 30 ∧ M.length ≤ 30 from ⟨HF1.out.1, HF2.out.1⟩)
    have HCN := hid (show 0 ≤ s5.writes ∧ s5.writes ≤ 1000000 ∧ 0 ≤ s5.flushes ∧ s5.flushes ≤ 1000000 from by
      have h1 := HC0.out.1; have h2 := HC0.out.2; have h3 := HFW5.out.writes; have h4 := HFW5.out.flushes
      refine ⟨by rw [hwr]; omega, by omega, by rw [hfl]; omega, by omega⟩)
    clear hmay hwr hfl
    go_wp2_with fail
    go_loopw [7, 8] (fun x y wr => ∃ i : Nat, x = .int .i64 ((chg M0 M i).length : Nat) ∧ y = .int .i64 i ∧ i ≤ M.length ∧ Below w5.heap.size w5 wr) (fun _ y _ => M.length - (intOf y).toNat)
    case atStart => exact ⟨0, rfl, rfl, Nat.zero_le _, Below.refl _ _⟩
    case round =>
      obtain ⟨i, rfl, rfl, hi, hb⟩ := hrel
      have HBr := hid hb
      have HXr := hid (HX5.out.below hb)
      clear hb y0 y1 y2 y3
      obtain ⟨y0, y1, y2, y3⟩ := HXr.out.cells
      have HI := hid hi
      obtain ⟨k, hk⟩ : ∃ k, (chg M0 M i).length = k := ⟨_, rfl⟩
      have HKk := hid (show k ≤ 30 by have := chg_len M0 M i; have := HLN.out.2; omega)
      have HKe := hid hk
      rw [hk]
      clear hk hi
      by_cases hlt : i < M.length
      · have e2 : decide ((i : Int) < (M.length : Int)) = true := by simp; omega
        have e2' : decide (i < M.length) = true := decide_eq_true hlt
        have HLT := hid hlt
        have z0 : (0 : Int) ≤ (i : Int) := by omega
        have z1 : (i : Int) < (M.length : Int) := by omega
        have HW := hid (show wrap64 ((i : Int) + 1) = ((i + 1 : Nat) : Int) from Go.IntWalk.wrap64_in _ (by have := HLN.out.2; omega))
        have HWk := hid (show wrap64 ((k : Int) + 1) = ((k + 1 : Nat) : Int) from Go.IntWalk.wrap64_in _ (by have := HKk.out; omega))
        obtain ⟨bM, offM, q3, -, d0, d1, d2⟩ := HXr.out.l i hlt
        by_cases hiL : i < M0.length
        · have e3 : decide ((M0.length : Int) ≤ (i : Int)) = false := by simp; omega
          have e3' : decide (M0.length ≤ i) = false := decide_eq_false (by omega)
          have z2 : (i : Int) < (M0.length : Int) := by omega
          obtain ⟨b0, off0, q2, -, g0, g1, g2⟩ := HXr.out.o i hiL
          rw [q2] at y2
          rw [q3] at y3
          have heq := fun (V : World) => nepg (M0[i]'hiL) (M[i]'hlt) V
          have HSA := hid (show sameAt M0 M i = decide (M0[i]'hiL = M[i]'hlt) by
            unfold sameAt
            rw [decide_eq_true hiL, List.getElem?_eq_getElem hiL, List.getElem?_eq_getElem hlt, Bool.true_and]; simp)
          generalize hA0 : M0[i]'hiL = qa at *
          generalize hA1 : M[i]'hlt = qb at *
          obtain ⟨k0, m0, t0⟩ := qa
          obtain ⟨k1, m1, t1⟩ := qb
          dsimp only at d0 d1 d2 g0 g1 g2 heq
          by_cases hsame : ((k0, m0, t0) : PageT) = (k1, m1, t1)
          · rw [show decide (((k0, m0, t0) : PageT) = (k1, m1, t1)) = true from decide_eq_true hsame] at heq HSA
            have HT := hid (turned_len M0 M i)
            clear hsame hA0 hA1 q2 q3 hlt hiL
            go_wp2_with fail
            go_quiet (fail)
            have HBq := hid (HBr.out.trans ((below_drewN (Below.refl wr.heap.size wr) nq).mono HBr.out.size))
            go_wp2_with fail
            go_roundw
            case rel => exact ⟨i + 1, by rw [HT.out, HSA.out, HKe.out]; rfl, by first | (rw [HW.out]) | go_num, HLT.out, HBq.out⟩
            case measure => have := HLT.out; (first | (rw [HW.out]; simp [intOf]; omega) | (simp [intOf]; omega))
          · rw [show decide (((k0, m0, t0) : PageT) = (k1, m1, t1)) = false from decide_eq_false hsame] at heq HSA
            have HT := hid (turned_len M0 M i)
            clear hsame hA0 hA1 q2 q3 hlt hiL
            go_wp2_with fail
            go_quiet (fail)
            have HBq := hid (HBr.out.trans ((below_drewN (Below.refl wr.heap.size wr) nq).mono HBr.out.size))
            go_wp2_with fail
            go_roundw
            case rel => exact ⟨i + 1, by rw [HT.out, HSA.out, HKe.out]; first | (rw [HWk.out]; rfl) | go_num, by first | (rw [HW.out]) | go_num, HLT.out, HBq.out⟩
            case measure => have := HLT.out; (first | (rw [HW.out]; simp [intOf]; omega) | (simp [intOf]; omega))
        · have e3 : decide ((M0.length : Int) ≤ (i : Int)) = true := by simp; omega
          have e3' : decide (M0.length ≤ i) = true := decide_eq_true (by omega)
          have HSA := hid (show sameAt M0 M i = false by unfold sameAt; rw [decide_eq_false hiL]; rfl)
          have HT := hid (turned_len M0 M i)
          clear d0 d1 d2 q3 hlt hiL
          go_wp2_with fail
          go_quiet (fail)
          have HBq := hid (HBr.out.trans ((below_drewN (Below.refl wr.heap.size wr) nq).mono HBr.out.size))
          go_wp2_with fail
          go_roundw
          case rel => exact ⟨i + 1, by rw [HT.out, HSA.out, HKe.out]; first | (rw [HWk.out]; rfl) | go_num, by first | (rw [HW.out]) | go_num, HLT.out, HBq.out⟩
          case measure => have := HLT.out; (first | (rw [HW.out]; simp [intOf]; omega) | (simp [intOf]; omega))
      · obtain rfl : i = M.length := by have := HI.out; omega
        clear hlt
        have HPRr := hid (HPR5.out.next HBr.out)
        have HKr := hid (HK5.out.trans (KS.of (K := fun j => j < w2.heap.size) (HBr.out)))
        go_wp2_with fail
        refine (cd_counts HPRr.out.jk.cd).mono ?_
        rintro e w6 ⟨rfl, hb⟩
        have HPR6 := hid (HPRr.out.next hb)
        have HK6 := hid (HKr.out.trans (KS.of (K := fun j => j < w2.heap.size) hb))
        have HX6 := hid (HXr.out.below hb)
        clear hb y0 y1 y2 y3
        obtain ⟨y0, y1, y2, y3⟩ := HX6.out.cells
        go_wp2_with fail
        refine (pcom_any HPR6.out HON5.out HFU5.out HD0.out.1 HD0.out.2 HFW5.out (by decide) M p3 c3 (by have := HLN.out.2; omega) HX6.out.l (fun g off e h0 => ⟨HKK5.out g (HIN.out p3 M HX2.out.l g off e h0), by have := HIN.out p3 M HX2.out.l g off e h0; have := HJP.out.1; omega, by have := HIN.out p3 M HX2.out.l g off e h0; have := HJP.out.2; omega⟩)).mono ?_
        rintro e w7 ⟨code, K7, s7, t7, L7, rfl, hcr, hkk, hpr, hon, hfu, hks, hfw⟩
        have HPR7 := hid hpr
        have HCR := hid hcr
        have HK7 := hid (HK6.out.trans (KS.less hks fun j hj => ⟨HKK5.out j hj, by have := HJP.out.2; omega, by have := HJP.out.1; omega⟩))
        clear hkk hpr hon hfu hks hfw hcr y0 y1 y2 y3
        go_wp2_with fail
        refine (cd_counts HPR7.out.jk.cd).mono ?_
        rintro e w8 ⟨rfl, hb⟩
        have HK8 := hid (HK7.out.trans (KS.of (K := fun j => j < w2.heap.size) hb))
        have HB8 := hid (HB2.out.trans (HK8.out.below (Nat.le_refl _) (fun _ h => h) |>.mono HB2.out.size))
        have HL8 := hid (lst_ks HL2.out (K := fun j => j < w2.heap.size) HL2.out.pos HK8.out)
        clear hb
        rcases HCR.out with ⟨rfl, -, rfl, -, hwr, hfl⟩ | ⟨hne, -, rfl, hss⟩
        · have HWk := hid (show wrap64 (2 * (k : Int)) = 2 * (k : Int) from Go.IntWalk.wrap64_in _ (by have := HKk.out; omega))
          have HWa := hid (show wrap64 (s5.writes + 2 * (k : Int)) = s5.writes + 2 * (k : Int) from Go.IntWalk.wrap64_in _ (by have := HKk.out; have := HCN.out; omega))
          have HWb := hid (show wrap64 (s5.writes + 2 * (k : Int) + 3) = s7.writes from by rw [hwr, HKe.out]; exact Go.IntWalk.wrap64_in _ (by have := HKk.out; have := HCN.out; omega))
          have HWc := hid (show wrap64 (s5.flushes + 4) = s7.flushes from by rw [hfl]; exact Go.IntWalk.wrap64_in _ (by have := HCN.out; omega))
          have e5 : decide (s7.writes = wrap64 (wrap64 (s5.writes + wrap64 (2 * (k : Int))) + 3)) = true := decide_eq_true (by rw [HWk.out, HWa.out, HWb.out])
          have e6 : decide (s7.flushes = wrap64 (s5.flushes + 4)) = true := decide_eq_true (by rw [HWc.out])
          clear hwr hfl
          go_wp2_with fail
          refine (live_any _ HL8.out).mono ?_
          rintro e w99 ⟨rfl, hb⟩
          have HB99 := hid (HB8.out.trans (hb.mono HB8.out.size))
          clear hb
          go_wp2_with fail
          go_ret
          exact ⟨rfl, HB99.out⟩
          all_goals (exfalso; rename_i h; first | exact h (of_decide_eq_true e6) | exact h (of_decide_eq_true e5))
        · obtain rfl := hss.symm
          have hne' : (code != 0) = true := by simpa using hne
          have hne2 : (code == 0) = false := by simpa using hne
          clear hne
          go_wp2_with fail
          refine (live_any _ HL8.out).mono ?_
          rintro e w99 ⟨rfl, hb⟩
          have HB99 := hid (HB8.out.trans (hb.mono HB8.out.size))
          clear hb
          go_wp2_with fail
          go_ret
          exact ⟨rfl, HB99.out⟩
  ·
    have hne' : (code != 0) = true := by simpa using hne
    have hne2 : (code == 0) = false := by simpa using hne
    clear hne
    go_wp2_with fail
    obtain ⟨q5, cc5, hpa, hpg, -⟩ := HPR5.out.at_
    refine (ppages_ok hpa hpg (by decide) (fun q hq => by cases hq)).mono ?_
    rintro e w6 hcp
    obtain ⟨p6, c6, rfl, -, -, hb⟩ := hcp.pgs
    have HK6 := hid (HK5.out.trans (KS.of hb))
    have HB6 := hid (HB2.out.trans (HK6.out.below (Nat.le_refl _) (fun _ h => h) |>.mono HB2.out.size))
    have HL6 := hid (lst_ks HL2.out (K := fun j => j < w2.heap.size) HL2.out.pos HK6.out)
    clear hcp hpa hpg hb y0 y1 y2 y3
    go_wp2_with fail
    refine (live_any _ HL6.out).mono ?_
    rintro e w99 ⟨rfl, hb⟩
    have HB99 := hid (HB6.out.trans (hb.mono (HB6.out).size))
    clear hb
    go_wp2_with fail
    go_ret
    exact ⟨rfl, HB99.out⟩
end Go.Proofs.YtgihpdhkjneimaaGreatDoor.Pp
