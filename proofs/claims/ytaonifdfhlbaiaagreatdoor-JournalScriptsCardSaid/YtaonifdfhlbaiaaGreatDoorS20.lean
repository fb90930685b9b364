/- Merged out of JnRt. -/
import Derived.Test.YtaonifdfhlbaiaaGreatDoorS19
/- The document's own journal: at. -/
namespace Go.Proofs.YtaonifdfhlbaiaaGreatDoor.Jn
open Go.RowKit
open Go.Lib (hid)
open Go.Proofs.YtaonifdfhlbaiaaGreatDoor.Dk
open Go.Proofs.YtaonifdfhlbaiaaGreatDoor.En (Lst entC encR mayE mayS PageT Pgs ent_at infoC oneC textS)
open Go.Proofs.YtaonifdfhlbaiaaGreatDoor.Pg (openL)
open Go.Proofs.YtaonifdfhlbaiaaGreatDoor.Sm (U sumB wpList_store_whole)
section
variable {K : Nat → Prop} {J R b n t : Nat} {wr : World} {s : St}
theorem rc_setRow {K : Nat → Prop} {R : Nat} {w : World} {s : St} (h : Rc K R w s) (g : Nat) (cs : Array Value) (hg : K g) : Rc K R (w.setRow g cs) s :=
  h.turn (by rw [setRow_size]; exact Nat.le_refl _) fun k _ hk => setRow_other _ _ _ _ (fun e => hk (e ▸ hg))
set_option maxRecDepth 100000 in
set_option maxHeartbeats 4000000 in
theorem rt_a1 (h : Jr K J R wr s b n t) {k : Nat} (hf : Few s k) (hk : k < 1000000) (i : Nat) (m : Nat) (hm : b + i = m) (hmm : m < 1000) (u : ByteArray) (hu : (rdU s (m : Int)).1 = u) (k5 n2 e5 : Nat) (bl : List UInt8) (ho : openL u.data.toList = (k5, n2, bl, e5)) (he : e5 ≠ 0) :
    Calls Tryz.prog 51 #[.pointer (some ⟨J, 0, none⟩), .int .i64 (i : Int)] wr fun e w' => e = .returned (.tuple #[.agg (entC 0 0 0 0 0 ⟨#[]⟩ 0 0), .bool false]) ∧ Rc K R w' (rdU s (m : Int)).2.2 ∧ KS K wr w' := by
  have x1 : (((e5 : Nat) : Int) != 0) = true := by simp; omega
  clear he
  have HJ := hid (show Jr (fun j => K j ∨ j = wr.heap.size) J R (wr.alloc (.cells (entC 0 0 0 0 0 ⟨#[]⟩ 0 0) 75)) s b n t from ⟨h.cd.more ((Below.refl wr.heap.size wr).alloc (Nat.le_refl _) _) (fun k hk => hk.imp id (fun e => by omega)) (fun k hk => by
      rcases hk with hk | hk
      · have := h.cd.lt k hk; simp; omega
      · subst hk; simp), .inl h.kJ, h.j.below ((Below.refl wr.heap.size wr).alloc (Nat.le_refl _) _)⟩)
  have HX := hid (heap_alloc_new wr (.cells (entC 0 0 0 0 0 ⟨#[]⟩ 0 0) 75))
  have HB0 := hid (KS.of (K := K) ((Below.refl wr.heap.size wr).alloc (Nat.le_refl _) (.cells (entC 0 0 0 0 0 ⟨#[]⟩ 0 0) 75)))
  have HR := hid fun (V : World) (c : Rc (fun j => K j ∨ j = wr.heap.size) R V s) => (show Calls Tryz.prog 68 #[.pointer (some ⟨R, 0, none⟩), .int .i64 (m : Int)] V fun e w' => e = .returned (.tuple #[.string u, .int .i64 (rdU s (m : Int)).2.1]) ∧ Rc (fun j => K j ∨ j = wr.heap.size) R w' (rdU s (m : Int)).2.2 ∧ KS (fun j => K j ∨ j = wr.heap.size) V w' by
    have h2 := c.read hf hk (m : Int)
    rw [hu] at h2; exact h2)
  have hw : wrap64 ((b : Int) + (i : Int)) = (m : Int) := by unfold wrap64; omega
  have HW2 := hid (show IntKind.i64.wrap ((b : Int) + (i : Int)) = (m : Int) by rw [IntKind.wrap_i64]; omega)
  have HJLT := hid h.j.lt
  clear h hm hu
  generalize (rdU s (m : Int)).2.2 = s' at *
  generalize (rdU s (m : Int)).2.1 = c0 at *
  go_enter Tryz.func51, Tryz.ntmps51
  go_wp2_with fail
  generalize wr.alloc (.cells (entC 0 0 0 0 0 ⟨#[]⟩ 0 0) 75) = X at *
  have HJX := hid (HJ.out.next (Below.refl X.heap.size X).drew)
  have x0 := (show X.cell? ⟨J, 0, none⟩ = some (.pointer (some ⟨R, 0, none⟩)) ∧ X.cell? ⟨J, 1, none⟩ = some (.int .i64 (b : Int)) from ⟨HJ.out.j.cells.1, HJ.out.j.cells.2.1⟩)
  have y0 := (show X.drew.cell? ⟨J, 0, none⟩ = some (.pointer (some ⟨R, 0, none⟩)) ∧ X.drew.cell? ⟨J, 1, none⟩ = some (.int .i64 (b : Int)) from ⟨HJX.out.j.cells.1, HJX.out.j.cells.2.1⟩)
  have HY := hid fun (V : World) (hv : KS (fun j => K j ∨ j = wr.heap.size) X.drew V) => (show V.cell? ⟨J, 0, none⟩ = some (.pointer (some ⟨R, 0, none⟩)) ∧ V.cell? ⟨J, 1, none⟩ = some (.int .i64 (b : Int)) from by
    have hj : RAt V J R b n t := (hv.block J HJX.out.j.lt HJX.out.kJ).trans HJX.out.j
    exact ⟨hj.cells.1, hj.cells.2.1⟩)
  go_region_held3 (fun V => V.cell? ⟨J, 0, none⟩ = some (.pointer (some ⟨R, 0, none⟩)) ∧ V.cell? ⟨J, 1, none⟩ = some (.int .i64 (b : Int))) (first | exact x0 | exact y0 | exact y1 | go_keep)
    (first
      | (go_at_call 68; rw [HW2.out]; with_reducible refine (HR.out _ HJX.out.cd).mono ?_; rintro e w1 ⟨rfl, hc, hks⟩; have HJ1 := hid (HJX.out.step hc hks); have HKS1 := hid hks; have y1 := HY.out _ hks; clear hc hks)
      | fail)
  have HB1 := hid (HB0.out.trans ((KS.of (K := K) (Below.refl X.heap.size X).drew).trans (KS.less HKS1.out (fun j e => .inl e))))
  have HX1 := hid (show w1.heap[wr.heap.size]? = some (.cells (entC 0 0 0 0 0 ⟨#[]⟩ 0 0) 75 (0, 0)) from (HKS1.out.block wr.heap.size (show wr.heap.size < X.drew.heap.size from (Array.getElem?_eq_some_iff.1 HX.out).1) (.inr rfl)).trans HX.out)
  clear x0 y0 y1 HY HJX HKS1 HB0 HX HJ HR
  go_wp2_with fail
  refine (Pg.refOpen_at u _ ho).mono ?_
  rintro e w2 ⟨rfl, hb⟩
  have HJ2 := hid (HJ1.out.next hb)
  have HB2 := hid (HB1.out.trans (KS.of hb))
  have HX2 := hid ((hb.block wr.heap.size (Array.getElem?_eq_some_iff.1 HX1.out).1).trans HX1.out)
  clear hb HJ1 HB1 HX1
  have A3 := hid ((Below.refl w2.heap.size w2).alloc (Nat.le_refl _) (.cells #[.int .i64 (k5 : Int), .int .i64 (n2 : Int), .string ⟨bl.toArray⟩] 62))
  have HJ3 := hid (HJ2.out.next A3.out)
  have HB3 := hid (HB2.out.trans (KS.of A3.out))
  have HX3 := hid ((A3.out.block wr.heap.size (Array.getElem?_eq_some_iff.1 HX2.out).1).trans HX2.out)
  have HP3 := hid (heap_alloc_new w2 (.cells #[.int .i64 (k5 : Int), .int .i64 (n2 : Int), .string ⟨bl.toArray⟩] 62))
  go_wp2_with fail
  generalize w2.alloc (.cells #[.int .i64 (k5 : Int), .int .i64 (n2 : Int), .string ⟨bl.toArray⟩] 62) = w3 at *
  have p0 : w3.cell? ⟨w2.heap.size, 0, none⟩ = some (.int .i64 (k5 : Int)) := by rw [cell_of_row _ _ _ _ _ _ HP3.out]; rfl
  have p1 : w3.cell? ⟨w2.heap.size, 1, none⟩ = some (.int .i64 (n2 : Int)) := by rw [cell_of_row _ _ _ _ _ _ HP3.out]; rfl
  have p2 : w3.cell? ⟨w2.heap.size, 2, none⟩ = some (.string ⟨bl.toArray⟩) := by rw [cell_of_row _ _ _ _ _ _ HP3.out]; rfl
  obtain ⟨j0, j1, j2, j3⟩ := HJ3.out.j.cells
  clear j0 j2 j3
  go_quiet (fail)
  have HJ4 := hid (HJ3.out.next (below_drewN (Below.refl w3.heap.size w3) nq))
  have HB4 := hid (HB3.out.trans (KS.of (below_drewN (Below.refl w3.heap.size w3) nq)))
  have HX4 := hid (show (w3.drewN nq).heap[wr.heap.size]? = some (.cells (entC 0 0 0 0 0 ⟨#[]⟩ 0 0) 75 (0, 0)) from HX3.out)
  have r2 : (w3.drewN nq).cell? ⟨w2.heap.size, 2, none⟩ = some (.string ⟨bl.toArray⟩) := p2
  clear p0 p1 p2 j1 HJ3 HB3 HX3 HP3 A3 HJ2 HB2 HX2
  generalize w3.drewN nq = w4 at *
  go_wp2_with (first | (refine wpList_store_whole ?gd 75 (.tmp 4) (.tmp 49) (by with_reducible rfl) ?dd wr.heap.size ?cs ?xx ?yy 75 ?old ?hz ?i ?o ?n ?_))
  case gd => rfl
  case dd => rfl
  case cs => exact (entC 0 0 0 0 0 ⟨#[]⟩ 0 0)
  case xx => rfl
  case yy => rfl
  case old => exact (entC 0 0 0 0 0 ⟨#[]⟩ 0 0)
  case hz => exact HX4.out
  case i => exact En.infoR
  case o => rfl
  case n => exact (oneC _ _ _ _ _ _ _ _)
  obtain ⟨q0, q1, q2, q3, q4, q5, q6, q7⟩ := ent_at (setRow_heap _ _ _ (entC 0 0 0 0 0 ⟨#[]⟩ 0 0) _ _ HX4.out)
  go_wp2_with fail
  refine bodyPost_ret (v := .tuple #[.agg (entC 0 0 0 0 0 ⟨#[]⟩ 0 0), .bool false]) (by simp [results, Tryz.results51, go_sem, q0, q1, q2, q3, q4, q5, q6, q7]) rfl ⟨rfl, ?_, ?_⟩
  · exact (rc_setRow HJ4.out.cd wr.heap.size _ (.inr rfl)).less (fun j e => .inl e)
  · exact KS.setRow HB4.out _ _ (Nat.le_refl _)
set_option maxRecDepth 100000 in
set_option maxHeartbeats 4000000 in
theorem rt_a2 (h : Jr K J R wr s b n t) {k : Nat} (hf : Few s k) (hk : k < 1000000) (i : Nat) (m : Nat) (hm : b + i = m) (hmm : m < 1000) (u : ByteArray) (hu : (rdU s (m : Int)).1 = u) (k5 n2 : Nat) (bl : List UInt8) (ho : openL u.data.toList = (k5, n2, bl, 0)) (he : k5 ≠ 5) :
    Calls Tryz.prog 51 #[.pointer (some ⟨J, 0, none⟩), .int .i64 (i : Int)] wr fun e w' => e = .returned (.tuple #[.agg (entC 0 0 0 0 0 ⟨#[]⟩ 0 0), .bool false]) ∧ Rc K R w' (rdU s (m : Int)).2.2 ∧ KS K wr w' := by
  have x1 : (((k5 : Nat) : Int) != 5) = true := by simp; omega
  clear he
  have HJ := hid (show Jr (fun j => K j ∨ j = wr.heap.size) J R (wr.alloc (.cells (entC 0 0 0 0 0 ⟨#[]⟩ 0 0) 75)) s b n t from ⟨h.cd.more ((Below.refl wr.heap.size wr).alloc (Nat.le_refl _) _) (fun k hk => hk.imp id (fun e => by omega)) (fun k hk => by
      rcases hk with hk | hk
      · have := h.cd.lt k hk; simp; omega
      · subst hk; simp), .inl h.kJ, h.j.below ((Below.refl wr.heap.size wr).alloc (Nat.le_refl _) _)⟩)
  have HX := hid (heap_alloc_new wr (.cells (entC 0 0 0 0 0 ⟨#[]⟩ 0 0) 75))
  have HB0 := hid (KS.of (K := K) ((Below.refl wr.heap.size wr).alloc (Nat.le_refl _) (.cells (entC 0 0 0 0 0 ⟨#[]⟩ 0 0) 75)))
  have HR := hid fun (V : World) (c : Rc (fun j => K j ∨ j = wr.heap.size) R V s) => (show Calls Tryz.prog 68 #[.pointer (some ⟨R, 0, none⟩), .int .i64 (m : Int)] V fun e w' => e = .returned (.tuple #[.string u, .int .i64 (rdU s (m : Int)).2.1]) ∧ Rc (fun j => K j ∨ j = wr.heap.size) R w' (rdU s (m : Int)).2.2 ∧ KS (fun j => K j ∨ j = wr.heap.size) V w' by
    have h2 := c.read hf hk (m : Int)
    rw [hu] at h2; exact h2)
  have hw : wrap64 ((b : Int) + (i : Int)) = (m : Int) := by unfold wrap64; omega
  have HW2 := hid (show IntKind.i64.wrap ((b : Int) + (i : Int)) = (m : Int) by rw [IntKind.wrap_i64]; omega)
  have HJLT := hid h.j.lt
  clear h hm hu
  generalize (rdU s (m : Int)).2.2 = s' at *
  generalize (rdU s (m : Int)).2.1 = c0 at *
  go_enter Tryz.func51, Tryz.ntmps51
  go_wp2_with fail
  generalize wr.alloc (.cells (entC 0 0 0 0 0 ⟨#[]⟩ 0 0) 75) = X at *
  have HJX := hid (HJ.out.next (Below.refl X.heap.size X).drew)
  have x0 := (show X.cell? ⟨J, 0, none⟩ = some (.pointer (some ⟨R, 0, none⟩)) ∧ X.cell? ⟨J, 1, none⟩ = some (.int .i64 (b : Int)) from ⟨HJ.out.j.cells.1, HJ.out.j.cells.2.1⟩)
  have y0 := (show X.drew.cell? ⟨J, 0, none⟩ = some (.pointer (some ⟨R, 0, none⟩)) ∧ X.drew.cell? ⟨J, 1, none⟩ = some (.int .i64 (b : Int)) from ⟨HJX.out.j.cells.1, HJX.out.j.cells.2.1⟩)
  have HY := hid fun (V : World) (hv : KS (fun j => K j ∨ j = wr.heap.size) X.drew V) => (show V.cell? ⟨J, 0, none⟩ = some (.pointer (some ⟨R, 0, none⟩)) ∧ V.cell? ⟨J, 1, none⟩ = some (.int .i64 (b : Int)) from by
    have hj : RAt V J R b n t := (hv.block J HJX.out.j.lt HJX.out.kJ).trans HJX.out.j
    exact ⟨hj.cells.1, hj.cells.2.1⟩)
  go_region_held3 (fun V => V.cell? ⟨J, 0, none⟩ = some (.pointer (some ⟨R, 0, none⟩)) ∧ V.cell? ⟨J, 1, none⟩ = some (.int .i64 (b : Int))) (first | exact x0 | exact y0 | exact y1 | go_keep)
    (first
      | (go_at_call 68; rw [HW2.out]; with_reducible refine (HR.out _ HJX.out.cd).mono ?_; rintro e w1 ⟨rfl, hc, hks⟩; have HJ1 := hid (HJX.out.step hc hks); have HKS1 := hid hks; have y1 := HY.out _ hks; clear hc hks)
      | fail)
  have HB1 := hid (HB0.out.trans ((KS.of (K := K) (Below.refl X.heap.size X).drew).trans (KS.less HKS1.out (fun j e => .inl e))))
  have HX1 := hid (show w1.heap[wr.heap.size]? = some (.cells (entC 0 0 0 0 0 ⟨#[]⟩ 0 0) 75 (0, 0)) from (HKS1.out.block wr.heap.size (show wr.heap.size < X.drew.heap.size from (Array.getElem?_eq_some_iff.1 HX.out).1) (.inr rfl)).trans HX.out)
  clear x0 y0 y1 HY HJX HKS1 HB0 HX HJ HR
  go_wp2_with fail
  refine (Pg.refOpen_at u _ ho).mono ?_
  rintro e w2 ⟨rfl, hb⟩
  have HJ2 := hid (HJ1.out.next hb)
  have HB2 := hid (HB1.out.trans (KS.of hb))
  have HX2 := hid ((hb.block wr.heap.size (Array.getElem?_eq_some_iff.1 HX1.out).1).trans HX1.out)
  clear hb HJ1 HB1 HX1
  have A3 := hid ((Below.refl w2.heap.size w2).alloc (Nat.le_refl _) (.cells #[.int .i64 (k5 : Int), .int .i64 (n2 : Int), .string ⟨bl.toArray⟩] 62))
  have HJ3 := hid (HJ2.out.next A3.out)
  have HB3 := hid (HB2.out.trans (KS.of A3.out))
  have HX3 := hid ((A3.out.block wr.heap.size (Array.getElem?_eq_some_iff.1 HX2.out).1).trans HX2.out)
  have HP3 := hid (heap_alloc_new w2 (.cells #[.int .i64 (k5 : Int), .int .i64 (n2 : Int), .string ⟨bl.toArray⟩] 62))
  go_wp2_with fail
  generalize w2.alloc (.cells #[.int .i64 (k5 : Int), .int .i64 (n2 : Int), .string ⟨bl.toArray⟩] 62) = w3 at *
  have p0 : w3.cell? ⟨w2.heap.size, 0, none⟩ = some (.int .i64 (k5 : Int)) := by rw [cell_of_row _ _ _ _ _ _ HP3.out]; rfl
  have p1 : w3.cell? ⟨w2.heap.size, 1, none⟩ = some (.int .i64 (n2 : Int)) := by rw [cell_of_row _ _ _ _ _ _ HP3.out]; rfl
  have p2 : w3.cell? ⟨w2.heap.size, 2, none⟩ = some (.string ⟨bl.toArray⟩) := by rw [cell_of_row _ _ _ _ _ _ HP3.out]; rfl
  obtain ⟨j0, j1, j2, j3⟩ := HJ3.out.j.cells
  clear j0 j2 j3
  go_quiet (fail)
  have HJ4 := hid (HJ3.out.next (below_drewN (Below.refl w3.heap.size w3) nq))
  have HB4 := hid (HB3.out.trans (KS.of (below_drewN (Below.refl w3.heap.size w3) nq)))
  have HX4 := hid (show (w3.drewN nq).heap[wr.heap.size]? = some (.cells (entC 0 0 0 0 0 ⟨#[]⟩ 0 0) 75 (0, 0)) from HX3.out)
  have r2 : (w3.drewN nq).cell? ⟨w2.heap.size, 2, none⟩ = some (.string ⟨bl.toArray⟩) := p2
  clear p0 p1 p2 j1 HJ3 HB3 HX3 HP3 A3 HJ2 HB2 HX2
  generalize w3.drewN nq = w4 at *
  go_wp2_with (first | (refine wpList_store_whole ?gd 75 (.tmp 4) (.tmp 49) (by with_reducible rfl) ?dd wr.heap.size ?cs ?xx ?yy 75 ?old ?hz ?i ?o ?n ?_))
  case gd => rfl
  case dd => rfl
  case cs => exact (entC 0 0 0 0 0 ⟨#[]⟩ 0 0)
  case xx => rfl
  case yy => rfl
  case old => exact (entC 0 0 0 0 0 ⟨#[]⟩ 0 0)
  case hz => exact HX4.out
  case i => exact En.infoR
  case o => rfl
  case n => exact (oneC _ _ _ _ _ _ _ _)
  obtain ⟨q0, q1, q2, q3, q4, q5, q6, q7⟩ := ent_at (setRow_heap _ _ _ (entC 0 0 0 0 0 ⟨#[]⟩ 0 0) _ _ HX4.out)
  go_wp2_with fail
  refine bodyPost_ret (v := .tuple #[.agg (entC 0 0 0 0 0 ⟨#[]⟩ 0 0), .bool false]) (by simp [results, Tryz.results51, go_sem, q0, q1, q2, q3, q4, q5, q6, q7]) rfl ⟨rfl, ?_, ?_⟩
  · exact (rc_setRow HJ4.out.cd wr.heap.size _ (.inr rfl)).less (fun j e => .inl e)
  · exact KS.setRow HB4.out _ _ (Nat.le_refl _)
set_option maxRecDepth 100000 in
set_option maxHeartbeats 4000000 in
theorem rt_a3 (h : Jr K J R wr s b n t) {k : Nat} (hf : Few s k) (hk : k < 1000000) (i : Nat) (m : Nat) (hm : b + i = m) (hmm : m < 1000) (u : ByteArray) (hu : (rdU s (m : Int)).1 = u) (n2 : Nat) (bl : List UInt8) (ho : openL u.data.toList = (5, n2, bl, 0)) (he : n2 ≠ m) :
    Calls Tryz.prog 51 #[.pointer (some ⟨J, 0, none⟩), .int .i64 (i : Int)] wr fun e w' => e = .returned (.tuple #[.agg (entC 0 0 0 0 0 ⟨#[]⟩ 0 0), .bool false]) ∧ Rc K R w' (rdU s (m : Int)).2.2 ∧ KS K wr w' := by
  have x1 : (((n2 : Nat) : Int) != (m : Int)) = true := by simp; omega
  clear he
  have HJ := hid (show Jr (fun j => K j ∨ j = wr.heap.size) J R (wr.alloc (.cells (entC 0 0 0 0 0 ⟨#[]⟩ 0 0) 75)) s b n t from ⟨h.cd.more ((Below.refl wr.heap.size wr).alloc (Nat.le_refl _) _) (fun k hk => hk.imp id (fun e => by omega)) (fun k hk => by
      rcases hk with hk | hk
      · have := h.cd.lt k hk; simp; omega
      · subst hk; simp), .inl h.kJ, h.j.below ((Below.refl wr.heap.size wr).alloc (Nat.le_refl _) _)⟩)
  have HX := hid (heap_alloc_new wr (.cells (entC 0 0 0 0 0 ⟨#[]⟩ 0 0) 75))
  have HB0 := hid (KS.of (K := K) ((Below.refl wr.heap.size wr).alloc (Nat.le_refl _) (.cells (entC 0 0 0 0 0 ⟨#[]⟩ 0 0) 75)))
  have HR := hid fun (V : World) (c : Rc (fun j => K j ∨ j = wr.heap.size) R V s) => (show Calls Tryz.prog 68 #[.pointer (some ⟨R, 0, none⟩), .int .i64 (m : Int)] V fun e w' => e = .returned (.tuple #[.string u, .int .i64 (rdU s (m : Int)).2.1]) ∧ Rc (fun j => K j ∨ j = wr.heap.size) R w' (rdU s (m : Int)).2.2 ∧ KS (fun j => K j ∨ j = wr.heap.size) V w' by
    have h2 := c.read hf hk (m : Int)
    rw [hu] at h2; exact h2)
  have hw : wrap64 ((b : Int) + (i : Int)) = (m : Int) := by unfold wrap64; omega
  have HW2 := hid (show IntKind.i64.wrap ((b : Int) + (i : Int)) = (m : Int) by rw [IntKind.wrap_i64]; omega)
  have HJLT := hid h.j.lt
  clear h hm hu
  generalize (rdU s (m : Int)).2.2 = s' at *
  generalize (rdU s (m : Int)).2.1 = c0 at *
  go_enter Tryz.func51, Tryz.ntmps51
  go_wp2_with fail
  generalize wr.alloc (.cells (entC 0 0 0 0 0 ⟨#[]⟩ 0 0) 75) = X at *
  have HJX := hid (HJ.out.next (Below.refl X.heap.size X).drew)
  have x0 := (show X.cell? ⟨J, 0, none⟩ = some (.pointer (some ⟨R, 0, none⟩)) ∧ X.cell? ⟨J, 1, none⟩ = some (.int .i64 (b : Int)) from ⟨HJ.out.j.cells.1, HJ.out.j.cells.2.1⟩)
  have y0 := (show X.drew.cell? ⟨J, 0, none⟩ = some (.pointer (some ⟨R, 0, none⟩)) ∧ X.drew.cell? ⟨J, 1, none⟩ = some (.int .i64 (b : Int)) from ⟨HJX.out.j.cells.1, HJX.out.j.cells.2.1⟩)
  have HY := hid fun (V : World) (hv : KS (fun j => K j ∨ j = wr.heap.size) X.drew V) => (show V.cell? ⟨J, 0, none⟩ = some (.pointer (some ⟨R, 0, none⟩)) ∧ V.cell? ⟨J, 1, none⟩ = some (.int .i64 (b : Int)) from by
    have hj : RAt V J R b n t := (hv.block J HJX.out.j.lt HJX.out.kJ).trans HJX.out.j
    exact ⟨hj.cells.1, hj.cells.2.1⟩)
  go_region_held3 (fun V => V.cell? ⟨J, 0, none⟩ = some (.pointer (some ⟨R, 0, none⟩)) ∧ V.cell? ⟨J, 1, none⟩ = some (.int .i64 (b : Int))) (first | exact x0 | exact y0 | exact y1 | go_keep)
    (first
      | (go_at_call 68; rw [HW2.out]; with_reducible refine (HR.out _ HJX.out.cd).mono ?_; rintro e w1 ⟨rfl, hc, hks⟩; have HJ1 := hid (HJX.out.step hc hks); have HKS1 := hid hks; have y1 := HY.out _ hks; clear hc hks)
      | fail)
  have HB1 := hid (HB0.out.trans ((KS.of (K := K) (Below.refl X.heap.size X).drew).trans (KS.less HKS1.out (fun j e => .inl e))))
  have HX1 := hid (show w1.heap[wr.heap.size]? = some (.cells (entC 0 0 0 0 0 ⟨#[]⟩ 0 0) 75 (0, 0)) from (HKS1.out.block wr.heap.size (show wr.heap.size < X.drew.heap.size from (Array.getElem?_eq_some_iff.1 HX.out).1) (.inr rfl)).trans HX.out)
  clear x0 y0 y1 HY HJX HKS1 HB0 HX HJ HR
  go_wp2_with fail
  refine (Pg.refOpen_at u _ ho).mono ?_
  rintro e w2 ⟨rfl, hb⟩
  have HJ2 := hid (HJ1.out.next hb)
  have HB2 := hid (HB1.out.trans (KS.of hb))
  have HX2 := hid ((hb.block wr.heap.size (Array.getElem?_eq_some_iff.1 HX1.out).1).trans HX1.out)
  clear hb HJ1 HB1 HX1
  have A3 := hid ((Below.refl w2.heap.size w2).alloc (Nat.le_refl _) (.cells #[.int .i64 5, .int .i64 (n2 : Int), .string ⟨bl.toArray⟩] 62))
  have HJ3 := hid (HJ2.out.next A3.out)
  have HB3 := hid (HB2.out.trans (KS.of A3.out))
  have HX3 := hid ((A3.out.block wr.heap.size (Array.getElem?_eq_some_iff.1 HX2.out).1).trans HX2.out)
  have HP3 := hid (heap_alloc_new w2 (.cells #[.int .i64 5, .int .i64 (n2 : Int), .string ⟨bl.toArray⟩] 62))
  go_wp2_with fail
  generalize w2.alloc (.cells #[.int .i64 5, .int .i64 (n2 : Int), .string ⟨bl.toArray⟩] 62) = w3 at *
  have p0 : w3.cell? ⟨w2.heap.size, 0, none⟩ = some (.int .i64 5) := by rw [cell_of_row _ _ _ _ _ _ HP3.out]; rfl
  have p1 : w3.cell? ⟨w2.heap.size, 1, none⟩ = some (.int .i64 (n2 : Int)) := by rw [cell_of_row _ _ _ _ _ _ HP3.out]; rfl
  have p2 : w3.cell? ⟨w2.heap.size, 2, none⟩ = some (.string ⟨bl.toArray⟩) := by rw [cell_of_row _ _ _ _ _ _ HP3.out]; rfl
  obtain ⟨j0, j1, j2, j3⟩ := HJ3.out.j.cells
  clear j0 j2 j3
  go_quiet (fail)
  have HJ4 := hid (HJ3.out.next (below_drewN (Below.refl w3.heap.size w3) nq))
  have HB4 := hid (HB3.out.trans (KS.of (below_drewN (Below.refl w3.heap.size w3) nq)))
  have HX4 := hid (show (w3.drewN nq).heap[wr.heap.size]? = some (.cells (entC 0 0 0 0 0 ⟨#[]⟩ 0 0) 75 (0, 0)) from HX3.out)
  have r2 : (w3.drewN nq).cell? ⟨w2.heap.size, 2, none⟩ = some (.string ⟨bl.toArray⟩) := p2
  clear p0 p1 p2 j1 HJ3 HB3 HX3 HP3 A3 HJ2 HB2 HX2
  generalize w3.drewN nq = w4 at *
  go_wp2_with (first | (refine wpList_store_whole ?gd 75 (.tmp 4) (.tmp 49) (by with_reducible rfl) ?dd wr.heap.size ?cs ?xx ?yy 75 ?old ?hz ?i ?o ?n ?_))
  case gd => rfl
  case dd => rfl
  case cs => exact (entC 0 0 0 0 0 ⟨#[]⟩ 0 0)
  case xx => rfl
  case yy => rfl
  case old => exact (entC 0 0 0 0 0 ⟨#[]⟩ 0 0)
  case hz => exact HX4.out
  case i => exact En.infoR
  case o => rfl
  case n => exact (oneC _ _ _ _ _ _ _ _)
  obtain ⟨q0, q1, q2, q3, q4, q5, q6, q7⟩ := ent_at (setRow_heap _ _ _ (entC 0 0 0 0 0 ⟨#[]⟩ 0 0) _ _ HX4.out)
  go_wp2_with fail
  refine bodyPost_ret (v := .tuple #[.agg (entC 0 0 0 0 0 ⟨#[]⟩ 0 0), .bool false]) (by simp [results, Tryz.results51, go_sem, q0, q1, q2, q3, q4, q5, q6, q7]) rfl ⟨rfl, ?_, ?_⟩
  · exact (rc_setRow HJ4.out.cd wr.heap.size _ (.inr rfl)).less (fun j e => .inl e)
  · exact KS.setRow HB4.out _ _ (Nat.le_refl _)
set_option maxRecDepth 100000 in
set_option maxHeartbeats 4000000 in
theorem rt_b1 (h : Jr K J R wr s b n t) {k : Nat} (hf : Few s k) (hk : k < 1000000) (i : Nat) (m : Nat) (hm : b + i = m) (hmm : m < 1000) (u : ByteArray) (hu : (rdU s (m : Int)).1 = u) (bl : List UInt8) (c : Int) (kd tx ix pk pn : Int) (bo : ByteArray) (ct sm : Int) (ho : openL u.data.toList = (5, m, bl, 0)) (hc : c ≠ 0) (hD : ∀ V : World, Calls Tryz.prog 70 #[.string ⟨bl.toArray⟩] V fun e w' => e = .returned (.tuple #[.agg (entC kd tx ix pk pn bo ct sm), .int .i64 c]) ∧ Below V.heap.size V w') :
    Calls Tryz.prog 51 #[.pointer (some ⟨J, 0, none⟩), .int .i64 (i : Int)] wr fun e w' => e = .returned (.tuple #[.agg (entC kd tx ix pk pn bo ct sm), .bool false]) ∧ Rc K R w' (rdU s (m : Int)).2.2 ∧ KS K wr w' := by
  have x1 : (c == 0) = false := by simpa using hc
  clear hc
  have HD := hid hD
  clear hD
  have HJ := hid (show Jr (fun j => K j ∨ j = wr.heap.size) J R (wr.alloc (.cells (entC 0 0 0 0 0 ⟨#[]⟩ 0 0) 75)) s b n t from ⟨h.cd.more ((Below.refl wr.heap.size wr).alloc (Nat.le_refl _) _) (fun k hk => hk.imp id (fun e => by omega)) (fun k hk => by
      rcases hk with hk | hk
      · have := h.cd.lt k hk; simp; omega
      · subst hk; simp), .inl h.kJ, h.j.below ((Below.refl wr.heap.size wr).alloc (Nat.le_refl _) _)⟩)
  have HX := hid (heap_alloc_new wr (.cells (entC 0 0 0 0 0 ⟨#[]⟩ 0 0) 75))
  have HB0 := hid (KS.of (K := K) ((Below.refl wr.heap.size wr).alloc (Nat.le_refl _) (.cells (entC 0 0 0 0 0 ⟨#[]⟩ 0 0) 75)))
  have HR := hid fun (V : World) (c : Rc (fun j => K j ∨ j = wr.heap.size) R V s) => (show Calls Tryz.prog 68 #[.pointer (some ⟨R, 0, none⟩), .int .i64 (m : Int)] V fun e w' => e = .returned (.tuple #[.string u, .int .i64 (rdU s (m : Int)).2.1]) ∧ Rc (fun j => K j ∨ j = wr.heap.size) R w' (rdU s (m : Int)).2.2 ∧ KS (fun j => K j ∨ j = wr.heap.size) V w' by
    have h2 := c.read hf hk (m : Int)
    rw [hu] at h2; exact h2)
  have hw : wrap64 ((b : Int) + (i : Int)) = (m : Int) := by unfold wrap64; omega
  have HW2 := hid (show IntKind.i64.wrap ((b : Int) + (i : Int)) = (m : Int) by rw [IntKind.wrap_i64]; omega)
  have HJLT := hid h.j.lt
  clear h hm hu
  generalize (rdU s (m : Int)).2.2 = s' at *
  generalize (rdU s (m : Int)).2.1 = c0 at *
  go_enter Tryz.func51, Tryz.ntmps51
  go_wp2_with fail
  generalize wr.alloc (.cells (entC 0 0 0 0 0 ⟨#[]⟩ 0 0) 75) = X at *
  have HJX := hid (HJ.out.next (Below.refl X.heap.size X).drew)
  have x0 := (show X.cell? ⟨J, 0, none⟩ = some (.pointer (some ⟨R, 0, none⟩)) ∧ X.cell? ⟨J, 1, none⟩ = some (.int .i64 (b : Int)) from ⟨HJ.out.j.cells.1, HJ.out.j.cells.2.1⟩)
  have y0 := (show X.drew.cell? ⟨J, 0, none⟩ = some (.pointer (some ⟨R, 0, none⟩)) ∧ X.drew.cell? ⟨J, 1, none⟩ = some (.int .i64 (b : Int)) from ⟨HJX.out.j.cells.1, HJX.out.j.cells.2.1⟩)
  have HY := hid fun (V : World) (hv : KS (fun j => K j ∨ j = wr.heap.size) X.drew V) => (show V.cell? ⟨J, 0, none⟩ = some (.pointer (some ⟨R, 0, none⟩)) ∧ V.cell? ⟨J, 1, none⟩ = some (.int .i64 (b : Int)) from by
    have hj : RAt V J R b n t := (hv.block J HJX.out.j.lt HJX.out.kJ).trans HJX.out.j
    exact ⟨hj.cells.1, hj.cells.2.1⟩)
  go_region_held3 (fun V => V.cell? ⟨J, 0, none⟩ = some (.pointer (some ⟨R, 0, none⟩)) ∧ V.cell? ⟨J, 1, none⟩ = some (.int .i64 (b : Int))) (first | exact x0 | exact y0 | exact y1 | go_keep)
    (first
      | (go_at_call 68; rw [HW2.out]; with_reducible refine (HR.out _ HJX.out.cd).mono ?_; rintro e w1 ⟨rfl, hc, hks⟩; have HJ1 := hid (HJX.out.step hc hks); have HKS1 := hid hks; have y1 := HY.out _ hks; clear hc hks)
      | fail)
  have HB1 := hid (HB0.out.trans ((KS.of (K := K) (Below.refl X.heap.size X).drew).trans (KS.less HKS1.out (fun j e => .inl e))))
  have HX1 := hid (show w1.heap[wr.heap.size]? = some (.cells (entC 0 0 0 0 0 ⟨#[]⟩ 0 0) 75 (0, 0)) from (HKS1.out.block wr.heap.size (show wr.heap.size < X.drew.heap.size from (Array.getElem?_eq_some_iff.1 HX.out).1) (.inr rfl)).trans HX.out)
  clear x0 y0 y1 HY HJX HKS1 HB0 HX HJ HR
  go_wp2_with fail
  refine (Pg.refOpen_at u _ ho).mono ?_
  rintro e w2 ⟨rfl, hb⟩
  have HJ2 := hid (HJ1.out.next hb)
  have HB2 := hid (HB1.out.trans (KS.of hb))
  have HX2 := hid ((hb.block wr.heap.size (Array.getElem?_eq_some_iff.1 HX1.out).1).trans HX1.out)
  clear hb HJ1 HB1 HX1
  have A3 := hid ((Below.refl w2.heap.size w2).alloc (Nat.le_refl _) (.cells #[.int .i64 5, .int .i64 (m : Int), .string ⟨bl.toArray⟩] 62))
  have HJ3 := hid (HJ2.out.next A3.out)
  have HB3 := hid (HB2.out.trans (KS.of A3.out))
  have HX3 := hid ((A3.out.block wr.heap.size (Array.getElem?_eq_some_iff.1 HX2.out).1).trans HX2.out)
  have HP3 := hid (heap_alloc_new w2 (.cells #[.int .i64 5, .int .i64 (m : Int), .string ⟨bl.toArray⟩] 62))
  go_wp2_with fail
  generalize w2.alloc (.cells #[.int .i64 5, .int .i64 (m : Int), .string ⟨bl.toArray⟩] 62) = w3 at *
  have p0 : w3.cell? ⟨w2.heap.size, 0, none⟩ = some (.int .i64 5) := by rw [cell_of_row _ _ _ _ _ _ HP3.out]; rfl
  have p1 : w3.cell? ⟨w2.heap.size, 1, none⟩ = some (.int .i64 (m : Int)) := by rw [cell_of_row _ _ _ _ _ _ HP3.out]; rfl
  have p2 : w3.cell? ⟨w2.heap.size, 2, none⟩ = some (.string ⟨bl.toArray⟩) := by rw [cell_of_row _ _ _ _ _ _ HP3.out]; rfl
  obtain ⟨j0, j1, j2, j3⟩ := HJ3.out.j.cells
  clear j0 j2 j3
  go_quiet (fail)
  have HJ4 := hid (HJ3.out.next (below_drewN (Below.refl w3.heap.size w3) nq))
  have HB4 := hid (HB3.out.trans (KS.of (below_drewN (Below.refl w3.heap.size w3) nq)))
  have HX4 := hid (show (w3.drewN nq).heap[wr.heap.size]? = some (.cells (entC 0 0 0 0 0 ⟨#[]⟩ 0 0) 75 (0, 0)) from HX3.out)
  have r2 : (w3.drewN nq).cell? ⟨w2.heap.size, 2, none⟩ = some (.string ⟨bl.toArray⟩) := p2
  clear p0 p1 p2 j1 HJ3 HB3 HX3 HP3 A3 HJ2 HB2 HX2
  generalize w3.drewN nq = w4 at *
  go_wp2_with fail
  refine (HD.out _).mono ?_
  rintro e w5 ⟨rfl, hb⟩
  have HJ5 := hid (HJ4.out.next hb)
  have HB5 := hid (HB4.out.trans (KS.of hb))
  have HX5 := hid ((hb.block wr.heap.size (Array.getElem?_eq_some_iff.1 HX4.out).1).trans HX4.out)
  clear hb HJ4 HB4 HX4 r2
  have A6 := hid ((Below.refl w5.heap.size w5).alloc (Nat.le_refl _) (.cells (entC kd tx ix pk pn bo ct sm) 75))
  have HJ6 := hid (HJ5.out.next A6.out)
  have HB6 := hid (HB5.out.trans (KS.of A6.out))
  have HX6 := hid ((A6.out.block wr.heap.size (Array.getElem?_eq_some_iff.1 HX5.out).1).trans HX5.out)
  have HP6 := hid (heap_alloc_new w5 (.cells (entC kd tx ix pk pn bo ct sm) 75))
  go_wp2_with fail
  generalize w5.alloc (.cells (entC kd tx ix pk pn bo ct sm) 75) = w6 at *
  obtain ⟨j0, j1, j2, j3⟩ := HJ6.out.j.cells
  obtain ⟨p0, p1, p2, p3, p4, p5, p6, p7⟩ := ent_at HP6.out
  clear j0 j1 j2
  have HX7 := hid (show w6.drew.heap[wr.heap.size]? = some (.cells (entC 0 0 0 0 0 ⟨#[]⟩ 0 0) 75 (0, 0)) from HX6.out)
  have HJ7 := hid (HJ6.out.next (Below.refl w6.heap.size w6).drew)
  have HB7 := hid (HB6.out.trans (KS.of (Below.refl w6.heap.size w6).drew))
  have g0 := (show w6.drew.cell? ⟨w5.heap.size, 0, none⟩ = _ from p0)
  have g1 := (show w6.drew.cell? ⟨w5.heap.size, 1, none⟩ = _ from p1)
  have g2 := (show w6.drew.cell? ⟨w5.heap.size, 2, none⟩ = _ from p2)
  have g3 := (show w6.drew.cell? ⟨w5.heap.size, 3, none⟩ = _ from p3)
  have g4 := (show w6.drew.cell? ⟨w5.heap.size, 4, none⟩ = _ from p4)
  have g5 := (show w6.drew.cell? ⟨w5.heap.size, 5, none⟩ = _ from p5)
  have g6 := (show w6.drew.cell? ⟨w5.heap.size, 6, none⟩ = _ from p6)
  have g7 := (show w6.drew.cell? ⟨w5.heap.size, 7, none⟩ = _ from p7)
  have h3 := (show w6.drew.cell? ⟨J, 3, none⟩ = _ from j3)
  have HNE5 := hid (show ∀ k, (⟨w5.heap.size, k, none⟩ : Addr).block ≠ wr.heap.size from fun k e => by have e8 : w5.heap.size = wr.heap.size := e; have := (Array.getElem?_eq_some_iff.1 HX5.out).1; omega)
  have HNEJ := hid (show (⟨J, 3, none⟩ : Addr).block ≠ wr.heap.size from fun e => by have e8 : J = wr.heap.size := e; have := HJLT.out; omega)
  refine wp_region_held_drew (S := (fun V => V.cell? ⟨w5.heap.size, 0, none⟩ = some (.int .i64 kd) ∧ V.cell? ⟨w5.heap.size, 1, none⟩ = some (.int .i64 tx) ∧ V.cell? ⟨w5.heap.size, 2, none⟩ = some (.int .i64 ix) ∧ V.cell? ⟨w5.heap.size, 3, none⟩ = some (.int .i64 pk) ∧ V.cell? ⟨w5.heap.size, 4, none⟩ = some (.int .i64 pn) ∧ V.cell? ⟨w5.heap.size, 5, none⟩ = some (.string bo) ∧ V.cell? ⟨w5.heap.size, 6, none⟩ = some (.int .i64 ct) ∧ V.cell? ⟨w5.heap.size, 7, none⟩ = some (.int .u32 sm) ∧ V.cell? ⟨J, 3, none⟩ = some (.int .i64 (t : Int)))) (by kernel_rfl) (by exact ⟨g0, g1, g2, g3, g4, g5, g6, g7, h3⟩) (fun hHeld => ?_)
  refine wpAnyH_take (i := 0) (oi := { dst := some 56, op := Op.load 75 (Operand.tmp 10), type := 75, pos := "ref.go:72", after := #[], guard := none }) (v := ?vc0) rfl (by kernel_rfl) (by kernel_rfl) (by kernel_rfl) (fun _ _ _ h => h) (Or.inl ⟨by rfl, ?hyc0⟩) (by assumption) ?restc0
  case hyc0 => (intro w hSw; (try dsimp only at hSw); go_simp; (try with_reducible rfl))
  simp only [Act.put, List.setIfInBounds_toArray, List.set_cons_zero, List.set_cons_succ]
  refine wpAnyH_take (i := 1) (oi := { dst := some 57, op := Op.move (Operand.tmp 11), type := 27, pos := "ref.go:72", after := #[], guard := none }) (v := ?vc1) rfl (by kernel_rfl) (by kernel_rfl) (by kernel_rfl) (fun _ _ _ h => h) (Or.inl ⟨by rfl, ?hyc1⟩) (by assumption) ?restc1
  case hyc1 => (intro w hSw; (try dsimp only at hSw); go_simp; (try with_reducible rfl))
  simp only [Act.put, List.setIfInBounds_toArray, List.set_cons_zero, List.set_cons_succ]
  refine wpAnyH_take (i := 2) (oi := { dst := some 58, op := Op.binOp BinOp.eql 27 (Operand.tmp 57) (Operand.const (Value.int IntKind.i64 0)) 27, type := 4, pos := "ref.go:72", after := #[{ on := 1, ground := Ground.data }], guard := none }) (v := ?vc2) rfl (by kernel_rfl) (by kernel_rfl) (by kernel_rfl) (fun _ _ _ h => h) (Or.inl ⟨by rfl, ?hyc2⟩) (by assumption) ?restc2
  case hyc2 => (intro w hSw; (try dsimp only at hSw); go_simp; (try with_reducible rfl))
  simp only [Act.put, List.setIfInBounds_toArray, List.set_cons_zero, List.set_cons_succ]
  refine wpAnyH_take (i := 3) (oi := { dst := some 59, op := Op.move (Operand.tmp 58), type := 4, pos := "ref.go:72", after := #[{ on := 2, ground := Ground.data }], guard := none }) (v := ?vc3) rfl (by kernel_rfl) (by kernel_rfl) (by kernel_rfl) (fun _ _ _ h => h) (Or.inl ⟨by rfl, ?hyc3⟩) (by assumption) ?restc3
  case hyc3 => (intro w hSw; (try dsimp only at hSw); go_simp; (try with_reducible rfl))
  simp only [Act.put, List.setIfInBounds_toArray, List.set_cons_zero, List.set_cons_succ]
  refine wpAnyH_take (i := 4) (oi := { dst := some 60, op := Op.fieldAddr 75 (Operand.tmp 10) 1, type := 0, pos := "ref.go:72", after := #[{ on := 3, ground := Ground.guard }, { on := 12, ground := Ground.gcOnly Departure.lateStores }], guard := some (3, true) }) (v := undef) rfl (by kernel_rfl) (by kernel_rfl) (by kernel_rfl) (fun _ _ _ h => h) (Or.inr ⟨by rfl, rfl⟩) (by assumption) ?restc4
  simp only [Act.put, List.setIfInBounds_toArray, List.set_cons_zero, List.set_cons_succ]
  refine wpAnyH_take (i := 5) (oi := { dst := some 61, op := Op.load 3 (Operand.tmp 60), type := 3, pos := "ref.go:72", after := #[{ on := 4, ground := Ground.data }, { on := 3, ground := Ground.guard }, { on := 12, ground := Ground.gcOnly Departure.lateStores }], guard := some (3, true) }) (v := undef) rfl (by kernel_rfl) (by kernel_rfl) (by kernel_rfl) (fun _ _ _ h => h) (Or.inr ⟨by rfl, rfl⟩) (by assumption) ?restc5
  simp only [Act.put, List.setIfInBounds_toArray, List.set_cons_zero, List.set_cons_succ]
  refine wpAnyH_take (i := 6) (oi := { dst := some 62, op := Op.move (Operand.tmp 0), type := 36, pos := "ref.go:72", after := #[{ on := 3, ground := Ground.guard }, { on := 12, ground := Ground.gcOnly Departure.lateStores }], guard := some (3, true) }) (v := undef) rfl (by kernel_rfl) (by kernel_rfl) (by kernel_rfl) (fun _ _ _ h => h) (Or.inr ⟨by rfl, rfl⟩) (by assumption) ?restc6
  simp only [Act.put, List.setIfInBounds_toArray, List.set_cons_zero, List.set_cons_succ]
  refine wpAnyH_take (i := 7) (oi := { dst := some 63, op := Op.nilCheck (Operand.tmp 62), type := 0, pos := "ref.go:72", after := #[{ on := 6, ground := Ground.data }, { on := 3, ground := Ground.guard }, { on := 12, ground := Ground.gcOnly Departure.lateStores }], guard := some (3, true) }) (v := undef) rfl (by kernel_rfl) (by kernel_rfl) (by kernel_rfl) (fun _ _ _ h => h) (Or.inr ⟨by rfl, rfl⟩) (by assumption) ?restc7
  simp only [Act.put, List.setIfInBounds_toArray, List.set_cons_zero, List.set_cons_succ]
  refine wpAnyH_take (i := 8) (oi := { dst := some 64, op := Op.fieldAddr 53 (Operand.tmp 63) 3, type := 0, pos := "ref.go:72", after := #[{ on := 7, ground := Ground.data }, { on := 3, ground := Ground.guard }, { on := 12, ground := Ground.gcOnly Departure.lateStores }], guard := some (3, true) }) (v := undef) rfl (by kernel_rfl) (by kernel_rfl) (by kernel_rfl) (fun _ _ _ h => h) (Or.inr ⟨by rfl, rfl⟩) (by assumption) ?restc8
  simp only [Act.put, List.setIfInBounds_toArray, List.set_cons_zero, List.set_cons_succ]
  refine wpAnyH_take (i := 9) (oi := { dst := some 65, op := Op.load 3 (Operand.tmp 64), type := 3, pos := "ref.go:72", after := #[{ on := 8, ground := Ground.data }, { on := 3, ground := Ground.guard }, { on := 12, ground := Ground.gcOnly Departure.lateStores }], guard := some (3, true) }) (v := undef) rfl (by kernel_rfl) (by kernel_rfl) (by kernel_rfl) (fun _ _ _ h => h) (Or.inr ⟨by rfl, rfl⟩) (by assumption) ?restc9
  simp only [Act.put, List.setIfInBounds_toArray, List.set_cons_zero, List.set_cons_succ]
  refine wpAnyH_take (i := 10) (oi := { dst := some 66, op := Op.binOp BinOp.eql 3 (Operand.tmp 61) (Operand.tmp 65) 3, type := 4, pos := "ref.go:72", after := #[{ on := 5, ground := Ground.data }, { on := 9, ground := Ground.data }, { on := 3, ground := Ground.guard }, { on := 12, ground := Ground.gcOnly Departure.lateStores }], guard := some (3, true) }) (v := undef) rfl (by kernel_rfl) (by kernel_rfl) (by kernel_rfl) (fun _ _ _ h => h) (Or.inr ⟨by rfl, rfl⟩) (by assumption) ?restc10
  simp only [Act.put, List.setIfInBounds_toArray, List.set_cons_zero, List.set_cons_succ]
  refine wpAnyH_take (i := 11) (oi := { dst := some 67, op := Op.pick (Operand.tmp 59) (Operand.tmp 66) (Operand.const (Value.bool false)), type := 4, pos := "ref.go:72", after := #[{ on := 3, ground := Ground.data }, { on := 10, ground := Ground.data }, { on := 12, ground := Ground.gcOnly Departure.lateStores }], guard := none }) (v := ?vc11) rfl (by kernel_rfl) (by kernel_rfl) (by kernel_rfl) (fun _ _ _ h => h) (Or.inl ⟨by rfl, ?hyc11⟩) (by assumption) ?restc11
  case hyc11 => (intro w hSw; (try dsimp only at hSw); go_simp; (try with_reducible rfl))
  simp only [Act.put, List.setIfInBounds_toArray, List.set_cons_zero, List.set_cons_succ]
  refine wpAnyH_ready (rs := [12]) (by kernel_rfl) (by simp) (AllReadyH.cons (o := { dst := none, op := Op.store 75 (Operand.tmp 4) (Operand.tmp 56), type := 0, pos := "ref.go:72", after := #[{ on := 0, ground := Ground.data }, { on := 3, ground := Ground.chain }, { on := 0, ground := Ground.phase }, { on := 1, ground := Ground.textOnly Departure.lateStores }, { on := 2, ground := Ground.textOnly Departure.lateStores }, { on := 3, ground := Ground.textOnly Departure.lateStores }, { on := 4, ground := Ground.textOnly Departure.lateStores }, { on := 5, ground := Ground.textOnly Departure.lateStores }, { on := 6, ground := Ground.textOnly Departure.lateStores }, { on := 7, ground := Ground.textOnly Departure.lateStores }, { on := 8, ground := Ground.textOnly Departure.lateStores }, { on := 9, ground := Ground.textOnly Departure.lateStores }, { on := 10, ground := Ground.textOnly Departure.lateStores }, { on := 11, ground := Ground.textOnly Departure.lateStores }], guard := none }) rfl (fun K hK => ?_) AllReadyH.nil)
  refine step_store rfl 75 (.tmp 4) (.tmp 56) rfl wr.heap.size (entC kd tx ix pk pn bo ct sm) rfl rfl 75 (entC 0 0 0 0 0 ⟨#[]⟩ 0 0) HX7.out En.infoR rfl (oneC _ _ _ _ _ _ _ _) ?_
  refine hK.out _ _ (by exact ⟨(cell_setRow_other _ _ _ _ (HNE5.out 0)).trans g0, (cell_setRow_other _ _ _ _ (HNE5.out 1)).trans g1, (cell_setRow_other _ _ _ _ (HNE5.out 2)).trans g2, (cell_setRow_other _ _ _ _ (HNE5.out 3)).trans g3, (cell_setRow_other _ _ _ _ (HNE5.out 4)).trans g4, (cell_setRow_other _ _ _ _ (HNE5.out 5)).trans g5, (cell_setRow_other _ _ _ _ (HNE5.out 6)).trans g6, (cell_setRow_other _ _ _ _ (HNE5.out 7)).trans g7, (cell_setRow_other _ _ _ _ HNEJ.out).trans h3⟩) (fun hHeld => ?_)
  clear hK K
  refine wpAnyH_take (i := 13) (oi := { dst := some 5, op := Op.assign (Operand.tmp 67), type := 4, pos := "ref.go:72", after := #[{ on := 11, ground := Ground.data }, { on := 12, ground := Ground.chain }, { on := 0, ground := Ground.phase }, { on := 1, ground := Ground.phase }, { on := 2, ground := Ground.phase }, { on := 3, ground := Ground.phase }, { on := 4, ground := Ground.phase }, { on := 5, ground := Ground.phase }, { on := 6, ground := Ground.phase }, { on := 7, ground := Ground.phase }, { on := 8, ground := Ground.phase }, { on := 9, ground := Ground.phase }, { on := 10, ground := Ground.phase }, { on := 11, ground := Ground.phase }, { on := 12, ground := Ground.phase }], guard := none }) (v := ?vc13) rfl (by kernel_rfl) (by kernel_rfl) (by kernel_rfl) (fun _ _ _ h => h) (Or.inl ⟨by rfl, ?hyc13⟩) (by assumption) ?restc13
  case hyc13 => (intro w hSw; (try dsimp only at hSw); go_simp; (try with_reducible rfl))
  simp only [Act.put, List.setIfInBounds_toArray, List.set_cons_zero, List.set_cons_succ]
  refine wpAnyH_done (by kernel_rfl) ?_ _
  obtain ⟨q0, q1, q2, q3, q4, q5, q6, q7⟩ := ent_at (setRow_heap _ _ _ (entC kd tx ix pk pn bo ct sm) _ _ HX7.out)
  go_wp2_with fail
  refine bodyPost_ret (v := .tuple #[.agg (entC kd tx ix pk pn bo ct sm), .bool false]) (by simp [results, Tryz.results51, go_sem, q0, q1, q2, q3, q4, q5, q6, q7]) rfl ⟨rfl, ?_, ?_⟩
  · exact (rc_setRow HJ7.out.cd wr.heap.size _ (.inr rfl)).less (fun j e => .inl e)
  · exact KS.setRow HB7.out _ _ (Nat.le_refl _)
set_option maxRecDepth 100000 in
set_option maxHeartbeats 4000000 in
theorem rt_b2 (h : Jr K J R wr s b n t) {k : Nat} (hf : Few s k) (hk : k < 1000000) (i : Nat) (m : Nat) (hm : b + i = m) (hmm : m < 1000) (u : ByteArray) (hu : (rdU s (m : Int)).1 = u) (bl : List UInt8) (kd tx ix pk pn : Int) (bo : ByteArray) (ct sm : Int) (ho : openL u.data.toList = (5, m, bl, 0)) (hc : tx ≠ t) (hD : ∀ V : World, Calls Tryz.prog 70 #[.string ⟨bl.toArray⟩] V fun e w' => e = .returned (.tuple #[.agg (entC kd tx ix pk pn bo ct sm), .int .i64 0]) ∧ Below V.heap.size V w') :
    Calls Tryz.prog 51 #[.pointer (some ⟨J, 0, none⟩), .int .i64 (i : Int)] wr fun e w' => e = .returned (.tuple #[.agg (entC kd tx ix pk pn bo ct sm), .bool false]) ∧ Rc K R w' (rdU s (m : Int)).2.2 ∧ KS K wr w' := by
  have x1 : (tx == (t : Int)) = false := by simpa using hc
  clear hc
  have HD := hid hD
  clear hD
  have HJ := hid (show Jr (fun j => K j ∨ j = wr.heap.size) J R (wr.alloc (.cells (entC 0 0 0 0 0 ⟨#[]⟩ 0 0) 75)) s b n t from ⟨h.cd.more ((Below.refl wr.heap.size wr).alloc (Nat.le_refl _) _) (fun k hk => hk.imp id (fun e => by omega)) (fun k hk => by
      rcases hk with hk | hk
      · have := h.cd.lt k hk; simp; omega
      · subst hk; simp), .inl h.kJ, h.j.below ((Below.refl wr.heap.size wr).alloc (Nat.le_refl _) _)⟩)
  have HX := hid (heap_alloc_new wr (.cells (entC 0 0 0 0 0 ⟨#[]⟩ 0 0) 75))
  have HB0 := hid (KS.of (K := K) ((Below.refl wr.heap.size wr).alloc (Nat.le_refl _) (.cells (entC 0 0 0 0 0 ⟨#[]⟩ 0 0) 75)))
  have HR := hid fun (V : World) (c : Rc (fun j => K j ∨ j = wr.heap.size) R V s) => (show Calls Tryz.prog 68 #[.pointer (some ⟨R, 0, none⟩), .int .i64 (m : Int)] V fun e w' => e = .returned (.tuple #[.string u, .int .i64 (rdU s (m : Int)).2.1]) ∧ Rc (fun j => K j ∨ j = wr.heap.size) R w' (rdU s (m : Int)).2.2 ∧ KS (fun j => K j ∨ j = wr.heap.size) V w' by
    have h2 := c.read hf hk (m : Int)
    rw [hu] at h2; exact h2)
  have hw : wrap64 ((b : Int) + (i : Int)) = (m : Int) := by unfold wrap64; omega
  have HW2 := hid (show IntKind.i64.wrap ((b : Int) + (i : Int)) = (m : Int) by rw [IntKind.wrap_i64]; omega)
  have HJLT := hid h.j.lt
  clear h hm hu
  generalize (rdU s (m : Int)).2.2 = s' at *
  generalize (rdU s (m : Int)).2.1 = c0 at *
  go_enter Tryz.func51, Tryz.ntmps51
  go_wp2_with fail
  generalize wr.alloc (.cells (entC 0 0 0 0 0 ⟨#[]⟩ 0 0) 75) = X at *
  have HJX := hid (HJ.out.next (Below.refl X.heap.size X).drew)
  have x0 := (show X.cell? ⟨J, 0, none⟩ = some (.pointer (some ⟨R, 0, none⟩)) ∧ X.cell? ⟨J, 1, none⟩ = some (.int .i64 (b : Int)) from ⟨HJ.out.j.cells.1, HJ.out.j.cells.2.1⟩)
  have y0 := (show X.drew.cell? ⟨J, 0, none⟩ = some (.pointer (some ⟨R, 0, none⟩)) ∧ X.drew.cell? ⟨J, 1, none⟩ = some (.int .i64 (b : Int)) from ⟨HJX.out.j.cells.1, HJX.out.j.cells.2.1⟩)
  have HY := hid fun (V : World) (hv : KS (fun j => K j ∨ j = wr.heap.size) X.drew V) => (show V.cell? ⟨J, 0, none⟩ = some (.pointer (some ⟨R, 0, none⟩)) ∧ V.cell? ⟨J, 1, none⟩ = some (.int .i64 (b : Int)) from by
    have hj : RAt V J R b n t := (hv.block J HJX.out.j.lt HJX.out.kJ).trans HJX.out.j
    exact ⟨hj.cells.1, hj.cells.2.1⟩)
  go_region_held3 (fun V => V.cell? ⟨J, 0, none⟩ = some (.pointer (some ⟨R, 0, none⟩)) ∧ V.cell? ⟨J, 1, none⟩ = some (.int .i64 (b : Int))) (first | exact x0 | exact y0 | exact y1 | go_keep)
    (first
      | (go_at_call 68; rw [HW2.out]; with_reducible refine (HR.out _ HJX.out.cd).mono ?_; rintro e w1 ⟨rfl, hc, hks⟩; have HJ1 := hid (HJX.out.step hc hks); have HKS1 := hid hks; have y1 := HY.out _ hks; clear hc hks)
      | fail)
  have HB1 := hid (HB0.out.trans ((KS.of (K := K) (Below.refl X.heap.size X).drew).trans (KS.less HKS1.out (fun j e => .inl e))))
  have HX1 := hid (show w1.heap[wr.heap.size]? = some (.cells (entC 0 0 0 0 0 ⟨#[]⟩ 0 0) 75 (0, 0)) from (HKS1.out.block wr.heap.size (show wr.heap.size < X.drew.heap.size from (Array.getElem?_eq_some_iff.1 HX.out).1) (.inr rfl)).trans HX.out)
  clear x0 y0 y1 HY HJX HKS1 HB0 HX HJ HR
  go_wp2_with fail
  refine (Pg.refOpen_at u _ ho).mono ?_
  rintro e w2 ⟨rfl, hb⟩
  have HJ2 := hid (HJ1.out.next hb)
  have HB2 := hid (HB1.out.trans (KS.of hb))
  have HX2 := hid ((hb.block wr.heap.size (Array.getElem?_eq_some_iff.1 HX1.out).1).trans HX1.out)
  clear hb HJ1 HB1 HX1
  have A3 := hid ((Below.refl w2.heap.size w2).alloc (Nat.le_refl _) (.cells #[.int .i64 5, .int .i64 (m : Int), .string ⟨bl.toArray⟩] 62))
  have HJ3 := hid (HJ2.out.next A3.out)
  have HB3 := hid (HB2.out.trans (KS.of A3.out))
  have HX3 := hid ((A3.out.block wr.heap.size (Array.getElem?_eq_some_iff.1 HX2.out).1).trans HX2.out)
  have HP3 := hid (heap_alloc_new w2 (.cells #[.int .i64 5, .int .i64 (m : Int), .string ⟨bl.toArray⟩] 62))
  go_wp2_with fail
  generalize w2.alloc (.cells #[.int .i64 5, .int .i64 (m : Int), .string ⟨bl.toArray⟩] 62) = w3 at *
  have p0 : w3.cell? ⟨w2.heap.size, 0, none⟩ = some (.int .i64 5) := by rw [cell_of_row _ _ _ _ _ _ HP3.out]; rfl
  have p1 : w3.cell? ⟨w2.heap.size, 1, none⟩ = some (.int .i64 (m : Int)) := by rw [cell_of_row _ _ _ _ _ _ HP3.out]; rfl
  have p2 : w3.cell? ⟨w2.heap.size, 2, none⟩ = some (.string ⟨bl.toArray⟩) := by rw [cell_of_row _ _ _ _ _ _ HP3.out]; rfl
  obtain ⟨j0, j1, j2, j3⟩ := HJ3.out.j.cells
  clear j0 j2 j3
  go_quiet (fail)
  have HJ4 := hid (HJ3.out.next (below_drewN (Below.refl w3.heap.size w3) nq))
  have HB4 := hid (HB3.out.trans (KS.of (below_drewN (Below.refl w3.heap.size w3) nq)))
  have HX4 := hid (show (w3.drewN nq).heap[wr.heap.size]? = some (.cells (entC 0 0 0 0 0 ⟨#[]⟩ 0 0) 75 (0, 0)) from HX3.out)
  have r2 : (w3.drewN nq).cell? ⟨w2.heap.size, 2, none⟩ = some (.string ⟨bl.toArray⟩) := p2
  clear p0 p1 p2 j1 HJ3 HB3 HX3 HP3 A3 HJ2 HB2 HX2
  generalize w3.drewN nq = w4 at *
  go_wp2_with fail
  refine (HD.out _).mono ?_
  rintro e w5 ⟨rfl, hb⟩
  have HJ5 := hid (HJ4.out.next hb)
  have HB5 := hid (HB4.out.trans (KS.of hb))
  have HX5 := hid ((hb.block wr.heap.size (Array.getElem?_eq_some_iff.1 HX4.out).1).trans HX4.out)
  clear hb HJ4 HB4 HX4 r2
  have A6 := hid ((Below.refl w5.heap.size w5).alloc (Nat.le_refl _) (.cells (entC kd tx ix pk pn bo ct sm) 75))
  have HJ6 := hid (HJ5.out.next A6.out)
  have HB6 := hid (HB5.out.trans (KS.of A6.out))
  have HX6 := hid ((A6.out.block wr.heap.size (Array.getElem?_eq_some_iff.1 HX5.out).1).trans HX5.out)
  have HP6 := hid (heap_alloc_new w5 (.cells (entC kd tx ix pk pn bo ct sm) 75))
  go_wp2_with fail
  generalize w5.alloc (.cells (entC kd tx ix pk pn bo ct sm) 75) = w6 at *
  obtain ⟨j0, j1, j2, j3⟩ := HJ6.out.j.cells
  obtain ⟨p0, p1, p2, p3, p4, p5, p6, p7⟩ := ent_at HP6.out
  clear j0 j1 j2
  have HX7 := hid (show w6.drew.heap[wr.heap.size]? = some (.cells (entC 0 0 0 0 0 ⟨#[]⟩ 0 0) 75 (0, 0)) from HX6.out)
  have HJ7 := hid (HJ6.out.next (Below.refl w6.heap.size w6).drew)
  have HB7 := hid (HB6.out.trans (KS.of (Below.refl w6.heap.size w6).drew))
  have g0 := (show w6.drew.cell? ⟨w5.heap.size, 0, none⟩ = _ from p0)
  have g1 := (show w6.drew.cell? ⟨w5.heap.size, 1, none⟩ = _ from p1)
  have g2 := (show w6.drew.cell? ⟨w5.heap.size, 2, none⟩ = _ from p2)
  have g3 := (show w6.drew.cell? ⟨w5.heap.size, 3, none⟩ = _ from p3)
  have g4 := (show w6.drew.cell? ⟨w5.heap.size, 4, none⟩ = _ from p4)
  have g5 := (show w6.drew.cell? ⟨w5.heap.size, 5, none⟩ = _ from p5)
  have g6 := (show w6.drew.cell? ⟨w5.heap.size, 6, none⟩ = _ from p6)
  have g7 := (show w6.drew.cell? ⟨w5.heap.size, 7, none⟩ = _ from p7)
  have h3 := (show w6.drew.cell? ⟨J, 3, none⟩ = _ from j3)
  have HNE5 := hid (show ∀ k, (⟨w5.heap.size, k, none⟩ : Addr).block ≠ wr.heap.size from fun k e => by have e8 : w5.heap.size = wr.heap.size := e; have := (Array.getElem?_eq_some_iff.1 HX5.out).1; omega)
  have HNEJ := hid (show (⟨J, 3, none⟩ : Addr).block ≠ wr.heap.size from fun e => by have e8 : J = wr.heap.size := e; have := HJLT.out; omega)
  refine wp_region_held_drew (S := (fun V => V.cell? ⟨w5.heap.size, 0, none⟩ = some (.int .i64 kd) ∧ V.cell? ⟨w5.heap.size, 1, none⟩ = some (.int .i64 tx) ∧ V.cell? ⟨w5.heap.size, 2, none⟩ = some (.int .i64 ix) ∧ V.cell? ⟨w5.heap.size, 3, none⟩ = some (.int .i64 pk) ∧ V.cell? ⟨w5.heap.size, 4, none⟩ = some (.int .i64 pn) ∧ V.cell? ⟨w5.heap.size, 5, none⟩ = some (.string bo) ∧ V.cell? ⟨w5.heap.size, 6, none⟩ = some (.int .i64 ct) ∧ V.cell? ⟨w5.heap.size, 7, none⟩ = some (.int .u32 sm) ∧ V.cell? ⟨J, 3, none⟩ = some (.int .i64 (t : Int)))) (by kernel_rfl) (by exact ⟨g0, g1, g2, g3, g4, g5, g6, g7, h3⟩) (fun hHeld => ?_)
  refine wpAnyH_take (i := 0) (oi := { dst := some 56, op := Op.load 75 (Operand.tmp 10), type := 75, pos := "ref.go:72", after := #[], guard := none }) (v := ?vc0) rfl (by kernel_rfl) (by kernel_rfl) (by kernel_rfl) (fun _ _ _ h => h) (Or.inl ⟨by rfl, ?hyc0⟩) (by assumption) ?restc0
  case hyc0 => (intro w hSw; (try dsimp only at hSw); go_simp; (try with_reducible rfl))
  simp only [Act.put, List.setIfInBounds_toArray, List.set_cons_zero, List.set_cons_succ]
  refine wpAnyH_take (i := 1) (oi := { dst := some 57, op := Op.move (Operand.tmp 11), type := 27, pos := "ref.go:72", after := #[], guard := none }) (v := ?vc1) rfl (by kernel_rfl) (by kernel_rfl) (by kernel_rfl) (fun _ _ _ h => h) (Or.inl ⟨by rfl, ?hyc1⟩) (by assumption) ?restc1
  case hyc1 => (intro w hSw; (try dsimp only at hSw); go_simp; (try with_reducible rfl))
  simp only [Act.put, List.setIfInBounds_toArray, List.set_cons_zero, List.set_cons_succ]
  refine wpAnyH_take (i := 2) (oi := { dst := some 58, op := Op.binOp BinOp.eql 27 (Operand.tmp 57) (Operand.const (Value.int IntKind.i64 0)) 27, type := 4, pos := "ref.go:72", after := #[{ on := 1, ground := Ground.data }], guard := none }) (v := ?vc2) rfl (by kernel_rfl) (by kernel_rfl) (by kernel_rfl) (fun _ _ _ h => h) (Or.inl ⟨by rfl, ?hyc2⟩) (by assumption) ?restc2
  case hyc2 => (intro w hSw; (try dsimp only at hSw); go_simp; (try with_reducible rfl))
  simp only [Act.put, List.setIfInBounds_toArray, List.set_cons_zero, List.set_cons_succ]
  refine wpAnyH_take (i := 3) (oi := { dst := some 59, op := Op.move (Operand.tmp 58), type := 4, pos := "ref.go:72", after := #[{ on := 2, ground := Ground.data }], guard := none }) (v := ?vc3) rfl (by kernel_rfl) (by kernel_rfl) (by kernel_rfl) (fun _ _ _ h => h) (Or.inl ⟨by rfl, ?hyc3⟩) (by assumption) ?restc3
  case hyc3 => (intro w hSw; (try dsimp only at hSw); go_simp; (try with_reducible rfl))
  simp only [Act.put, List.setIfInBounds_toArray, List.set_cons_zero, List.set_cons_succ]
  refine wpAnyH_take (i := 4) (oi := { dst := some 60, op := Op.fieldAddr 75 (Operand.tmp 10) 1, type := 0, pos := "ref.go:72", after := #[{ on := 3, ground := Ground.guard }, { on := 12, ground := Ground.gcOnly Departure.lateStores }], guard := some (3, true) }) (v := ?vc4) rfl (by kernel_rfl) (by kernel_rfl) (by kernel_rfl) (fun _ _ _ h => h) (Or.inl ⟨by rfl, ?hyc4⟩) (by assumption) ?restc4
  case hyc4 => (intro w hSw; (try dsimp only at hSw); go_simp; (try with_reducible rfl))
  simp only [Act.put, List.setIfInBounds_toArray, List.set_cons_zero, List.set_cons_succ]
  refine wpAnyH_take (i := 5) (oi := { dst := some 61, op := Op.load 3 (Operand.tmp 60), type := 3, pos := "ref.go:72", after := #[{ on := 4, ground := Ground.data }, { on := 3, ground := Ground.guard }, { on := 12, ground := Ground.gcOnly Departure.lateStores }], guard := some (3, true) }) (v := ?vc5) rfl (by kernel_rfl) (by kernel_rfl) (by kernel_rfl) (fun _ _ _ h => h) (Or.inl ⟨by rfl, ?hyc5⟩) (by assumption) ?restc5
  case hyc5 => (intro w hSw; (try dsimp only at hSw); go_simp; (try with_reducible rfl))
  simp only [Act.put, List.setIfInBounds_toArray, List.set_cons_zero, List.set_cons_succ]
  refine wpAnyH_take (i := 6) (oi := { dst := some 62, op := Op.move (Operand.tmp 0), type := 36, pos := "ref.go:72", after := #[{ on := 3, ground := Ground.guard }, { on := 12, ground := Ground.gcOnly Departure.lateStores }], guard := some (3, true) }) (v := ?vc6) rfl (by kernel_rfl) (by kernel_rfl) (by kernel_rfl) (fun _ _ _ h => h) (Or.inl ⟨by rfl, ?hyc6⟩) (by assumption) ?restc6
  case hyc6 => (intro w hSw; (try dsimp only at hSw); go_simp; (try with_reducible rfl))
  simp only [Act.put, List.setIfInBounds_toArray, List.set_cons_zero, List.set_cons_succ]
  refine wpAnyH_take (i := 7) (oi := { dst := some 63, op := Op.nilCheck (Operand.tmp 62), type := 0, pos := "ref.go:72", after := #[{ on := 6, ground := Ground.data }, { on := 3, ground := Ground.guard }, { on := 12, ground := Ground.gcOnly Departure.lateStores }], guard := some (3, true) }) (v := ?vc7) rfl (by kernel_rfl) (by kernel_rfl) (by kernel_rfl) (fun _ _ _ h => h) (Or.inl ⟨by rfl, ?hyc7⟩) (by assumption) ?restc7
  case hyc7 => (intro w hSw; (try dsimp only at hSw); go_simp; (try with_reducible rfl))
  simp only [Act.put, List.setIfInBounds_toArray, List.set_cons_zero, List.set_cons_succ]
  refine wpAnyH_take (i := 8) (oi := { dst := some 64, op := Op.fieldAddr 53 (Operand.tmp 63) 3, type := 0, pos := "ref.go:72", after := #[{ on := 7, ground := Ground.data }, { on := 3, ground := Ground.guard }, { on := 12, ground := Ground.gcOnly Departure.lateStores }], guard := some (3, true) }) (v := ?vc8) rfl (by kernel_rfl) (by kernel_rfl) (by kernel_rfl) (fun _ _ _ h => h) (Or.inl ⟨by rfl, ?hyc8⟩) (by assumption) ?restc8
  case hyc8 => (intro w hSw; (try dsimp only at hSw); go_simp; (try with_reducible rfl))
  simp only [Act.put, List.setIfInBounds_toArray, List.set_cons_zero, List.set_cons_succ]
  refine wpAnyH_take (i := 9) (oi := { dst := some 65, op := Op.load 3 (Operand.tmp 64), type := 3, pos := "ref.go:72", after := #[{ on := 8, ground := Ground.data }, { on := 3, ground := Ground.guard }, { on := 12, ground := Ground.gcOnly Departure.lateStores }], guard := some (3, true) }) (v := ?vc9) rfl (by kernel_rfl) (by kernel_rfl) (by kernel_rfl) (fun _ _ _ h => h) (Or.inl ⟨by rfl, ?hyc9⟩) (by assumption) ?restc9
  case hyc9 => (intro w hSw; (try dsimp only at hSw); go_simp; (try with_reducible rfl))
  simp only [Act.put, List.setIfInBounds_toArray, List.set_cons_zero, List.set_cons_succ]
  refine wpAnyH_take (i := 10) (oi := { dst := some 66, op := Op.binOp BinOp.eql 3 (Operand.tmp 61) (Operand.tmp 65) 3, type := 4, pos := "ref.go:72", after := #[{ on := 5, ground := Ground.data }, { on := 9, ground := Ground.data }, { on := 3, ground := Ground.guard }, { on := 12, ground := Ground.gcOnly Departure.lateStores }], guard := some (3, true) }) (v := ?vc10) rfl (by kernel_rfl) (by kernel_rfl) (by kernel_rfl) (fun _ _ _ h => h) (Or.inl ⟨by rfl, ?hyc10⟩) (by assumption) ?restc10
  case hyc10 => (intro w hSw; (try dsimp only at hSw); go_simp; (try with_reducible rfl))
  simp only [Act.put, List.setIfInBounds_toArray, List.set_cons_zero, List.set_cons_succ]
  refine wpAnyH_take (i := 11) (oi := { dst := some 67, op := Op.pick (Operand.tmp 59) (Operand.tmp 66) (Operand.const (Value.bool false)), type := 4, pos := "ref.go:72", after := #[{ on := 3, ground := Ground.data }, { on := 10, ground := Ground.data }, { on := 12, ground := Ground.gcOnly Departure.lateStores }], guard := none }) (v := ?vc11) rfl (by kernel_rfl) (by kernel_rfl) (by kernel_rfl) (fun _ _ _ h => h) (Or.inl ⟨by rfl, ?hyc11⟩) (by assumption) ?restc11
  case hyc11 => (intro w hSw; (try dsimp only at hSw); go_simp; (try with_reducible rfl))
  simp only [Act.put, List.setIfInBounds_toArray, List.set_cons_zero, List.set_cons_succ]
  refine wpAnyH_ready (rs := [12]) (by kernel_rfl) (by simp) (AllReadyH.cons (o := { dst := none, op := Op.store 75 (Operand.tmp 4) (Operand.tmp 56), type := 0, pos := "ref.go:72", after := #[{ on := 0, ground := Ground.data }, { on := 3, ground := Ground.chain }, { on := 0, ground := Ground.phase }, { on := 1, ground := Ground.textOnly Departure.lateStores }, { on := 2, ground := Ground.textOnly Departure.lateStores }, { on := 3, ground := Ground.textOnly Departure.lateStores }, { on := 4, ground := Ground.textOnly Departure.lateStores }, { on := 5, ground := Ground.textOnly Departure.lateStores }, { on := 6, ground := Ground.textOnly Departure.lateStores }, { on := 7, ground := Ground.textOnly Departure.lateStores }, { on := 8, ground := Ground.textOnly Departure.lateStores }, { on := 9, ground := Ground.textOnly Departure.lateStores }, { on := 10, ground := Ground.textOnly Departure.lateStores }, { on := 11, ground := Ground.textOnly Departure.lateStores }], guard := none }) rfl (fun K hK => ?_) AllReadyH.nil)
  refine step_store rfl 75 (.tmp 4) (.tmp 56) rfl wr.heap.size (entC kd tx ix pk pn bo ct sm) rfl rfl 75 (entC 0 0 0 0 0 ⟨#[]⟩ 0 0) HX7.out En.infoR rfl (oneC _ _ _ _ _ _ _ _) ?_
  refine hK.out _ _ (by exact ⟨(cell_setRow_other _ _ _ _ (HNE5.out 0)).trans g0, (cell_setRow_other _ _ _ _ (HNE5.out 1)).trans g1, (cell_setRow_other _ _ _ _ (HNE5.out 2)).trans g2, (cell_setRow_other _ _ _ _ (HNE5.out 3)).trans g3, (cell_setRow_other _ _ _ _ (HNE5.out 4)).trans g4, (cell_setRow_other _ _ _ _ (HNE5.out 5)).trans g5, (cell_setRow_other _ _ _ _ (HNE5.out 6)).trans g6, (cell_setRow_other _ _ _ _ (HNE5.out 7)).trans g7, (cell_setRow_other _ _ _ _ HNEJ.out).trans h3⟩) (fun hHeld => ?_)
  clear hK K
  refine wpAnyH_take (i := 13) (oi := { dst := some 5, op := Op.assign (Operand.tmp 67), type := 4, pos := "ref.go:72", after := #[{ on := 11, ground := Ground.data }, { on := 12, ground := Ground.chain }, { on := 0, ground := Ground.phase }, { on := 1, ground := Ground.phase }, { on := 2, ground := Ground.phase }, { on := 3, ground := Ground.phase }, { on := 4, ground := Ground.phase }, { on := 5, ground := Ground.phase }, { on := 6, ground := Ground.phase }, { on := 7, ground := Ground.phase }, { on := 8, ground := Ground.phase }, { on := 9, ground := Ground.phase }, { on := 10, ground := Ground.phase }, { on := 11, ground := Ground.phase }, { on := 12, ground := Ground.phase }], guard := none }) (v := ?vc13) rfl (by kernel_rfl) (by kernel_rfl) (by kernel_rfl) (fun _ _ _ h => h) (Or.inl ⟨by rfl, ?hyc13⟩) (by assumption) ?restc13
  case hyc13 => (intro w hSw; (try dsimp only at hSw); go_simp; (try with_reducible rfl))
  simp only [Act.put, List.setIfInBounds_toArray, List.set_cons_zero, List.set_cons_succ]
  refine wpAnyH_done (by kernel_rfl) ?_ _
  obtain ⟨q0, q1, q2, q3, q4, q5, q6, q7⟩ := ent_at (setRow_heap _ _ _ (entC kd tx ix pk pn bo ct sm) _ _ HX7.out)
  go_wp2_with fail
  refine bodyPost_ret (v := .tuple #[.agg (entC kd tx ix pk pn bo ct sm), .bool false]) (by simp [results, Tryz.results51, go_sem, q0, q1, q2, q3, q4, q5, q6, q7]) rfl ⟨rfl, ?_, ?_⟩
  · exact (rc_setRow HJ7.out.cd wr.heap.size _ (.inr rfl)).less (fun j e => .inl e)
  · exact KS.setRow HB7.out _ _ (Nat.le_refl _)
set_option maxRecDepth 100000 in
set_option maxHeartbeats 4000000 in
theorem rt_ok (h : Jr K J R wr s b n t) {k : Nat} (hf : Few s k) (hk : k < 1000000) (i : Nat) (m : Nat) (hm : b + i = m) (hmm : m < 1000) (u : ByteArray) (hu : (rdU s (m : Int)).1 = u) (bl : List UInt8) (kd ix pk pn : Int) (bo : ByteArray) (ct sm : Int) (ho : openL u.data.toList = (5, m, bl, 0))  (hD : ∀ V : World, Calls Tryz.prog 70 #[.string ⟨bl.toArray⟩] V fun e w' => e = .returned (.tuple #[.agg (entC kd t ix pk pn bo ct sm), .int .i64 0]) ∧ Below V.heap.size V w') :
    Calls Tryz.prog 51 #[.pointer (some ⟨J, 0, none⟩), .int .i64 (i : Int)] wr fun e w' => e = .returned (.tuple #[.agg (entC kd t ix pk pn bo ct sm), .bool true]) ∧ Rc K R w' (rdU s (m : Int)).2.2 ∧ KS K wr w' := by
  have HD := hid hD
  clear hD
  have HJ := hid (show Jr (fun j => K j ∨ j = wr.heap.size) J R (wr.alloc (.cells (entC 0 0 0 0 0 ⟨#[]⟩ 0 0) 75)) s b n t from ⟨h.cd.more ((Below.refl wr.heap.size wr).alloc (Nat.le_refl _) _) (fun k hk => hk.imp id (fun e => by omega)) (fun k hk => by
      rcases hk with hk | hk
      · have := h.cd.lt k hk; simp; omega
      · subst hk; simp), .inl h.kJ, h.j.below ((Below.refl wr.heap.size wr).alloc (Nat.le_refl _) _)⟩)
  have HX := hid (heap_alloc_new wr (.cells (entC 0 0 0 0 0 ⟨#[]⟩ 0 0) 75))
  have HB0 := hid (KS.of (K := K) ((Below.refl wr.heap.size wr).alloc (Nat.le_refl _) (.cells (entC 0 0 0 0 0 ⟨#[]⟩ 0 0) 75)))
  have HR := hid fun (V : World) (c : Rc (fun j => K j ∨ j = wr.heap.size) R V s) => (show Calls Tryz.prog 68 #[.pointer (some ⟨R, 0, none⟩), .int .i64 (m : Int)] V fun e w' => e = .returned (.tuple #[.string u, .int .i64 (rdU s (m : Int)).2.1]) ∧ Rc (fun j => K j ∨ j = wr.heap.size) R w' (rdU s (m : Int)).2.2 ∧ KS (fun j => K j ∨ j = wr.heap.size) V w' by
    have h2 := c.read hf hk (m : Int)
    rw [hu] at h2; exact h2)
  have hw : wrap64 ((b : Int) + (i : Int)) = (m : Int) := by unfold wrap64; omega
  have HW2 := hid (show IntKind.i64.wrap ((b : Int) + (i : Int)) = (m : Int) by rw [IntKind.wrap_i64]; omega)
  have HJLT := hid h.j.lt
  clear h hm hu
  generalize (rdU s (m : Int)).2.2 = s' at *
  generalize (rdU s (m : Int)).2.1 = c0 at *
  go_enter Tryz.func51, Tryz.ntmps51
  go_wp2_with fail
  generalize wr.alloc (.cells (entC 0 0 0 0 0 ⟨#[]⟩ 0 0) 75) = X at *
  have HJX := hid (HJ.out.next (Below.refl X.heap.size X).drew)
  have x0 := (show X.cell? ⟨J, 0, none⟩ = some (.pointer (some ⟨R, 0, none⟩)) ∧ X.cell? ⟨J, 1, none⟩ = some (.int .i64 (b : Int)) from ⟨HJ.out.j.cells.1, HJ.out.j.cells.2.1⟩)
  have y0 := (show X.drew.cell? ⟨J, 0, none⟩ = some (.pointer (some ⟨R, 0, none⟩)) ∧ X.drew.cell? ⟨J, 1, none⟩ = some (.int .i64 (b : Int)) from ⟨HJX.out.j.cells.1, HJX.out.j.cells.2.1⟩)
  have HY := hid fun (V : World) (hv : KS (fun j => K j ∨ j = wr.heap.size) X.drew V) => (show V.cell? ⟨J, 0, none⟩ = some (.pointer (some ⟨R, 0, none⟩)) ∧ V.cell? ⟨J, 1, none⟩ = some (.int .i64 (b : Int)) from by
    have hj : RAt V J R b n t := (hv.block J HJX.out.j.lt HJX.out.kJ).trans HJX.out.j
    exact ⟨hj.cells.1, hj.cells.2.1⟩)
  go_region_held3 (fun V => V.cell? ⟨J, 0, none⟩ = some (.pointer (some ⟨R, 0, none⟩)) ∧ V.cell? ⟨J, 1, none⟩ = some (.int .i64 (b : Int))) (first | exact x0 | exact y0 | exact y1 | go_keep)
    (first
      | (go_at_call 68; rw [HW2.out]; with_reducible refine (HR.out _ HJX.out.cd).mono ?_; rintro e w1 ⟨rfl, hc, hks⟩; have HJ1 := hid (HJX.out.step hc hks); have HKS1 := hid hks; have y1 := HY.out _ hks; clear hc hks)
      | fail)
  have HB1 := hid (HB0.out.trans ((KS.of (K := K) (Below.refl X.heap.size X).drew).trans (KS.less HKS1.out (fun j e => .inl e))))
  have HX1 := hid (show w1.heap[wr.heap.size]? = some (.cells (entC 0 0 0 0 0 ⟨#[]⟩ 0 0) 75 (0, 0)) from (HKS1.out.block wr.heap.size (show wr.heap.size < X.drew.heap.size from (Array.getElem?_eq_some_iff.1 HX.out).1) (.inr rfl)).trans HX.out)
  clear x0 y0 y1 HY HJX HKS1 HB0 HX HJ HR
  go_wp2_with fail
  refine (Pg.refOpen_at u _ ho).mono ?_
  rintro e w2 ⟨rfl, hb⟩
  have HJ2 := hid (HJ1.out.next hb)
  have HB2 := hid (HB1.out.trans (KS.of hb))
  have HX2 := hid ((hb.block wr.heap.size (Array.getElem?_eq_some_iff.1 HX1.out).1).trans HX1.out)
  clear hb HJ1 HB1 HX1
  have A3 := hid ((Below.refl w2.heap.size w2).alloc (Nat.le_refl _) (.cells #[.int .i64 5, .int .i64 (m : Int), .string ⟨bl.toArray⟩] 62))
  have HJ3 := hid (HJ2.out.next A3.out)
  have HB3 := hid (HB2.out.trans (KS.of A3.out))
  have HX3 := hid ((A3.out.block wr.heap.size (Array.getElem?_eq_some_iff.1 HX2.out).1).trans HX2.out)
  have HP3 := hid (heap_alloc_new w2 (.cells #[.int .i64 5, .int .i64 (m : Int), .string ⟨bl.toArray⟩] 62))
  go_wp2_with fail
  generalize w2.alloc (.cells #[.int .i64 5, .int .i64 (m : Int), .string ⟨bl.toArray⟩] 62) = w3 at *
  have p0 : w3.cell? ⟨w2.heap.size, 0, none⟩ = some (.int .i64 5) := by rw [cell_of_row _ _ _ _ _ _ HP3.out]; rfl
  have p1 : w3.cell? ⟨w2.heap.size, 1, none⟩ = some (.int .i64 (m : Int)) := by rw [cell_of_row _ _ _ _ _ _ HP3.out]; rfl
  have p2 : w3.cell? ⟨w2.heap.size, 2, none⟩ = some (.string ⟨bl.toArray⟩) := by rw [cell_of_row _ _ _ _ _ _ HP3.out]; rfl
  obtain ⟨j0, j1, j2, j3⟩ := HJ3.out.j.cells
  clear j0 j2 j3
  go_quiet (fail)
  have HJ4 := hid (HJ3.out.next (below_drewN (Below.refl w3.heap.size w3) nq))
  have HB4 := hid (HB3.out.trans (KS.of (below_drewN (Below.refl w3.heap.size w3) nq)))
  have HX4 := hid (show (w3.drewN nq).heap[wr.heap.size]? = some (.cells (entC 0 0 0 0 0 ⟨#[]⟩ 0 0) 75 (0, 0)) from HX3.out)
  have r2 : (w3.drewN nq).cell? ⟨w2.heap.size, 2, none⟩ = some (.string ⟨bl.toArray⟩) := p2
  clear p0 p1 p2 j1 HJ3 HB3 HX3 HP3 A3 HJ2 HB2 HX2
  generalize w3.drewN nq = w4 at *
  go_wp2_with fail
  refine (HD.out _).mono ?_
  rintro e w5 ⟨rfl, hb⟩
  have HJ5 := hid (HJ4.out.next hb)
  have HB5 := hid (HB4.out.trans (KS.of hb))
  have HX5 := hid ((hb.block wr.heap.size (Array.getElem?_eq_some_iff.1 HX4.out).1).trans HX4.out)
  clear hb HJ4 HB4 HX4 r2
  have A6 := hid ((Below.refl w5.heap.size w5).alloc (Nat.le_refl _) (.cells (entC kd t ix pk pn bo ct sm) 75))
  have HJ6 := hid (HJ5.out.next A6.out)
  have HB6 := hid (HB5.out.trans (KS.of A6.out))
  have HX6 := hid ((A6.out.block wr.heap.size (Array.getElem?_eq_some_iff.1 HX5.out).1).trans HX5.out)
  have HP6 := hid (heap_alloc_new w5 (.cells (entC kd t ix pk pn bo ct sm) 75))
  go_wp2_with fail
  generalize w5.alloc (.cells (entC kd t ix pk pn bo ct sm) 75) = w6 at *
  obtain ⟨j0, j1, j2, j3⟩ := HJ6.out.j.cells
  obtain ⟨p0, p1, p2, p3, p4, p5, p6, p7⟩ := ent_at HP6.out
  clear j0 j1 j2
  have HX7 := hid (show w6.drew.heap[wr.heap.size]? = some (.cells (entC 0 0 0 0 0 ⟨#[]⟩ 0 0) 75 (0, 0)) from HX6.out)
  have HJ7 := hid (HJ6.out.next (Below.refl w6.heap.size w6).drew)
  have HB7 := hid (HB6.out.trans (KS.of (Below.refl w6.heap.size w6).drew))
  have g0 := (show w6.drew.cell? ⟨w5.heap.size, 0, none⟩ = _ from p0)
  have g1 := (show w6.drew.cell? ⟨w5.heap.size, 1, none⟩ = _ from p1)
  have g2 := (show w6.drew.cell? ⟨w5.heap.size, 2, none⟩ = _ from p2)
  have g3 := (show w6.drew.cell? ⟨w5.heap.size, 3, none⟩ = _ from p3)
  have g4 := (show w6.drew.cell? ⟨w5.heap.size, 4, none⟩ = _ from p4)
  have g5 := (show w6.drew.cell? ⟨w5.heap.size, 5, none⟩ = _ from p5)
  have g6 := (show w6.drew.cell? ⟨w5.heap.size, 6, none⟩ = _ from p6)
  have g7 := (show w6.drew.cell? ⟨w5.heap.size, 7, none⟩ = _ from p7)
  have h3 := (show w6.drew.cell? ⟨J, 3, none⟩ = _ from j3)
  have HNE5 := hid (show ∀ k, (⟨w5.heap.size, k, none⟩ : Addr).block ≠ wr.heap.size from fun k e => by have e8 : w5.heap.size = wr.heap.size := e; have := (Array.getElem?_eq_some_iff.1 HX5.out).1; omega)
  have HNEJ := hid (show (⟨J, 3, none⟩ : Addr).block ≠ wr.heap.size from fun e => by have e8 : J = wr.heap.size := e; have := HJLT.out; omega)
  refine wp_region_held_drew (S := (fun V => V.cell? ⟨w5.heap.size, 0, none⟩ = some (.int .i64 kd) ∧ V.cell? ⟨w5.heap.size, 1, none⟩ = some (.int .i64 t) ∧ V.cell? ⟨w5.heap.size, 2, none⟩ = some (.int .i64 ix) ∧ V.cell? ⟨w5.heap.size, 3, none⟩ = some (.int .i64 pk) ∧ V.cell? ⟨w5.heap.size, 4, none⟩ = some (.int .i64 pn) ∧ V.cell? ⟨w5.heap.size, 5, none⟩ = some (.string bo) ∧ V.cell? ⟨w5.heap.size, 6, none⟩ = some (.int .i64 ct) ∧ V.cell? ⟨w5.heap.size, 7, none⟩ = some (.int .u32 sm) ∧ V.cell? ⟨J, 3, none⟩ = some (.int .i64 (t : Int)))) (by kernel_rfl) (by exact ⟨g0, g1, g2, g3, g4, g5, g6, g7, h3⟩) (fun hHeld => ?_)
  refine wpAnyH_take (i := 0) (oi := { dst := some 56, op := Op.load 75 (Operand.tmp 10), type := 75, pos := "ref.go:72", after := #[], guard := none }) (v := ?vc0) rfl (by kernel_rfl) (by kernel_rfl) (by kernel_rfl) (fun _ _ _ h => h) (Or.inl ⟨by rfl, ?hyc0⟩) (by assumption) ?restc0
  case hyc0 => (intro w hSw; (try dsimp only at hSw); go_simp; (try with_reducible rfl))
  simp only [Act.put, List.setIfInBounds_toArray, List.set_cons_zero, List.set_cons_succ]
  refine wpAnyH_take (i := 1) (oi := { dst := some 57, op := Op.move (Operand.tmp 11), type := 27, pos := "ref.go:72", after := #[], guard := none }) (v := ?vc1) rfl (by kernel_rfl) (by kernel_rfl) (by kernel_rfl) (fun _ _ _ h => h) (Or.inl ⟨by rfl, ?hyc1⟩) (by assumption) ?restc1
  case hyc1 => (intro w hSw; (try dsimp only at hSw); go_simp; (try with_reducible rfl))
  simp only [Act.put, List.setIfInBounds_toArray, List.set_cons_zero, List.set_cons_succ]
  refine wpAnyH_take (i := 2) (oi := { dst := some 58, op := Op.binOp BinOp.eql 27 (Operand.tmp 57) (Operand.const (Value.int IntKind.i64 0)) 27, type := 4, pos := "ref.go:72", after := #[{ on := 1, ground := Ground.data }], guard := none }) (v := ?vc2) rfl (by kernel_rfl) (by kernel_rfl) (by kernel_rfl) (fun _ _ _ h => h) (Or.inl ⟨by rfl, ?hyc2⟩) (by assumption) ?restc2
  case hyc2 => (intro w hSw; (try dsimp only at hSw); go_simp; (try with_reducible rfl))
  simp only [Act.put, List.setIfInBounds_toArray, List.set_cons_zero, List.set_cons_succ]
  refine wpAnyH_take (i := 3) (oi := { dst := some 59, op := Op.move (Operand.tmp 58), type := 4, pos := "ref.go:72", after := #[{ on := 2, ground := Ground.data }], guard := none }) (v := ?vc3) rfl (by kernel_rfl) (by kernel_rfl) (by kernel_rfl) (fun _ _ _ h => h) (Or.inl ⟨by rfl, ?hyc3⟩) (by assumption) ?restc3
  case hyc3 => (intro w hSw; (try dsimp only at hSw); go_simp; (try with_reducible rfl))
  simp only [Act.put, List.setIfInBounds_toArray, List.set_cons_zero, List.set_cons_succ]
  refine wpAnyH_take (i := 4) (oi := { dst := some 60, op := Op.fieldAddr 75 (Operand.tmp 10) 1, type := 0, pos := "ref.go:72", after := #[{ on := 3, ground := Ground.guard }, { on := 12, ground := Ground.gcOnly Departure.lateStores }], guard := some (3, true) }) (v := ?vc4) rfl (by kernel_rfl) (by kernel_rfl) (by kernel_rfl) (fun _ _ _ h => h) (Or.inl ⟨by rfl, ?hyc4⟩) (by assumption) ?restc4
  case hyc4 => (intro w hSw; (try dsimp only at hSw); go_simp; (try with_reducible rfl))
  simp only [Act.put, List.setIfInBounds_toArray, List.set_cons_zero, List.set_cons_succ]
  refine wpAnyH_take (i := 5) (oi := { dst := some 61, op := Op.load 3 (Operand.tmp 60), type := 3, pos := "ref.go:72", after := #[{ on := 4, ground := Ground.data }, { on := 3, ground := Ground.guard }, { on := 12, ground := Ground.gcOnly Departure.lateStores }], guard := some (3, true) }) (v := ?vc5) rfl (by kernel_rfl) (by kernel_rfl) (by kernel_rfl) (fun _ _ _ h => h) (Or.inl ⟨by rfl, ?hyc5⟩) (by assumption) ?restc5
  case hyc5 => (intro w hSw; (try dsimp only at hSw); go_simp; (try with_reducible rfl))
  simp only [Act.put, List.setIfInBounds_toArray, List.set_cons_zero, List.set_cons_succ]
  refine wpAnyH_take (i := 6) (oi := { dst := some 62, op := Op.move (Operand.tmp 0), type := 36, pos := "ref.go:72", after := #[{ on := 3, ground := Ground.guard }, { on := 12, ground := Ground.gcOnly Departure.lateStores }], guard := some (3, true) }) (v := ?vc6) rfl (by kernel_rfl) (by kernel_rfl) (by kernel_rfl) (fun _ _ _ h => h) (Or.inl ⟨by rfl, ?hyc6⟩) (by assumption) ?restc6
  case hyc6 => (intro w hSw; (try dsimp only at hSw); go_simp; (try with_reducible rfl))
  simp only [Act.put, List.setIfInBounds_toArray, List.set_cons_zero, List.set_cons_succ]
  refine wpAnyH_take (i := 7) (oi := { dst := some 63, op := Op.nilCheck (Operand.tmp 62), type := 0, pos := "ref.go:72", after := #[{ on := 6, ground := Ground.data }, { on := 3, ground := Ground.guard }, { on := 12, ground := Ground.gcOnly Departure.lateStores }], guard := some (3, true) }) (v := ?vc7) rfl (by kernel_rfl) (by kernel_rfl) (by kernel_rfl) (fun _ _ _ h => h) (Or.inl ⟨by rfl, ?hyc7⟩) (by assumption) ?restc7
  case hyc7 => (intro w hSw; (try dsimp only at hSw); go_simp; (try with_reducible rfl))
  simp only [Act.put, List.setIfInBounds_toArray, List.set_cons_zero, List.set_cons_succ]
  refine wpAnyH_take (i := 8) (oi := { dst := some 64, op := Op.fieldAddr 53 (Operand.tmp 63) 3, type := 0, pos := "ref.go:72", after := #[{ on := 7, ground := Ground.data }, { on := 3, ground := Ground.guard }, { on := 12, ground := Ground.gcOnly Departure.lateStores }], guard := some (3, true) }) (v := ?vc8) rfl (by kernel_rfl) (by kernel_rfl) (by kernel_rfl) (fun _ _ _ h => h) (Or.inl ⟨by rfl, ?hyc8⟩) (by assumption) ?restc8
  case hyc8 => (intro w hSw; (try dsimp only at hSw); go_simp; (try with_reducible rfl))
  simp only [Act.put, List.setIfInBounds_toArray, List.set_cons_zero, List.set_cons_succ]
  refine wpAnyH_take (i := 9) (oi := { dst := some 65, op := Op.load 3 (Operand.tmp 64), type := 3, pos := "ref.go:72", after := #[{ on := 8, ground := Ground.data }, { on := 3, ground := Ground.guard }, { on := 12, ground := Ground.gcOnly Departure.lateStores }], guard := some (3, true) }) (v := ?vc9) rfl (by kernel_rfl) (by kernel_rfl) (by kernel_rfl) (fun _ _ _ h => h) (Or.inl ⟨by rfl, ?hyc9⟩) (by assumption) ?restc9
  case hyc9 => (intro w hSw; (try dsimp only at hSw); go_simp; (try with_reducible rfl))
  simp only [Act.put, List.setIfInBounds_toArray, List.set_cons_zero, List.set_cons_succ]
  refine wpAnyH_take (i := 10) (oi := { dst := some 66, op := Op.binOp BinOp.eql 3 (Operand.tmp 61) (Operand.tmp 65) 3, type := 4, pos := "ref.go:72", after := #[{ on := 5, ground := Ground.data }, { on := 9, ground := Ground.data }, { on := 3, ground := Ground.guard }, { on := 12, ground := Ground.gcOnly Departure.lateStores }], guard := some (3, true) }) (v := ?vc10) rfl (by kernel_rfl) (by kernel_rfl) (by kernel_rfl) (fun _ _ _ h => h) (Or.inl ⟨by rfl, ?hyc10⟩) (by assumption) ?restc10
  case hyc10 => (intro w hSw; (try dsimp only at hSw); go_simp; (try with_reducible rfl))
  simp only [Act.put, List.setIfInBounds_toArray, List.set_cons_zero, List.set_cons_succ]
  refine wpAnyH_take (i := 11) (oi := { dst := some 67, op := Op.pick (Operand.tmp 59) (Operand.tmp 66) (Operand.const (Value.bool false)), type := 4, pos := "ref.go:72", after := #[{ on := 3, ground := Ground.data }, { on := 10, ground := Ground.data }, { on := 12, ground := Ground.gcOnly Departure.lateStores }], guard := none }) (v := ?vc11) rfl (by kernel_rfl) (by kernel_rfl) (by kernel_rfl) (fun _ _ _ h => h) (Or.inl ⟨by rfl, ?hyc11⟩) (by assumption) ?restc11
  case hyc11 => (intro w hSw; (try dsimp only at hSw); go_simp; (try with_reducible rfl))
  simp only [Act.put, List.setIfInBounds_toArray, List.set_cons_zero, List.set_cons_succ]
  refine wpAnyH_ready (rs := [12]) (by kernel_rfl) (by simp) (AllReadyH.cons (o := { dst := none, op := Op.store 75 (Operand.tmp 4) (Operand.tmp 56), type := 0, pos := "ref.go:72", after := #[{ on := 0, ground := Ground.data }, { on := 3, ground := Ground.chain }, { on := 0, ground := Ground.phase }, { on := 1, ground := Ground.textOnly Departure.lateStores }, { on := 2, ground := Ground.textOnly Departure.lateStores }, { on := 3, ground := Ground.textOnly Departure.lateStores }, { on := 4, ground := Ground.textOnly Departure.lateStores }, { on := 5, ground := Ground.textOnly Departure.lateStores }, { on := 6, ground := Ground.textOnly Departure.lateStores }, { on := 7, ground := Ground.textOnly Departure.lateStores }, { on := 8, ground := Ground.textOnly Departure.lateStores }, { on := 9, ground := Ground.textOnly Departure.lateStores }, { on := 10, ground := Ground.textOnly Departure.lateStores }, { on := 11, ground := Ground.textOnly Departure.lateStores }], guard := none }) rfl (fun K hK => ?_) AllReadyH.nil)
  refine step_store rfl 75 (.tmp 4) (.tmp 56) rfl wr.heap.size (entC kd t ix pk pn bo ct sm) rfl rfl 75 (entC 0 0 0 0 0 ⟨#[]⟩ 0 0) HX7.out En.infoR rfl (oneC _ _ _ _ _ _ _ _) ?_
  refine hK.out _ _ (by exact ⟨(cell_setRow_other _ _ _ _ (HNE5.out 0)).trans g0, (cell_setRow_other _ _ _ _ (HNE5.out 1)).trans g1, (cell_setRow_other _ _ _ _ (HNE5.out 2)).trans g2, (cell_setRow_other _ _ _ _ (HNE5.out 3)).trans g3, (cell_setRow_other _ _ _ _ (HNE5.out 4)).trans g4, (cell_setRow_other _ _ _ _ (HNE5.out 5)).trans g5, (cell_setRow_other _ _ _ _ (HNE5.out 6)).trans g6, (cell_setRow_other _ _ _ _ (HNE5.out 7)).trans g7, (cell_setRow_other _ _ _ _ HNEJ.out).trans h3⟩) (fun hHeld => ?_)
  clear hK K
  refine wpAnyH_take (i := 13) (oi := { dst := some 5, op := Op.assign (Operand.tmp 67), type := 4, pos := "ref.go:72", after := #[{ on := 11, ground := Ground.data }, { on := 12, ground := Ground.chain }, { on := 0, ground := Ground.phase }, { on := 1, ground := Ground.phase }, { on := 2, ground := Ground.phase }, { on := 3, ground := Ground.phase }, { on := 4, ground := Ground.phase }, { on := 5, ground := Ground.phase }, { on := 6, ground := Ground.phase }, { on := 7, ground := Ground.phase }, { on := 8, ground := Ground.phase }, { on := 9, ground := Ground.phase }, { on := 10, ground := Ground.phase }, { on := 11, ground := Ground.phase }, { on := 12, ground := Ground.phase }], guard := none }) (v := ?vc13) rfl (by kernel_rfl) (by kernel_rfl) (by kernel_rfl) (fun _ _ _ h => h) (Or.inl ⟨by rfl, ?hyc13⟩) (by assumption) ?restc13
  case hyc13 => (intro w hSw; (try dsimp only at hSw); go_simp; (try with_reducible rfl))
  simp only [Act.put, List.setIfInBounds_toArray, List.set_cons_zero, List.set_cons_succ]
  refine wpAnyH_done (by kernel_rfl) ?_ _
  obtain ⟨q0, q1, q2, q3, q4, q5, q6, q7⟩ := ent_at (setRow_heap _ _ _ (entC kd t ix pk pn bo ct sm) _ _ HX7.out)
  go_wp2_with fail
  refine bodyPost_ret (v := .tuple #[.agg (entC kd t ix pk pn bo ct sm), .bool true]) (by simp [results, Tryz.results51, go_sem, q0, q1, q2, q3, q4, q5, q6, q7]) rfl ⟨rfl, ?_, ?_⟩
  · exact (rc_setRow HJ7.out.cd wr.heap.size _ (.inr rfl)).less (fun j e => .inl e)
  · exact KS.setRow HB7.out _ _ (Nat.le_refl _)
end
end Go.Proofs.YtaonifdfhlbaiaaGreatDoor.Jn
