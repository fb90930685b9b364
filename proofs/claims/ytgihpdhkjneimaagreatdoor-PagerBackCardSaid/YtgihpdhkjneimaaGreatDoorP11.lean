/- Merged out of EnRead, EnDec, EnRefE. -/
import Derived.Test.YtgihpdhkjneimaaGreatDoorP10
import Derived.Test.YtgihpdhkjneimaaGreatDoorP01
/- read of entry: what stands where a kind's things do. -/
namespace Go.Proofs.YtgihpdhkjneimaaGreatDoor.En
open Go.RowKit
open Go.Lib (hid)
open Go.Proofs.YtgihpdhkjneimaaGreatDoor.Fd (Area Row be be_length num getAt putAt)
open Go.Proofs.YtgihpdhkjneimaaGreatDoor.Sm (wpList_store_whole)

/-- the entry's memory behind read: its area at A, the area's place in block G -/
structure RM (w : World) (A B G : Nat) (l : List UInt8) (wr : World) : Prop where
  area : Area 178 wr A B l
  at' : wr.cell? ⟨G, 0, none⟩ = some (.pointer (some ⟨A, 0, none⟩))
  lt : G < wr.heap.size
  below : Below w.heap.size w wr
theorem RM.next {w wr w' : World} {A B G : Nat} {l : List UInt8} (h : RM w A B G l wr) (hb : Below wr.heap.size wr w') : RM w A B G l w' :=
  ⟨h.area.below hb, (hb.cell (p := ⟨G, 0, none⟩) h.lt).trans h.at', Nat.lt_of_lt_of_le h.lt hb.size, h.below.trans (hb.mono h.below.size)⟩
theorem RM.get {w wr : World} {A B G : Nat} {l : List UInt8} (h : RM w A B G l wr) (o wd : Nat) (o' wd' : Int) (e1 : o' = o) (e2 : wd' = wd) (hw : wd = 1 ∨ wd = 2 ∨ wd = 4) (ho : o ≤ 1000000) :
    Calls Tryz.prog 149 #[.int .i64 o', .int .i64 wd', .pointer (some ⟨G, 0, none⟩)] wr fun e w' => e = .returned (.int .i64 (getOr l o wd : Int)) ∧ wr = w' := read1_ok A B G l o wd wr h.area h.at' hw ho o' wd' e1 e2
theorem infoE : (Tryz.prog.info? 134).map (·.size) = some 8 := by kernel_rfl
theorem infoC (kd tx ix pk pn : Int) (b : ByteArray) (ct sm : Int) : (Tryz.prog.info? 134).map (·.size) = some (entC kd tx ix pk pn b ct sm).size := infoE
theorem oldC (kd tx ix pk pn : Int) (b : ByteArray) (ct sm kd' tx' ix' pk' pn' : Int) (b' : ByteArray) (ct' sm' : Int) : (entC kd tx ix pk pn b ct sm).size = (entC kd' tx' ix' pk' pn' b' ct' sm').size := rfl
theorem oneC (kd tx ix pk pn : Int) (b : ByteArray) (ct sm : Int) : (entC kd tx ix pk pn b ct sm).all (·.oneCell') = true := by simp [Value.oneCell']
/-- the entry's cells -/
theorem ent_at {V : World} {g : Nat} {kd tx ix pk pn : Int} {b : ByteArray} {ct sm : Int} {T : TypeId} (h : V.heap[g]? = some (.cells (entC kd tx ix pk pn b ct sm) T (0, 0))) :
    V.cell? ⟨g, 0, none⟩ = some (.int .i64 kd) ∧ V.cell? ⟨g, 1, none⟩ = some (.int .i64 tx) ∧ V.cell? ⟨g, 2, none⟩ = some (.int .i64 ix) ∧ V.cell? ⟨g, 3, none⟩ = some (.int .i64 pk) ∧ V.cell? ⟨g, 4, none⟩ = some (.int .i64 pn) ∧ V.cell? ⟨g, 5, none⟩ = some (.string b) ∧ V.cell? ⟨g, 6, none⟩ = some (.int .i64 ct) ∧ V.cell? ⟨g, 7, none⟩ = some (.int .u32 sm) := by
  refine ⟨?_, ?_, ?_, ?_, ?_, ?_, ?_, ?_⟩ <;> rw [cell_of_row _ _ _ _ _ _ h] <;> rfl
theorem rm_new {w w1 : World} {A B : Nat} {l : List UInt8} (hb : Below w.heap.size w w1) (ha : Area 178 w1 A B l) : RM w A B w1.heap.size l (w1.alloc (.cells #[.pointer (some ⟨A, 0, none⟩)] 165)) :=
  ⟨ha.below ((Below.refl _ _).alloc (Nat.le_refl _) _), by rw [cell_of_row _ _ _ _ _ _ (heap_alloc_new _ _)]; rfl, by simp, hb.trans (((Below.refl w1.heap.size w1).alloc (Nat.le_refl _) _).mono hb.size)⟩
set_option maxRecDepth 100000 in
set_option maxHeartbeats 4000000 in
theorem read_far (s : ByteArray) (w : World) (hs : s.size ≤ 4096) (h1 : getOr s.data.toList 0 1 ≠ 1) (h2 : getOr s.data.toList 0 1 ≠ 2) :
    Calls Tryz.prog 135 #[.string s] w fun e w' => e = .returned (.agg (entC (getOr s.data.toList 0 1) (getOr s.data.toList 1 4) (getOr s.data.toList 5 2) 0 0 ⟨#[]⟩ 0 0)) ∧ Below w.heap.size w w' := by
  have HOF := hid fun (V : World) => Fd.of_ok s V hs
  have e1 : (((getOr s.data.toList 0 1 : Nat) : Int) == 1) = false := by simp; omega
  have e2 : (((getOr s.data.toList 0 1 : Nat) : Int) == 2) = false := by simp; omega
  have HG := hid fun (wr : World) (A B G : Nat) (h : RM w A B G s.data.toList wr) => h.get 0 1 0 1 rfl rfl (by decide) (by decide)
  have HG2 := hid fun (wr : World) (A B G : Nat) (h : RM w A B G s.data.toList wr) => h.get 1 4 1 4 rfl rfl (by decide) (by decide)
  have HG3 := hid fun (wr : World) (A B G : Nat) (h : RM w A B G s.data.toList wr) => h.get 5 2 5 2 rfl rfl (by decide) (by decide)
  generalize getOr s.data.toList 0 1 = k at *
  generalize getOr s.data.toList 1 4 = tx at *
  generalize getOr s.data.toList 5 2 = ix at *
  clear h1 h2
  go_enter Tryz.func135, Tryz.ntmps135
  go_wp2_with fail
  refine (HOF.out _).mono ?_
  rintro e w1 ⟨rfl, ha, hb⟩
  have HB := hid (((Below.refl w.heap.size w).alloc (Nat.le_refl _) _).trans (hb.mono (by simp)))
  have HZ := hid fun (X : World) (hX : Below w1.heap.size w1 X) => (show X.heap[w.heap.size]? = some (.cells (entC 0 0 0 0 0 ⟨#[]⟩ 0 0) 134 (0, 0)) from (hX.block _ (by have := hb.size; simp at this; omega)).trans ((hb.block _ (by simp)).trans (heap_alloc_new _ _)))
  have HM := hid (rm_new HB.out (show Area 178 w1 (w.heap.size + 1 + 1) (w.heap.size + 1) s.data.toList by simpa using ha))
  clear ha hb
  go_wp2_with fail
  refine (HG.out _ _ _ _ HM.out).mono ?_
  rintro e w2 ⟨rfl, rfl⟩
  go_wp2_with fail
  refine (HG2.out _ _ _ _ HM.out).mono ?_
  rintro e w2 ⟨rfl, rfl⟩
  go_wp2_with fail
  refine (HG3.out _ _ _ _ HM.out).mono ?_
  rintro e w2 ⟨rfl, rfl⟩
  go_wp2_with (first | (with_reducible refine wpList_store_whole rfl 134 (.tmp 2) (.tmp 50) rfl rfl w.heap.size (entC k tx ix 0 0 ⟨#[]⟩ 0 0) rfl rfl 134 _ (HZ.out _ (((Below.refl w1.heap.size w1).alloc (Nat.le_refl _) (.cells #[.pointer (some ⟨w.heap.size + 1 + 1, 0, none⟩)] 165)).alloc (by simp) (.cells (entC k tx ix 0 0 ⟨#[]⟩ 0 0) 134))) (infoC _ _ _ _ _ _ _ _) (oldC _ _ _ _ _ _ _ _ _ _ _ _ _ _ _ _) (oneC _ _ _ _ _ _ _ _) ?_))
  have hz := HZ.out _ (((Below.refl w1.heap.size w1).alloc (Nat.le_refl _) (.cells #[.pointer (some ⟨w.heap.size + 1 + 1, 0, none⟩)] 165)).alloc (by simp) (.cells (entC k tx ix 0 0 ⟨#[]⟩ 0 0) 134))
  obtain ⟨q0, q1, q2, q3, q4, q5, q6, q7⟩ := ent_at (setRow_heap _ _ _ (entC k tx ix 0 0 ⟨#[]⟩ 0 0) _ _ hz)
  refine bodyPost_ret (v := .agg (entC k tx ix 0 0 ⟨#[]⟩ 0 0)) (by simp [results, Tryz.results135, go_sem, q0, q1, q2, q3, q4, q5, q6, q7]) rfl ⟨rfl, ?_⟩
  exact below_setRow (HB.out.trans ((show Below w1.heap.size w1 _ from (((Below.refl w1.heap.size w1).alloc (Nat.le_refl _) (.cells #[.pointer (some ⟨w.heap.size + 1 + 1, 0, none⟩)] 165)).alloc (by simp) (.cells (entC k tx ix 0 0 ⟨#[]⟩ 0 0) 134))).mono HB.out.size)) (Nat.le_refl _) _
set_option maxRecDepth 100000 in
set_option maxHeartbeats 4000000 in
theorem read_stage (s : ByteArray) (w : World) (hs : s.size ≤ 4096) (h10 : 10 ≤ s.size) (h1 : getOr s.data.toList 0 1 = 1) :
    Calls Tryz.prog 135 #[.string s] w fun e w' => e = .returned (.agg (entC 1 (getOr s.data.toList 1 4) (getOr s.data.toList 5 2) (getOr s.data.toList 7 1) (getOr s.data.toList 8 2) ⟨(getAt s.data.toList 10 (s.size - 10)).toArray⟩ 0 0)) ∧ Below w.heap.size w w' := by
  have HOF := hid fun (V : World) => Fd.of_ok s V hs
  have HG := hid fun (wr : World) (A B G : Nat) (h : RM w A B G s.data.toList wr) => (show Calls Tryz.prog 149 #[.int .i64 0, .int .i64 1, .pointer (some ⟨G, 0, none⟩)] wr fun e w' => e = .returned (.int .i64 1) ∧ wr = w' by have h2 := h.get 0 1 0 1 rfl rfl (by decide) (by decide); rw [h1] at h2; exact h2)
  have HG2 := hid fun (wr : World) (A B G : Nat) (h : RM w A B G s.data.toList wr) => h.get 1 4 1 4 rfl rfl (by decide) (by decide)
  have HG3 := hid fun (wr : World) (A B G : Nat) (h : RM w A B G s.data.toList wr) => h.get 5 2 5 2 rfl rfl (by decide) (by decide)
  have HG4 := hid fun (wr : World) (A B G : Nat) (h : RM w A B G s.data.toList wr) => h.get 7 1 7 1 rfl rfl (by decide) (by decide)
  have HG5 := hid fun (wr : World) (A B G : Nat) (h : RM w A B G s.data.toList wr) => h.get 8 2 8 2 rfl rfl (by decide) (by decide)
  have HT := hid fun (wr : World) (A B G : Nat) (h : RM w A B G s.data.toList wr) => (show Calls Tryz.prog 148 #[.pointer (some ⟨A, 0, none⟩), .int .i64 10, .int .i64 ((s.size : Int) - 10)] wr fun e w' => e = .returned (.tuple #[.string ⟨(getAt s.data.toList 10 (s.size - 10)).toArray⟩, .int .i64 0]) ∧ wr = w' by
    have h2 := Fd.getText_ok A B s.data.toList 10 (s.size - 10) wr h.area (by rw [Fd.size_list]; omega)
    rw [show ((s.size - 10 : Nat) : Int) = (s.size : Int) - 10 by omega] at h2; exact h2)
  generalize getOr s.data.toList 1 4 = tx at *
  generalize getOr s.data.toList 5 2 = ix at *
  generalize getOr s.data.toList 7 1 = pk at *
  generalize getOr s.data.toList 8 2 = pn at *
  obtain ⟨body, hbody⟩ : ∃ b : ByteArray, (⟨(getAt s.data.toList 10 (s.size - 10)).toArray⟩ : ByteArray) = b := ⟨_, rfl⟩
  rw [hbody] at HT ⊢
  clear h1 hbody
  go_enter Tryz.func135, Tryz.ntmps135
  go_wp2_with fail
  refine (HOF.out _).mono ?_
  rintro e w1 ⟨rfl, ha, hb⟩
  have HB := hid (((Below.refl w.heap.size w).alloc (Nat.le_refl _) _).trans (hb.mono (by simp)))
  have HZ := hid fun (X : World) (hX : Below w1.heap.size w1 X) => (show X.heap[w.heap.size]? = some (.cells (entC 0 0 0 0 0 ⟨#[]⟩ 0 0) 134 (0, 0)) from (hX.block _ (by have := hb.size; simp at this; omega)).trans ((hb.block _ (by simp)).trans (heap_alloc_new _ _)))
  have HM := hid (rm_new HB.out (show Area 178 w1 (w.heap.size + 1 + 1) (w.heap.size + 1) s.data.toList by simpa using ha))
  clear ha hb
  go_wp2_with fail
  refine (HG.out _ _ _ _ HM.out).mono ?_
  rintro e w2 ⟨rfl, rfl⟩
  go_wp2_with fail
  refine (HG2.out _ _ _ _ HM.out).mono ?_
  rintro e w2 ⟨rfl, rfl⟩
  go_wp2_with fail
  refine (HG3.out _ _ _ _ HM.out).mono ?_
  rintro e w2 ⟨rfl, rfl⟩
  go_wp2_with fail
  have HM2 := hid (HM.out.next ((Below.refl _ _).alloc (Nat.le_refl _) (.cells (entC 1 tx ix 0 0 ⟨#[]⟩ 0 0) 134)))
  refine (HT.out _ _ _ _ HM2.out).mono ?_
  rintro e w2 ⟨rfl, rfl⟩
  go_wp2_with fail
  refine (HG4.out _ _ _ _ HM2.out).mono ?_
  rintro e w2 ⟨rfl, rfl⟩
  go_wp2_with fail
  refine (HG5.out _ _ _ _ HM2.out).mono ?_
  rintro e w2 ⟨rfl, rfl⟩
  go_wp2_with (first | (refine wpList_store_whole ?gd 134 (.tmp 2) (.tmp 50) (by with_reducible rfl) ?dd w.heap.size ?cs ?xx ?yy 134 ?old ?hz ?i ?o ?n ?_))
  case gd => rfl
  case dd => rfl
  case cs => exact (entC 1 tx ix pk pn body 0 0)
  case xx => rfl
  case yy => rfl
  case old => exact (entC 0 0 0 0 0 ⟨#[]⟩ 0 0)
  case hz => exact HZ.out _ (((Below.refl w1.heap.size w1).alloc (Nat.le_refl _) (.cells #[.pointer (some ⟨w.heap.size + 1 + 1, 0, none⟩)] 165)).alloc (by simp) (.cells (entC 1 tx ix pk pn body 0 0) 134))
  case i => exact infoC _ _ _ _ _ _ _ _
  case o => rfl
  case n => exact (oneC _ _ _ _ _ _ _ _)
  have hz := HZ.out _ (((Below.refl w1.heap.size w1).alloc (Nat.le_refl _) (.cells #[.pointer (some ⟨w.heap.size + 1 + 1, 0, none⟩)] 165)).alloc (by simp) (.cells (entC 1 tx ix pk pn body 0 0) 134))
  obtain ⟨q0, q1, q2, q3, q4, q5, q6, q7⟩ := ent_at (setRow_heap _ _ _ (entC 1 tx ix pk pn body 0 0) _ _ hz)
  refine bodyPost_ret (v := .agg (entC 1 tx ix pk pn body 0 0)) (by simp [results, Tryz.results135, go_sem, q0, q1, q2, q3, q4, q5, q6, q7]) rfl ⟨rfl, ?_⟩
  exact below_setRow (HB.out.trans ((show Below w1.heap.size w1 _ from (((Below.refl w1.heap.size w1).alloc (Nat.le_refl _) (.cells #[.pointer (some ⟨w.heap.size + 1 + 1, 0, none⟩)] 165)).alloc (by simp) (.cells (entC 1 tx ix pk pn body 0 0) 134))).mono HB.out.size)) (Nat.le_refl _) _
set_option maxRecDepth 100000 in
set_option maxHeartbeats 4000000 in
theorem read_commit (s : ByteArray) (w : World) (hs : s.size ≤ 4096) (h1 : getOr s.data.toList 0 1 = 2) :
    Calls Tryz.prog 135 #[.string s] w fun e w' => e = .returned (.agg (entC 2 (getOr s.data.toList 1 4) (getOr s.data.toList 5 2) 0 0 ⟨#[]⟩ (getOr s.data.toList 7 2) (getOr s.data.toList 9 4))) ∧ Below w.heap.size w w' := by
  have HOF := hid fun (V : World) => Fd.of_ok s V hs
  have HG := hid fun (wr : World) (A B G : Nat) (h : RM w A B G s.data.toList wr) => (show Calls Tryz.prog 149 #[.int .i64 0, .int .i64 1, .pointer (some ⟨G, 0, none⟩)] wr fun e w' => e = .returned (.int .i64 2) ∧ wr = w' by have h2 := h.get 0 1 0 1 rfl rfl (by decide) (by decide); rw [h1] at h2; exact h2)
  have HG2 := hid fun (wr : World) (A B G : Nat) (h : RM w A B G s.data.toList wr) => h.get 1 4 1 4 rfl rfl (by decide) (by decide)
  have HG3 := hid fun (wr : World) (A B G : Nat) (h : RM w A B G s.data.toList wr) => h.get 5 2 5 2 rfl rfl (by decide) (by decide)
  have HG4 := hid fun (wr : World) (A B G : Nat) (h : RM w A B G s.data.toList wr) => h.get 7 2 7 2 rfl rfl (by decide) (by decide)
  have HG5 := hid fun (wr : World) (A B G : Nat) (h : RM w A B G s.data.toList wr) => h.get 9 4 9 4 rfl rfl (by decide) (by decide)
  have hsm := getOr_lt s.data.toList 9 4 (by decide)
  generalize getOr s.data.toList 1 4 = tx at *
  generalize getOr s.data.toList 5 2 = ix at *
  generalize getOr s.data.toList 7 2 = ct at *
  generalize getOr s.data.toList 9 4 = sm at *
  clear h1
  go_enter Tryz.func135, Tryz.ntmps135
  go_wp2_with fail
  refine (HOF.out _).mono ?_
  rintro e w1 ⟨rfl, ha, hb⟩
  have HB := hid (((Below.refl w.heap.size w).alloc (Nat.le_refl _) _).trans (hb.mono (by simp)))
  have HZ := hid fun (X : World) (hX : Below w1.heap.size w1 X) => (show X.heap[w.heap.size]? = some (.cells (entC 0 0 0 0 0 ⟨#[]⟩ 0 0) 134 (0, 0)) from (hX.block _ (by have := hb.size; simp at this; omega)).trans ((hb.block _ (by simp)).trans (heap_alloc_new _ _)))
  have HM := hid (rm_new HB.out (show Area 178 w1 (w.heap.size + 1 + 1) (w.heap.size + 1) s.data.toList by simpa using ha))
  clear ha hb
  go_wp2_with fail
  refine (HG.out _ _ _ _ HM.out).mono ?_
  rintro e w2 ⟨rfl, rfl⟩
  go_wp2_with fail
  refine (HG2.out _ _ _ _ HM.out).mono ?_
  rintro e w2 ⟨rfl, rfl⟩
  go_wp2_with fail
  refine (HG3.out _ _ _ _ HM.out).mono ?_
  rintro e w2 ⟨rfl, rfl⟩
  go_wp2_with fail
  have HM2 := hid (HM.out.next ((Below.refl _ _).alloc (Nat.le_refl _) (.cells (entC 2 tx ix 0 0 ⟨#[]⟩ 0 0) 134)))
  refine (HG4.out _ _ _ _ HM2.out).mono ?_
  rintro e w2 ⟨rfl, rfl⟩
  go_wp2_with fail
  refine (HG5.out _ _ _ _ HM2.out).mono ?_
  rintro e w2 ⟨rfl, rfl⟩
  go_wp2_with (first | (refine wpList_store_whole ?gd 134 (.tmp 2) (.tmp 50) (by with_reducible rfl) ?dd w.heap.size ?cs ?xx ?yy 134 ?old ?hz ?i ?o ?n ?_))
  case gd => rfl
  case dd => rfl
  case cs => exact (entC 2 tx ix 0 0 ⟨#[]⟩ ct sm)
  case xx => rfl
  case yy => rfl
  case old => exact (entC 0 0 0 0 0 ⟨#[]⟩ 0 0)
  case hz => exact HZ.out _ (((Below.refl w1.heap.size w1).alloc (Nat.le_refl _) (.cells #[.pointer (some ⟨w.heap.size + 1 + 1, 0, none⟩)] 165)).alloc (by simp) (.cells (entC 2 tx ix 0 0 ⟨#[]⟩ ct sm) 134))
  case i => exact infoC _ _ _ _ _ _ _ _
  case o => rfl
  case n => exact (oneC _ _ _ _ _ _ _ _)
  have hz := HZ.out _ (((Below.refl w1.heap.size w1).alloc (Nat.le_refl _) (.cells #[.pointer (some ⟨w.heap.size + 1 + 1, 0, none⟩)] 165)).alloc (by simp) (.cells (entC 2 tx ix 0 0 ⟨#[]⟩ ct sm) 134))
  obtain ⟨q0, q1, q2, q3, q4, q5, q6, q7⟩ := ent_at (setRow_heap _ _ _ (entC 2 tx ix 0 0 ⟨#[]⟩ ct sm) _ _ hz)
  refine bodyPost_ret (v := .agg (entC 2 tx ix 0 0 ⟨#[]⟩ ct sm)) (by simp [results, Tryz.results135, go_sem, q0, q1, q2, q3, q4, q5, q6, q7]) rfl ⟨rfl, ?_⟩
  exact below_setRow (HB.out.trans ((show Below w1.heap.size w1 _ from (((Below.refl w1.heap.size w1).alloc (Nat.le_refl _) (.cells #[.pointer (some ⟨w.heap.size + 1 + 1, 0, none⟩)] 165)).alloc (by simp) (.cells (entC 2 tx ix 0 0 ⟨#[]⟩ ct sm) 134))).mono HB.out.size)) (Nat.le_refl _) _
end Go.Proofs.YtgihpdhkjneimaaGreatDoor.En

/- Decode of entry: what it answers to a text. -/
namespace Go.Proofs.YtgihpdhkjneimaaGreatDoor.En
open Go.RowKit
open Go.Lib (hid)
open Go.Proofs.YtgihpdhkjneimaaGreatDoor.Fd (be be_length num getAt putAt)
open Go.Proofs.YtgihpdhkjneimaaGreatDoor.Sm (wpList_store_whole)

/-- what read makes of a text: in an entry's parts -/
def Rd (s : ByteArray) (kd tx ix pk pn : Int) (b : ByteArray) (ct sm : Int) : Prop :=
  tx = (getOr s.data.toList 1 4 : Nat) ∧ ix = (getOr s.data.toList 5 2 : Nat) ∧ kd = (getOr s.data.toList 0 1 : Nat) ∧
  ((kd = 1 ∧ 10 ≤ s.size ∧ pk = (getOr s.data.toList 7 1 : Nat) ∧ pn = (getOr s.data.toList 8 2 : Nat) ∧ b = ⟨(getAt s.data.toList 10 (s.size - 10)).toArray⟩ ∧ ct = 0 ∧ sm = 0) ∨
   (kd = 2 ∧ pk = 0 ∧ pn = 0 ∧ b = ⟨#[]⟩ ∧ ct = (getOr s.data.toList 7 2 : Nat) ∧ sm = (getOr s.data.toList 9 4 : Nat)) ∨
   (kd ≠ 1 ∧ kd ≠ 2 ∧ pk = 0 ∧ pn = 0 ∧ b = ⟨#[]⟩ ∧ ct = 0 ∧ sm = 0))
theorem read_any (s : ByteArray) (kd tx ix pk pn : Int) (b : ByteArray) (ct sm : Int) (w : World) (hs : s.size ≤ 4096) (h : Rd s kd tx ix pk pn b ct sm) :
    Calls Tryz.prog 135 #[.string s] w fun e w' => e = .returned (.agg (entC kd tx ix pk pn b ct sm)) ∧ Below w.heap.size w w' := by
  obtain ⟨rfl, rfl, rfl, ⟨h1, h10, rfl, rfl, rfl, rfl, rfl⟩ | ⟨h1, rfl, rfl, rfl, rfl, rfl⟩ | ⟨h1, h2, rfl, rfl, rfl, rfl, rfl⟩⟩ := h
  · rw [h1]; exact read_stage s w hs h10 (by omega)
  · rw [h1]; exact read_commit s w hs (by omega)
  · exact read_far s w hs (by omega) (by omega)
theorem Rd.fit {s : ByteArray} {kd tx ix pk pn : Int} {b : ByteArray} {ct sm : Int} (h : Rd s kd tx ix pk pn b ct sm) : tx ≤ 9223372036854775807 ∧ 0 ≤ sm ∧ sm < 4294967296 := by
  obtain ⟨h1, _, _, h2⟩ := h
  have := getOr_lt s.data.toList 1 4 (by decide)
  have := getOr_lt s.data.toList 9 4 (by decide)
  rcases h2 with h2 | h2 | h2
  · omega
  · omega
  · omega
theorem rd_ex (s : ByteArray) (h10 : getOr s.data.toList 0 1 = 1 → 10 ≤ s.size) : ∃ kd tx ix pk pn b ct sm, Rd s kd tx ix pk pn b ct sm := by
  by_cases h1 : getOr s.data.toList 0 1 = 1
  · exact ⟨_, _, _, _, _, _, _, _, rfl, rfl, rfl, .inl ⟨by omega, h10 h1, rfl, rfl, rfl, rfl, rfl⟩⟩
  · by_cases h2 : getOr s.data.toList 0 1 = 2
    · exact ⟨_, _, _, _, _, _, _, _, rfl, rfl, rfl, .inr (.inl ⟨by omega, rfl, rfl, rfl, rfl, rfl⟩)⟩
    · exact ⟨_, _, _, _, _, _, _, _, rfl, rfl, rfl, .inr (.inr ⟨by omega, by omega, rfl, rfl, rfl, rfl, rfl⟩)⟩
theorem Lst.next {w w' : World} (h : Lst w) (hp : 0 < w.heap.size) (hb : Below w.heap.size w w') : Lst w' :=
  ⟨(hb.cell (p := ⟨0, 0, none⟩) hp).trans h.c0, (hb.cell (p := ⟨0, 1, none⟩) hp).trans h.c1, (hb.cell (p := ⟨0, 2, none⟩) hp).trans h.c2, (hb.cell (p := ⟨0, 3, none⟩) hp).trans h.c3⟩
theorem Lst.pos {w : World} (h : Lst w) : 0 < w.heap.size := by
  rcases Nat.eq_zero_or_pos w.heap.size with h0 | h0
  · have hc := h.c0
    have hn : w.heap[0]? = none := by rw [Array.getElem?_eq_none]; omega
    simp [World.cell?, hn] at hc
  · exact h0
set_option maxRecDepth 100000 in
set_option maxHeartbeats 4000000 in
theorem decode_cut (s : ByteArray) (w : World) (hC : ∀ V : World, Lst V → Calls Tryz.prog 134 #[.string s] V fun e w' => e = .returned (.bool true) ∧ w' = V) (hL : Lst w) :
    Calls Tryz.prog 101 #[.string s] w fun e w' => e = .returned (.tuple #[.agg (entC 0 0 0 0 0 ⟨#[]⟩ 0 0), .int .i64 9]) ∧ Below w.heap.size w w' := by
  have HC := hid hC
  have HL := hid (hL.next hL.pos ((Below.refl _ _).alloc (Nat.le_refl _) (.cells (entC 0 0 0 0 0 ⟨#[]⟩ 0 0) 134)))
  clear hC hL
  go_enter Tryz.func101, Tryz.ntmps101
  go_wp2_with fail
  refine (HC.out _ HL.out).mono ?_
  rintro e w1 ⟨rfl, rfl⟩
  go_wp2_with fail
  refine bodyPost_ret (v := .tuple #[.agg (entC 0 0 0 0 0 ⟨#[]⟩ 0 0), .int .i64 9]) (by simp [results, Tryz.results101, go_sem]) rfl ⟨rfl, ?_⟩
  exact ((Below.refl _ _).alloc (Nat.le_refl _) _)
theorem ba_other {a b : ByteArray} (h : a ≠ b) : (a.toList == b.toList) = false := by
  rw [beq_eq_false_iff_ne]
  intro h2
  rw [Go.ByteArray.toList_eq, Go.ByteArray.toList_eq] at h2
  exact h (by apply ByteArray.ext; rw [← Array.toList_inj]; exact h2)
set_option maxRecDepth 100000 in
set_option maxHeartbeats 4000000 in
theorem decode_bad (s : ByteArray) (kd tx ix pk pn : Int) (b : ByteArray) (ct sm : Int) (w : World) (hs : s.size ≤ 4096) (hr : Rd s kd tx ix pk pn b ct sm) (hC : ∀ V : World, Lst V → Calls Tryz.prog 134 #[.string s] V fun e w' => e = .returned (.bool false) ∧ w' = V) (hL : Lst w) (hq : (encR kd tx ix pk pn b ct sm).1 ≠ s) :
    Calls Tryz.prog 101 #[.string s] w fun e w' => e = .returned (.tuple #[.agg (entC 0 0 0 0 0 ⟨#[]⟩ 0 0), .int .i64 6]) ∧ Below w.heap.size w w' := by
  have HC := hid hC
  have HR := hid fun (V : World) => read_any s kd tx ix pk pn b ct sm V hs hr
  have HE := hid fun (V : World) (hV : Lst V) => encode_any kd tx ix pk pn b ct sm V hV hr.fit.1 hr.fit.2.1 hr.fit.2.2
  have HL := hid (hL.next hL.pos ((Below.refl _ _).alloc (Nat.le_refl _) (.cells (entC 0 0 0 0 0 ⟨#[]⟩ 0 0) 134)))
  generalize encR kd tx ix pk pn b ct sm = r at *
  obtain ⟨r1, r2⟩ := r
  dsimp only at HE hq
  have e1 : (r1.toList == s.toList) = false := by exact ba_other hq
  clear hC hL hr hq
  go_enter Tryz.func101, Tryz.ntmps101
  go_wp2_with fail
  refine (HC.out _ HL.out).mono ?_
  rintro e w1 ⟨rfl, rfl⟩
  go_wp2_with fail
  refine (HR.out _).mono ?_
  rintro e w1 ⟨rfl, hb⟩
  have HB := hid (((Below.refl w.heap.size w).alloc (Nat.le_refl _) (.cells (entC 0 0 0 0 0 ⟨#[]⟩ 0 0) 134)).trans (hb.mono (by simp)))
  have HL1 := hid ((HL.out.next (by simp) hb).next (HL.out.next (by simp) hb).pos ((Below.refl _ _).alloc (Nat.le_refl _) (.cells (entC kd tx ix pk pn b ct sm) 134)))
  have HZ := hid fun (X : World) (hX : Below w1.heap.size w1 X) => (show X.heap[w.heap.size]? = some (.cells (entC 0 0 0 0 0 ⟨#[]⟩ 0 0) 134 (0, 0)) from (hX.block _ (by have := hb.size; simp at this; omega)).trans ((hb.block _ (by simp)).trans (heap_alloc_new _ _)))
  clear hb
  go_wp2_with fail
  refine (HE.out _ HL1.out).mono ?_
  rintro e w2 ⟨rfl, hb⟩
  have HB2 := hid (((Below.refl w1.heap.size w1).alloc (Nat.le_refl _) (.cells (entC kd tx ix pk pn b ct sm) 134)).trans (hb.mono (by simp)))
  have HZ2 := hid (HZ.out _ HB2.out)
  obtain ⟨p0, p1, p2, p3, p4, p5, p6, p7⟩ := ent_at ((hb.block w1.heap.size (by simp)).trans (heap_alloc_new _ _))
  clear hb
  go_wp2_with (first | (refine wpList_store_whole ?gd 134 (.tmp 2) (.tmp 20) (by with_reducible rfl) ?dd w.heap.size ?cs ?xx ?yy 134 ?old ?hz ?i ?o ?n ?_))
  case gd => rfl
  case dd => rfl
  case cs => exact (entC 0 0 0 0 0 ⟨#[]⟩ 0 0)
  case xx => rfl
  case yy => rfl
  case old => exact (entC 0 0 0 0 0 ⟨#[]⟩ 0 0)
  case hz => exact HZ2.out
  case i => exact infoC _ _ _ _ _ _ _ _
  case o => rfl
  case n => exact (oneC _ _ _ _ _ _ _ _)
  obtain ⟨q0, q1, q2, q3, q4, q5, q6, q7⟩ := ent_at (setRow_heap _ _ _ (entC 0 0 0 0 0 ⟨#[]⟩ 0 0) _ _ HZ2.out)
  go_wp2_with fail
  refine bodyPost_ret (v := .tuple #[.agg (entC 0 0 0 0 0 ⟨#[]⟩ 0 0), .int .i64 6]) (by simp [results, Tryz.results101, go_sem, q0, q1, q2, q3, q4, q5, q6, q7]) rfl ⟨rfl, ?_⟩
  exact below_setRow (HB.out.trans (HB2.out.mono HB.out.size)) (Nat.le_refl _) _
set_option maxRecDepth 100000 in
set_option maxHeartbeats 4000000 in
theorem decode_ok (s : ByteArray) (kd tx ix pk pn : Int) (b : ByteArray) (ct sm : Int) (w : World) (hs : s.size ≤ 4096) (hr : Rd s kd tx ix pk pn b ct sm) (hC : ∀ V : World, Lst V → Calls Tryz.prog 134 #[.string s] V fun e w' => e = .returned (.bool false) ∧ w' = V) (hL : Lst w) (hq : (encR kd tx ix pk pn b ct sm).1 = s) :
    Calls Tryz.prog 101 #[.string s] w fun e w' => e = .returned (.tuple #[.agg (entC kd tx ix pk pn b ct sm), .int .i64 0]) ∧ Below w.heap.size w w' := by
  have HC := hid hC
  have HR := hid fun (V : World) => read_any s kd tx ix pk pn b ct sm V hs hr
  have HE := hid fun (V : World) (hV : Lst V) => encode_any kd tx ix pk pn b ct sm V hV hr.fit.1 hr.fit.2.1 hr.fit.2.2
  have HL := hid (hL.next hL.pos ((Below.refl _ _).alloc (Nat.le_refl _) (.cells (entC 0 0 0 0 0 ⟨#[]⟩ 0 0) 134)))
  generalize encR kd tx ix pk pn b ct sm = r at *
  obtain ⟨r1, r2⟩ := r
  dsimp only at HE hq
  have e1 : (r1.toList == s.toList) = true := by rw [hq]; simp
  clear hC hL hr hq
  go_enter Tryz.func101, Tryz.ntmps101
  go_wp2_with fail
  refine (HC.out _ HL.out).mono ?_
  rintro e w1 ⟨rfl, rfl⟩
  go_wp2_with fail
  refine (HR.out _).mono ?_
  rintro e w1 ⟨rfl, hb⟩
  have HB := hid (((Below.refl w.heap.size w).alloc (Nat.le_refl _) (.cells (entC 0 0 0 0 0 ⟨#[]⟩ 0 0) 134)).trans (hb.mono (by simp)))
  have HL1 := hid ((HL.out.next (by simp) hb).next (HL.out.next (by simp) hb).pos ((Below.refl _ _).alloc (Nat.le_refl _) (.cells (entC kd tx ix pk pn b ct sm) 134)))
  have HZ := hid fun (X : World) (hX : Below w1.heap.size w1 X) => (show X.heap[w.heap.size]? = some (.cells (entC 0 0 0 0 0 ⟨#[]⟩ 0 0) 134 (0, 0)) from (hX.block _ (by have := hb.size; simp at this; omega)).trans ((hb.block _ (by simp)).trans (heap_alloc_new _ _)))
  clear hb
  go_wp2_with fail
  refine (HE.out _ HL1.out).mono ?_
  rintro e w2 ⟨rfl, hb⟩
  have HB2 := hid (((Below.refl w1.heap.size w1).alloc (Nat.le_refl _) (.cells (entC kd tx ix pk pn b ct sm) 134)).trans (hb.mono (by simp)))
  have HZ2 := hid (HZ.out _ HB2.out)
  obtain ⟨p0, p1, p2, p3, p4, p5, p6, p7⟩ := ent_at ((hb.block w1.heap.size (by simp)).trans (heap_alloc_new _ _))
  clear hb
  go_wp2_with (first | (refine wpList_store_whole ?gd 134 (.tmp 2) (.tmp 21) (by with_reducible rfl) ?dd w.heap.size ?cs ?xx ?yy 134 ?old ?hz ?i ?o ?n ?_))
  case gd => rfl
  case dd => rfl
  case cs => exact (entC kd tx ix pk pn b ct sm)
  case xx => rfl
  case yy => rfl
  case old => exact (entC 0 0 0 0 0 ⟨#[]⟩ 0 0)
  case hz => exact HZ2.out
  case i => exact infoC _ _ _ _ _ _ _ _
  case o => rfl
  case n => exact (oneC _ _ _ _ _ _ _ _)
  obtain ⟨q0, q1, q2, q3, q4, q5, q6, q7⟩ := ent_at (setRow_heap _ _ _ (entC kd tx ix pk pn b ct sm) _ _ HZ2.out)
  go_wp2_with fail
  refine bodyPost_ret (v := .tuple #[.agg (entC kd tx ix pk pn b ct sm), .int .i64 0]) (by simp [results, Tryz.results101, go_sem, q0, q1, q2, q3, q4, q5, q6, q7]) rfl ⟨rfl, ?_⟩
  exact below_setRow (HB.out.trans (HB2.out.mono HB.out.size)) (Nat.le_refl _) _
end Go.Proofs.YtgihpdhkjneimaaGreatDoor.En

/- The document's own Encode, whatever entry it is asked for. -/
namespace Go.Proofs.YtgihpdhkjneimaaGreatDoor.En
open Go.RowKit
open Go.Lib (hid)
open Go.Proofs.YtgihpdhkjneimaaGreatDoor.Fd (be be_length num getAt)

theorem join_list (a b : List UInt8) : (⟨a.toArray⟩ : ByteArray) ++ (⟨b.toArray⟩ : ByteArray) = ⟨(a ++ b).toArray⟩ := by
  apply ByteArray.ext; simp
theorem join_bytes (a : List UInt8) (b : ByteArray) : (⟨a.toArray⟩ : ByteArray) ++ b = ⟨(a ++ b.data.toList).toArray⟩ := by
  apply ByteArray.ext; simp
theorem refenc_no (kd tx ix pk pn ct sm : Int) (b : ByteArray) (w : World) (h : ¬ mayE kd tx ix pk pn b ct sm) :
    Calls Tryz.prog 43 #[.agg (entC kd tx ix pk pn b ct sm)] w fun e w' => e = .returned (.tuple #[.string ⟨#[]⟩, .int .i64 1]) ∧ Below w.heap.size w w' := by
  have HC := hid fun (V : World) => refcheck_no kd tx ix pk pn ct sm b V h
  clear h
  go_enter Tryz.func43, Tryz.ntmps43
  go_wp2_with fail
  refine (HC.out _).mono ?_
  rintro e w1 ⟨rfl, hb⟩
  have HB := hid (((Below.refl w.heap.size w).alloc (Nat.le_refl _) _).trans (hb.mono (by simp)))
  clear hb
  go_wp2_with fail
  go_ret2
  exact ⟨rfl, HB.out⟩
set_option maxRecDepth 100000 in
set_option maxHeartbeats 4000000 in
theorem refenc_abort (tx ix : Nat) (w : World) (h : mayE 3 tx ix 0 0 ⟨#[]⟩ 0 0) :
    Calls Tryz.prog 43 #[.agg (entC 3 tx ix 0 0 ⟨#[]⟩ 0 0)] w fun e w' => e = .returned (.tuple #[.string ⟨(encE 3 tx ix 0 0 [] 0 0).toArray⟩, .int .i64 0]) ∧ Below w.heap.size w w' := by
  have HC := hid fun (V : World) => refcheck_yes 3 tx ix 0 0 0 0 ⟨#[]⟩ V h
  obtain ⟨h1, h2, h3, h4, hr⟩ := h
  obtain ⟨sa, hsa⟩ : ∃ s, (⟨(be 1 3).toArray⟩ : ByteArray) = s := ⟨_, rfl⟩
  have HWa := hid fun (V : World) => (show Calls Tryz.prog 84 #[.int .i64 3, .int .i64 1] V fun e w' => e = .returned (.string sa) ∧ Below V.heap.size V w' by have h2 := wide_any 3 1 V (by decide) (by decide); rw [hsa] at h2; exact h2)
  have za : sa.size = 1 := by rw [← hsa]; exact be_length 1 3
  obtain ⟨sb, hsb⟩ : ∃ s, (⟨(be 4 tx).toArray⟩ : ByteArray) = s := ⟨_, rfl⟩
  have HWb := hid fun (V : World) => (show Calls Tryz.prog 84 #[.int .i64 (tx : Int), .int .i64 4] V fun e w' => e = .returned (.string sb) ∧ Below V.heap.size V w' by have h2 := wide_any tx 4 V (by omega) (by decide); rw [hsb] at h2; exact h2)
  have zb : sb.size = 4 := by rw [← hsb]; exact be_length 4 tx
  obtain ⟨sc, hsc⟩ : ∃ s, (⟨(be 2 ix).toArray⟩ : ByteArray) = s := ⟨_, rfl⟩
  have HWc := hid fun (V : World) => (show Calls Tryz.prog 84 #[.int .i64 (ix : Int), .int .i64 2] V fun e w' => e = .returned (.string sc) ∧ Below V.heap.size V w' by have h2 := wide_any ix 2 V (by omega) (by decide); rw [hsc] at h2; exact h2)
  have zc : sc.size = 2 := by rw [← hsc]; exact be_length 2 ix
  have r0sb : ∀ V : World, (Op.stringOp .add (sa) sb).run Tryz.prog V = .ok (.string (sa ++ sb)) V := fun V => run_string_add_sum V (sa) sb (by (try simp only [ByteArray.size_append]); omega)
  have j0sb : ¬ (9223372036854775807 < sa.size + sb.size) := by omega
  have k0sb : sa.size + sb.size ≤ 9223372036854775807 := by omega
  have r1sc : ∀ V : World, (Op.stringOp .add (sa ++ sb) sc).run Tryz.prog V = .ok (.string (sa ++ sb ++ sc)) V := fun V => run_string_add_sum V (sa ++ sb) sc (by (try simp only [ByteArray.size_append]); omega)
  have j1sc : ¬ (9223372036854775807 < sa.size + sb.size + sc.size) := by omega
  have k1sc : sa.size + sb.size + sc.size ≤ 9223372036854775807 := by omega
  have HSS := hid (show sa ++ sb ++ sc = ⟨(encE 3 tx ix 0 0 [] 0 0).toArray⟩ by rw [← hsa, ← hsb, ← hsc, join_list, join_list]; simp [encE, headE])
  clear hsa hsb hsc za zb zc
  clear hr
  go_enter Tryz.func43, Tryz.ntmps43
  go_wp2_with fail
  refine (HC.out _).mono ?_
  rintro e w1 ⟨rfl, hb⟩
  have HB := hid (((Below.refl w.heap.size w).alloc (Nat.le_refl _) _).trans (hb.mono (by simp)))
  have HD := hid fun (V : World) (hv : Below w1.heap.size w1 V) => ent_at ((hv.block w.heap.size (by have := hb.size; simp at this; omega)).trans ((hb.block w.heap.size (by simp)).trans (heap_alloc_new _ _)))
  have HB0 := hid (Below.refl w1.heap.size w1).drew
  have y0 := HD.out _ HB0.out
  have x0 := HD.out _ (Below.refl w1.heap.size w1)
  clear hb
  go_wp2_with fail
  go_region_held3 (fun V => V.cell? ⟨w.heap.size, 0, none⟩ = some (.int .i64 3) ∧ V.cell? ⟨w.heap.size, 1, none⟩ = some (.int .i64 (tx : Int)) ∧ V.cell? ⟨w.heap.size, 2, none⟩ = some (.int .i64 (ix : Int))) (first | exact ⟨x0.1, x0.2.1, x0.2.2.1⟩ | exact ⟨y0.1, y0.2.1, y0.2.2.1⟩ | exact ⟨y1.1, y1.2.1, y1.2.2.1⟩ | exact ⟨y2.1, y2.2.1, y2.2.2.1⟩ | exact ⟨y3.1, y3.2.1, y3.2.2.1⟩ | go_keep)
    (first
      | (go_at_call 84; with_reducible refine (HWa.out _).mono ?_; rintro e v1 ⟨rfl, hb⟩; have HB1 := hid (HB0.out.trans (hb.mono HB0.out.size)); have y1 := HD.out _ HB1.out; clear hb)
      | (go_at_call 84; with_reducible refine (HWb.out _).mono ?_; rintro e v2 ⟨rfl, hb⟩; have HB2 := hid (HB1.out.trans (hb.mono HB1.out.size)); have y2 := HD.out _ HB2.out; clear hb)
      | (go_at_call 84; with_reducible refine (HWc.out _).mono ?_; rintro e v3 ⟨rfl, hb⟩; have HB3 := hid (HB2.out.trans (hb.mono HB2.out.size)); have y3 := HD.out _ HB3.out; clear hb)
      | fail)
  obtain ⟨c0, -, -, c3, c4, c5, c6, c7⟩ := y3
  clear y0 y1 y2 x0
  go_wp2_with fail
  go_ret2
  exact ⟨by rw [HSS.out]; rfl, HB.out.trans (HB3.out.mono HB.out.size)⟩
set_option maxRecDepth 100000 in
set_option maxHeartbeats 4000000 in
theorem refenc_stage (tx ix pk pn : Nat) (b : ByteArray) (w : World) (h : mayE 1 tx ix pk pn b 0 0) :
    Calls Tryz.prog 43 #[.agg (entC 1 tx ix pk pn b 0 0)] w fun e w' => e = .returned (.tuple #[.string ⟨(encE 1 tx ix pk pn b.data.toList 0 0).toArray⟩, .int .i64 0]) ∧ Below w.heap.size w w' := by
  have HC := hid fun (V : World) => refcheck_yes 1 tx ix pk pn 0 0 b V h
  obtain ⟨h1, h2, h3, h4, hr⟩ := h
  have hst : mayS pk pn b := by rcases hr with hr | hr | hr; exact hr.2.1; exact absurd hr.1 (by decide); exact absurd hr.1 (by decide)
  obtain ⟨-, -, hk5, -, hn9, hb2⟩ := hst
  obtain ⟨sa, hsa⟩ : ∃ s, (⟨(be 1 1).toArray⟩ : ByteArray) = s := ⟨_, rfl⟩
  have HWa := hid fun (V : World) => (show Calls Tryz.prog 84 #[.int .i64 1, .int .i64 1] V fun e w' => e = .returned (.string sa) ∧ Below V.heap.size V w' by have h2 := wide_any 1 1 V (by decide) (by decide); rw [hsa] at h2; exact h2)
  have za : sa.size = 1 := by rw [← hsa]; exact be_length 1 1
  obtain ⟨sb, hsb⟩ : ∃ s, (⟨(be 4 tx).toArray⟩ : ByteArray) = s := ⟨_, rfl⟩
  have HWb := hid fun (V : World) => (show Calls Tryz.prog 84 #[.int .i64 (tx : Int), .int .i64 4] V fun e w' => e = .returned (.string sb) ∧ Below V.heap.size V w' by have h2 := wide_any tx 4 V (by omega) (by decide); rw [hsb] at h2; exact h2)
  have zb : sb.size = 4 := by rw [← hsb]; exact be_length 4 tx
  obtain ⟨sc, hsc⟩ : ∃ s, (⟨(be 2 ix).toArray⟩ : ByteArray) = s := ⟨_, rfl⟩
  have HWc := hid fun (V : World) => (show Calls Tryz.prog 84 #[.int .i64 (ix : Int), .int .i64 2] V fun e w' => e = .returned (.string sc) ∧ Below V.heap.size V w' by have h2 := wide_any ix 2 V (by omega) (by decide); rw [hsc] at h2; exact h2)
  have zc : sc.size = 2 := by rw [← hsc]; exact be_length 2 ix
  obtain ⟨sd, hsd⟩ : ∃ s, (⟨(be 1 pk).toArray⟩ : ByteArray) = s := ⟨_, rfl⟩
  have HWd := hid fun (V : World) => (show Calls Tryz.prog 84 #[.int .i64 (pk : Int), .int .i64 1] V fun e w' => e = .returned (.string sd) ∧ Below V.heap.size V w' by have h2 := wide_any pk 1 V (by omega) (by decide); rw [hsd] at h2; exact h2)
  have zd : sd.size = 1 := by rw [← hsd]; exact be_length 1 pk
  obtain ⟨se, hse⟩ : ∃ s, (⟨(be 2 pn).toArray⟩ : ByteArray) = s := ⟨_, rfl⟩
  have HWe := hid fun (V : World) => (show Calls Tryz.prog 84 #[.int .i64 (pn : Int), .int .i64 2] V fun e w' => e = .returned (.string se) ∧ Below V.heap.size V w' by have h2 := wide_any pn 2 V (by omega) (by decide); rw [hse] at h2; exact h2)
  have ze : se.size = 2 := by rw [← hse]; exact be_length 2 pn
  have r0sb : ∀ V : World, (Op.stringOp .add (sa) sb).run Tryz.prog V = .ok (.string (sa ++ sb)) V := fun V => run_string_add_sum V (sa) sb (by (try simp only [ByteArray.size_append]); omega)
  have j0sb : ¬ (9223372036854775807 < sa.size + sb.size) := by omega
  have k0sb : sa.size + sb.size ≤ 9223372036854775807 := by omega
  have r1sc : ∀ V : World, (Op.stringOp .add (sa ++ sb) sc).run Tryz.prog V = .ok (.string (sa ++ sb ++ sc)) V := fun V => run_string_add_sum V (sa ++ sb) sc (by (try simp only [ByteArray.size_append]); omega)
  have j1sc : ¬ (9223372036854775807 < sa.size + sb.size + sc.size) := by omega
  have k1sc : sa.size + sb.size + sc.size ≤ 9223372036854775807 := by omega
  have r2sd : ∀ V : World, (Op.stringOp .add (sa ++ sb ++ sc) sd).run Tryz.prog V = .ok (.string (sa ++ sb ++ sc ++ sd)) V := fun V => run_string_add_sum V (sa ++ sb ++ sc) sd (by (try simp only [ByteArray.size_append]); omega)
  have j2sd : ¬ (9223372036854775807 < sa.size + sb.size + sc.size + sd.size) := by omega
  have k2sd : sa.size + sb.size + sc.size + sd.size ≤ 9223372036854775807 := by omega
  have r3se : ∀ V : World, (Op.stringOp .add (sa ++ sb ++ sc ++ sd) se).run Tryz.prog V = .ok (.string (sa ++ sb ++ sc ++ sd ++ se)) V := fun V => run_string_add_sum V (sa ++ sb ++ sc ++ sd) se (by (try simp only [ByteArray.size_append]); omega)
  have j3se : ¬ (9223372036854775807 < sa.size + sb.size + sc.size + sd.size + se.size) := by omega
  have k3se : sa.size + sb.size + sc.size + sd.size + se.size ≤ 9223372036854775807 := by omega
  have r4b : ∀ V : World, (Op.stringOp .add (sa ++ sb ++ sc ++ sd ++ se) b).run Tryz.prog V = .ok (.string (sa ++ sb ++ sc ++ sd ++ se ++ b)) V := fun V => run_string_add_sum V (sa ++ sb ++ sc ++ sd ++ se) b (by (try simp only [ByteArray.size_append]); omega)
  have j4b : ¬ (9223372036854775807 < sa.size + sb.size + sc.size + sd.size + se.size + b.size) := by omega
  have k4b : sa.size + sb.size + sc.size + sd.size + se.size + b.size ≤ 9223372036854775807 := by omega
  have HSS := hid (show sa ++ sb ++ sc ++ sd ++ se ++ b = ⟨(encE 1 tx ix pk pn b.data.toList 0 0).toArray⟩ by rw [← hsa, ← hsb, ← hsc, ← hsd, ← hse, join_list, join_list, join_list, join_list, join_bytes]; simp [encE, headE])
  clear hsa hsb hsc hsd hse za zb zc zd ze hb2
  clear hr
  go_enter Tryz.func43, Tryz.ntmps43
  go_wp2_with fail
  refine (HC.out _).mono ?_
  rintro e w1 ⟨rfl, hb⟩
  have HB := hid (((Below.refl w.heap.size w).alloc (Nat.le_refl _) _).trans (hb.mono (by simp)))
  have HD := hid fun (V : World) (hv : Below w1.heap.size w1 V) => ent_at ((hv.block w.heap.size (by have := hb.size; simp at this; omega)).trans ((hb.block w.heap.size (by simp)).trans (heap_alloc_new _ _)))
  have HB0 := hid (Below.refl w1.heap.size w1).drew
  have y0 := HD.out _ HB0.out
  have x0 := HD.out _ (Below.refl w1.heap.size w1)
  clear hb
  go_wp2_with fail
  go_region_held3 (fun V => V.cell? ⟨w.heap.size, 0, none⟩ = some (.int .i64 1) ∧ V.cell? ⟨w.heap.size, 1, none⟩ = some (.int .i64 (tx : Int)) ∧ V.cell? ⟨w.heap.size, 2, none⟩ = some (.int .i64 (ix : Int))) (first | exact ⟨x0.1, x0.2.1, x0.2.2.1⟩ | exact ⟨y0.1, y0.2.1, y0.2.2.1⟩ | exact ⟨y1.1, y1.2.1, y1.2.2.1⟩ | exact ⟨y2.1, y2.2.1, y2.2.2.1⟩ | exact ⟨y3.1, y3.2.1, y3.2.2.1⟩ | go_keep)
    (first
      | (go_at_call 84; with_reducible refine (HWa.out _).mono ?_; rintro e v1 ⟨rfl, hb⟩; have HB1 := hid (HB0.out.trans (hb.mono HB0.out.size)); have y1 := HD.out _ HB1.out; clear hb)
      | (go_at_call 84; with_reducible refine (HWb.out _).mono ?_; rintro e v2 ⟨rfl, hb⟩; have HB2 := hid (HB1.out.trans (hb.mono HB1.out.size)); have y2 := HD.out _ HB2.out; clear hb)
      | (go_at_call 84; with_reducible refine (HWc.out _).mono ?_; rintro e v3 ⟨rfl, hb⟩; have HB3 := hid (HB2.out.trans (hb.mono HB2.out.size)); have y3 := HD.out _ HB3.out; clear hb)
      | fail)
  obtain ⟨c0, c1, c2, c3, c4, c5, c6, c7⟩ := y3
  have HB4 := hid HB3.out.drew
  have x4 := HD.out _ HB3.out
  have y4 := HD.out _ HB4.out
  clear y0 y1 y2 x0
  go_wp2_with fail
  go_region_held3 (fun V => V.cell? ⟨w.heap.size, 3, none⟩ = some (.int .i64 (pk : Int)) ∧ V.cell? ⟨w.heap.size, 4, none⟩ = some (.int .i64 (pn : Int)) ∧ V.cell? ⟨w.heap.size, 5, none⟩ = some (.string b)) (first | exact ⟨x4.2.2.2.1, x4.2.2.2.2.1, x4.2.2.2.2.2.1⟩ | exact ⟨y4.2.2.2.1, y4.2.2.2.2.1, y4.2.2.2.2.2.1⟩ | exact ⟨y5.2.2.2.1, y5.2.2.2.2.1, y5.2.2.2.2.2.1⟩ | exact ⟨y6.2.2.2.1, y6.2.2.2.2.1, y6.2.2.2.2.2.1⟩ | go_keep)
    (first
      | (go_at_call 84; with_reducible refine (HWd.out _).mono ?_; rintro e v5 ⟨rfl, hb⟩; have HB5 := hid (HB4.out.trans (hb.mono HB4.out.size)); have y5 := HD.out _ HB5.out; clear hb)
      | (go_at_call 84; with_reducible refine (HWe.out _).mono ?_; rintro e v6 ⟨rfl, hb⟩; have HB6 := hid (HB5.out.trans (hb.mono HB5.out.size)); have y6 := HD.out _ HB6.out; clear hb)
      | fail)
  obtain ⟨f0, -, -, f3, f4, f5, f6, f7⟩ := y6
  clear y4 y5 x4 c0 c1 c2 c3 c4 c5 c6 c7
  go_wp2_with fail
  go_ret2
  exact ⟨by rw [HSS.out]; rfl, HB.out.trans (HB6.out.mono HB.out.size)⟩
set_option maxRecDepth 100000 in
set_option maxHeartbeats 4000000 in
theorem refenc_commit (tx ix ct sm : Nat) (hsm : sm < 4294967296) (w : World) (h : mayE 2 tx ix 0 0 ⟨#[]⟩ ct sm) :
    Calls Tryz.prog 43 #[.agg (entC 2 tx ix 0 0 ⟨#[]⟩ ct sm)] w fun e w' => e = .returned (.tuple #[.string ⟨(encE 2 tx ix 0 0 [] ct sm).toArray⟩, .int .i64 0]) ∧ Below w.heap.size w w' := by
  have HC := hid fun (V : World) => refcheck_yes 2 tx ix 0 0 ct sm ⟨#[]⟩ V h
  obtain ⟨h1, h2, h3, h4, hr⟩ := h
  have hct : (ct : Int) ≤ 999 := by rcases hr with hr | hr | hr; exact absurd hr.1 (by decide); (have := hr.2; omega); exact absurd hr.1 (by decide)
  obtain ⟨sa, hsa⟩ : ∃ s, (⟨(be 1 2).toArray⟩ : ByteArray) = s := ⟨_, rfl⟩
  have HWa := hid fun (V : World) => (show Calls Tryz.prog 84 #[.int .i64 2, .int .i64 1] V fun e w' => e = .returned (.string sa) ∧ Below V.heap.size V w' by have h2 := wide_any 2 1 V (by decide) (by decide); rw [hsa] at h2; exact h2)
  have za : sa.size = 1 := by rw [← hsa]; exact be_length 1 2
  obtain ⟨sb, hsb⟩ : ∃ s, (⟨(be 4 tx).toArray⟩ : ByteArray) = s := ⟨_, rfl⟩
  have HWb := hid fun (V : World) => (show Calls Tryz.prog 84 #[.int .i64 (tx : Int), .int .i64 4] V fun e w' => e = .returned (.string sb) ∧ Below V.heap.size V w' by have h2 := wide_any tx 4 V (by omega) (by decide); rw [hsb] at h2; exact h2)
  have zb : sb.size = 4 := by rw [← hsb]; exact be_length 4 tx
  obtain ⟨sc, hsc⟩ : ∃ s, (⟨(be 2 ix).toArray⟩ : ByteArray) = s := ⟨_, rfl⟩
  have HWc := hid fun (V : World) => (show Calls Tryz.prog 84 #[.int .i64 (ix : Int), .int .i64 2] V fun e w' => e = .returned (.string sc) ∧ Below V.heap.size V w' by have h2 := wide_any ix 2 V (by omega) (by decide); rw [hsc] at h2; exact h2)
  have zc : sc.size = 2 := by rw [← hsc]; exact be_length 2 ix
  obtain ⟨sd, hsd⟩ : ∃ s, (⟨(be 2 ct).toArray⟩ : ByteArray) = s := ⟨_, rfl⟩
  have HWd := hid fun (V : World) => (show Calls Tryz.prog 84 #[.int .i64 (ct : Int), .int .i64 2] V fun e w' => e = .returned (.string sd) ∧ Below V.heap.size V w' by have h2 := wide_any ct 2 V (by omega) (by decide); rw [hsd] at h2; exact h2)
  have zd : sd.size = 2 := by rw [← hsd]; exact be_length 2 ct
  obtain ⟨se, hse⟩ : ∃ s, (⟨(be 4 sm).toArray⟩ : ByteArray) = s := ⟨_, rfl⟩
  have HWe := hid fun (V : World) => (show Calls Tryz.prog 84 #[.int .i64 (IntKind.i64.wrap (sm : Int)), .int .i64 4] V fun e w' => e = .returned (.string se) ∧ Below V.heap.size V w' by have h2 := wide_any sm 4 V (by omega) (by decide); rw [hse] at h2; rw [Go.IntWalk.i64_in _ (by omega)]; exact h2)
  have ze : se.size = 4 := by rw [← hse]; exact be_length 4 sm
  have r0sb : ∀ V : World, (Op.stringOp .add (sa) sb).run Tryz.prog V = .ok (.string (sa ++ sb)) V := fun V => run_string_add_sum V (sa) sb (by (try simp only [ByteArray.size_append]); omega)
  have j0sb : ¬ (9223372036854775807 < sa.size + sb.size) := by omega
  have k0sb : sa.size + sb.size ≤ 9223372036854775807 := by omega
  have r1sc : ∀ V : World, (Op.stringOp .add (sa ++ sb) sc).run Tryz.prog V = .ok (.string (sa ++ sb ++ sc)) V := fun V => run_string_add_sum V (sa ++ sb) sc (by (try simp only [ByteArray.size_append]); omega)
  have j1sc : ¬ (9223372036854775807 < sa.size + sb.size + sc.size) := by omega
  have k1sc : sa.size + sb.size + sc.size ≤ 9223372036854775807 := by omega
  have r2sd : ∀ V : World, (Op.stringOp .add (sa ++ sb ++ sc) sd).run Tryz.prog V = .ok (.string (sa ++ sb ++ sc ++ sd)) V := fun V => run_string_add_sum V (sa ++ sb ++ sc) sd (by (try simp only [ByteArray.size_append]); omega)
  have j2sd : ¬ (9223372036854775807 < sa.size + sb.size + sc.size + sd.size) := by omega
  have k2sd : sa.size + sb.size + sc.size + sd.size ≤ 9223372036854775807 := by omega
  have r3se : ∀ V : World, (Op.stringOp .add (sa ++ sb ++ sc ++ sd) se).run Tryz.prog V = .ok (.string (sa ++ sb ++ sc ++ sd ++ se)) V := fun V => run_string_add_sum V (sa ++ sb ++ sc ++ sd) se (by (try simp only [ByteArray.size_append]); omega)
  have j3se : ¬ (9223372036854775807 < sa.size + sb.size + sc.size + sd.size + se.size) := by omega
  have k3se : sa.size + sb.size + sc.size + sd.size + se.size ≤ 9223372036854775807 := by omega
  have HSS := hid (show sa ++ sb ++ sc ++ sd ++ se = ⟨(encE 2 tx ix 0 0 [] ct sm).toArray⟩ by rw [← hsa, ← hsb, ← hsc, ← hsd, ← hse, join_list, join_list, join_list, join_list]; simp [encE, headE])
  have e1 : wrap64 (sm : Int) = (sm : Int) := by unfold wrap64; omega
  clear hsa hsb hsc hsd hse za zb zc zd ze
  clear hr
  go_enter Tryz.func43, Tryz.ntmps43
  go_wp2_with fail
  refine (HC.out _).mono ?_
  rintro e w1 ⟨rfl, hb⟩
  have HB := hid (((Below.refl w.heap.size w).alloc (Nat.le_refl _) _).trans (hb.mono (by simp)))
  have HD := hid fun (V : World) (hv : Below w1.heap.size w1 V) => ent_at ((hv.block w.heap.size (by have := hb.size; simp at this; omega)).trans ((hb.block w.heap.size (by simp)).trans (heap_alloc_new _ _)))
  have HB0 := hid (Below.refl w1.heap.size w1).drew
  have y0 := HD.out _ HB0.out
  have x0 := HD.out _ (Below.refl w1.heap.size w1)
  clear hb
  go_wp2_with fail
  go_region_held3 (fun V => V.cell? ⟨w.heap.size, 0, none⟩ = some (.int .i64 2) ∧ V.cell? ⟨w.heap.size, 1, none⟩ = some (.int .i64 (tx : Int)) ∧ V.cell? ⟨w.heap.size, 2, none⟩ = some (.int .i64 (ix : Int))) (first | exact ⟨x0.1, x0.2.1, x0.2.2.1⟩ | exact ⟨y0.1, y0.2.1, y0.2.2.1⟩ | exact ⟨y1.1, y1.2.1, y1.2.2.1⟩ | exact ⟨y2.1, y2.2.1, y2.2.2.1⟩ | exact ⟨y3.1, y3.2.1, y3.2.2.1⟩ | go_keep)
    (first
      | (go_at_call 84; with_reducible refine (HWa.out _).mono ?_; rintro e v1 ⟨rfl, hb⟩; have HB1 := hid (HB0.out.trans (hb.mono HB0.out.size)); have y1 := HD.out _ HB1.out; clear hb)
      | (go_at_call 84; with_reducible refine (HWb.out _).mono ?_; rintro e v2 ⟨rfl, hb⟩; have HB2 := hid (HB1.out.trans (hb.mono HB1.out.size)); have y2 := HD.out _ HB2.out; clear hb)
      | (go_at_call 84; with_reducible refine (HWc.out _).mono ?_; rintro e v3 ⟨rfl, hb⟩; have HB3 := hid (HB2.out.trans (hb.mono HB2.out.size)); have y3 := HD.out _ HB3.out; clear hb)
      | fail)
  obtain ⟨c0, c1, c2, c3, c4, c5, c6, c7⟩ := y3
  have HB4 := hid HB3.out.drew
  have x4 := HD.out _ HB3.out
  have y4 := HD.out _ HB4.out
  clear y0 y1 y2 x0
  go_wp2_with fail
  go_region_held3 (fun V => V.cell? ⟨w.heap.size, 6, none⟩ = some (.int .i64 (ct : Int)) ∧ V.cell? ⟨w.heap.size, 7, none⟩ = some (.int .u32 (sm : Int))) (first | exact ⟨x4.2.2.2.2.2.2.1, x4.2.2.2.2.2.2.2⟩ | exact ⟨y4.2.2.2.2.2.2.1, y4.2.2.2.2.2.2.2⟩ | exact ⟨y5.2.2.2.2.2.2.1, y5.2.2.2.2.2.2.2⟩ | exact ⟨y6.2.2.2.2.2.2.1, y6.2.2.2.2.2.2.2⟩ | go_keep)
    (first
      | (go_at_call 84; with_reducible refine (HWd.out _).mono ?_; rintro e v5 ⟨rfl, hb⟩; have HB5 := hid (HB4.out.trans (hb.mono HB4.out.size)); have y5 := HD.out _ HB5.out; clear hb)
      | (go_at_call 84; with_reducible refine (HWe.out _).mono ?_; rintro e v6 ⟨rfl, hb⟩; have HB6 := hid (HB5.out.trans (hb.mono HB5.out.size)); have y6 := HD.out _ HB6.out; clear hb)
      | fail)
  obtain ⟨f0, -, -, f3, f4, f5, f6, f7⟩ := y6
  clear y4 y5 x4 c0 c1 c2 c3 c4 c5 c6 c7
  go_wp2_with fail
  go_ret2
  exact ⟨by rw [HSS.out]; rfl, HB.out.trans (HB6.out.mono HB.out.size)⟩
end Go.Proofs.YtgihpdhkjneimaaGreatDoor.En
