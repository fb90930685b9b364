/- read of entry: what stands where a kind's things do. -/
import Derived.Test.YtigaddpjmgncmaaDoorEnGet
import Derived.Test.YtigaddpjmgncmaaDoorSmPast
namespace Go.Proofs.YtigaddpjmgncmaaDoor.En
open Go.RowKit
open Go.Lib (hid)
open Go.Proofs.YtigaddpjmgncmaaDoor.Fd (Area Row be be_length num getAt putAt)
open Go.Proofs.YtigaddpjmgncmaaDoor.Sm (wpList_store_whole)

/-- the entry's memory behind read: its area at A, the area's place in block G -/
structure RM (w : World) (A B G : Nat) (l : List UInt8) (wr : World) : Prop where
  area : Area 73 wr A B l
  at' : wr.cell? ⟨G, 0, none⟩ = some (.pointer (some ⟨A, 0, none⟩))
  lt : G < wr.heap.size
  below : Below w.heap.size w wr
theorem RM.next {w wr w' : World} {A B G : Nat} {l : List UInt8} (h : RM w A B G l wr) (hb : Below wr.heap.size wr w') : RM w A B G l w' :=
  ⟨h.area.below hb, (hb.cell (p := ⟨G, 0, none⟩) h.lt).trans h.at', Nat.lt_of_lt_of_le h.lt hb.size, h.below.trans (hb.mono h.below.size)⟩
theorem RM.get {w wr : World} {A B G : Nat} {l : List UInt8} (h : RM w A B G l wr) (o wd : Nat) (o' wd' : Int) (e1 : o' = o) (e2 : wd' = wd) (hw : wd = 1 ∨ wd = 2 ∨ wd = 4) (ho : o ≤ 1000000) :
    Calls Tryd.prog 39 #[.int .i64 o', .int .i64 wd', .pointer (some ⟨G, 0, none⟩)] wr fun e w' => e = .returned (.int .i64 (getOr l o wd : Int)) ∧ wr = w' := read1_ok A B G l o wd wr h.area h.at' hw ho o' wd' e1 e2
theorem infoE : (Tryd.prog.info? 32).map (·.size) = some 8 := by kernel_rfl
theorem infoC (kd tx ix pk pn : Int) (b : ByteArray) (ct sm : Int) : (Tryd.prog.info? 32).map (·.size) = some (entC kd tx ix pk pn b ct sm).size := infoE
theorem oldC (kd tx ix pk pn : Int) (b : ByteArray) (ct sm kd' tx' ix' pk' pn' : Int) (b' : ByteArray) (ct' sm' : Int) : (entC kd tx ix pk pn b ct sm).size = (entC kd' tx' ix' pk' pn' b' ct' sm').size := rfl
theorem oneC (kd tx ix pk pn : Int) (b : ByteArray) (ct sm : Int) : (entC kd tx ix pk pn b ct sm).all (·.oneCell') = true := by simp [Value.oneCell']
/-- the entry's cells -/
theorem ent_at {V : World} {g : Nat} {kd tx ix pk pn : Int} {b : ByteArray} {ct sm : Int} {T : TypeId} (h : V.heap[g]? = some (.cells (entC kd tx ix pk pn b ct sm) T (0, 0))) :
    V.cell? ⟨g, 0, none⟩ = some (.int .i64 kd) ∧ V.cell? ⟨g, 1, none⟩ = some (.int .i64 tx) ∧ V.cell? ⟨g, 2, none⟩ = some (.int .i64 ix) ∧ V.cell? ⟨g, 3, none⟩ = some (.int .i64 pk) ∧ V.cell? ⟨g, 4, none⟩ = some (.int .i64 pn) ∧ V.cell? ⟨g, 5, none⟩ = some (.string b) ∧ V.cell? ⟨g, 6, none⟩ = some (.int .i64 ct) ∧ V.cell? ⟨g, 7, none⟩ = some (.int .u32 sm) := by
  refine ⟨?_, ?_, ?_, ?_, ?_, ?_, ?_, ?_⟩ <;> rw [cell_of_row _ _ _ _ _ _ h] <;> rfl
theorem rm_new {w w1 : World} {A B : Nat} {l : List UInt8} (hb : Below w.heap.size w w1) (ha : Area 73 w1 A B l) : RM w A B w1.heap.size l (w1.alloc (.cells #[.pointer (some ⟨A, 0, none⟩)] 52)) :=
  ⟨ha.below ((Below.refl _ _).alloc (Nat.le_refl _) _), by rw [cell_of_row _ _ _ _ _ _ (heap_alloc_new _ _)]; rfl, by simp, hb.trans (((Below.refl w1.heap.size w1).alloc (Nat.le_refl _) _).mono hb.size)⟩
set_option maxRecDepth 100000 in
set_option maxHeartbeats 4000000 in
theorem read_far (s : ByteArray) (w : World) (hs : s.size ≤ 4096) (h1 : getOr s.data.toList 0 1 ≠ 1) (h2 : getOr s.data.toList 0 1 ≠ 2) :
    Calls Tryd.prog 30 #[.string s] w fun e w' => e = .returned (.agg (entC (getOr s.data.toList 0 1) (getOr s.data.toList 1 4) (getOr s.data.toList 5 2) 0 0 ⟨#[]⟩ 0 0)) ∧ Below w.heap.size w w' := by
  have HOF := hid fun (V : World) => Fd.of_ok s V hs
  have e1 : (((getOr s.data.toList 0 1 : Nat) : Int) == 1) = false := by simp; omega
  have e2 : (((getOr s.data.toList 0 1 : Nat) : Int) == 2) = false := by simp; omega
  have HG := hid fun (wr : World) (A B G : Nat) (h : RM w A B G s.data.toList wr) => h.get 0 1 0 1 rfl rfl (by decide) (by decide)
  have HG2 := hid fun (wr : World) (A B G : Nat) (h : RM w A B G s.data.toList wr) => h.get 1 4 1 4 rfl rfl (by decide) (by decide)
  have HG3 := hid fun (wr : World) (A B G : Nat) (h : RM w A B G s.data.toList wr) => h.get 5 2 5 2 rfl rfl (by decide) (by decide)
  generalize getOr s.data.toList 0 1 = k at *
  generalize getOr s.data.toList 1 4 = tx at *
  generalize getOr s.data.toList 5 2 = ix at *
  clear h1 h2
  go_enter Tryd.func30, Tryd.ntmps30
  go_wp2_with fail
  refine (HOF.out _).mono ?_
  rintro e w1 ⟨rfl, ha, hb⟩
  have HB := hid (((Below.refl w.heap.size w).alloc (Nat.le_refl _) _).trans (hb.mono (by simp)))
  have HZ := hid fun (X : World) (hX : Below w1.heap.size w1 X) => (show X.heap[w.heap.size]? = some (.cells (entC 0 0 0 0 0 ⟨#[]⟩ 0 0) 32 (0, 0)) from (hX.block _ (by have := hb.size; simp at this; omega)).trans ((hb.block _ (by simp)).trans (heap_alloc_new _ _)))
  have HM := hid (rm_new HB.out (show Area 73 w1 (w.heap.size + 1 + 1) (w.heap.size + 1) s.data.toList by simpa using ha))
  clear ha hb
  go_wp2_with fail
  refine (HG.out _ _ _ _ HM.out).mono ?_
  rintro e w2 ⟨rfl, rfl⟩
  go_wp2_with fail
  refine (HG2.out _ _ _ _ HM.out).mono ?_
  rintro e w2 ⟨rfl, rfl⟩
  go_wp2_with fail
  refine (HG3.out _ _ _ _ HM.out).mono ?_
  rintro e w2 ⟨rfl, rfl⟩
  go_wp2_with (first | (with_reducible refine wpList_store_whole rfl 32 (.tmp 2) (.tmp 50) rfl rfl w.heap.size (entC k tx ix 0 0 ⟨#[]⟩ 0 0) rfl rfl 32 _ (HZ.out _ (((Below.refl w1.heap.size w1).alloc (Nat.le_refl _) (.cells #[.pointer (some ⟨w.heap.size + 1 + 1, 0, none⟩)] 52)).alloc (by simp) (.cells (entC k tx ix 0 0 ⟨#[]⟩ 0 0) 32))) (infoC _ _ _ _ _ _ _ _) (oldC _ _ _ _ _ _ _ _ _ _ _ _ _ _ _ _) (oneC _ _ _ _ _ _ _ _) ?_))
  have hz := HZ.out _ (((Below.refl w1.heap.size w1).alloc (Nat.le_refl _) (.cells #[.pointer (some ⟨w.heap.size + 1 + 1, 0, none⟩)] 52)).alloc (by simp) (.cells (entC k tx ix 0 0 ⟨#[]⟩ 0 0) 32))
  obtain ⟨q0, q1, q2, q3, q4, q5, q6, q7⟩ := ent_at (setRow_heap _ _ _ (entC k tx ix 0 0 ⟨#[]⟩ 0 0) _ _ hz)
  refine bodyPost_ret (v := .agg (entC k tx ix 0 0 ⟨#[]⟩ 0 0)) (by simp [results, Tryd.results30, go_sem, q0, q1, q2, q3, q4, q5, q6, q7]) rfl ⟨rfl, ?_⟩
  exact below_setRow (HB.out.trans ((show Below w1.heap.size w1 _ from (((Below.refl w1.heap.size w1).alloc (Nat.le_refl _) (.cells #[.pointer (some ⟨w.heap.size + 1 + 1, 0, none⟩)] 52)).alloc (by simp) (.cells (entC k tx ix 0 0 ⟨#[]⟩ 0 0) 32))).mono HB.out.size)) (Nat.le_refl _) _
set_option maxRecDepth 100000 in
set_option maxHeartbeats 4000000 in
theorem read_stage (s : ByteArray) (w : World) (hs : s.size ≤ 4096) (h10 : 10 ≤ s.size) (h1 : getOr s.data.toList 0 1 = 1) :
    Calls Tryd.prog 30 #[.string s] w fun e w' => e = .returned (.agg (entC 1 (getOr s.data.toList 1 4) (getOr s.data.toList 5 2) (getOr s.data.toList 7 1) (getOr s.data.toList 8 2) ⟨(getAt s.data.toList 10 (s.size - 10)).toArray⟩ 0 0)) ∧ Below w.heap.size w w' := by
  have HOF := hid fun (V : World) => Fd.of_ok s V hs
  have HG := hid fun (wr : World) (A B G : Nat) (h : RM w A B G s.data.toList wr) => (show Calls Tryd.prog 39 #[.int .i64 0, .int .i64 1, .pointer (some ⟨G, 0, none⟩)] wr fun e w' => e = .returned (.int .i64 1) ∧ wr = w' by have h2 := h.get 0 1 0 1 rfl rfl (by decide) (by decide); rw [h1] at h2; exact h2)
  have HG2 := hid fun (wr : World) (A B G : Nat) (h : RM w A B G s.data.toList wr) => h.get 1 4 1 4 rfl rfl (by decide) (by decide)
  have HG3 := hid fun (wr : World) (A B G : Nat) (h : RM w A B G s.data.toList wr) => h.get 5 2 5 2 rfl rfl (by decide) (by decide)
  have HG4 := hid fun (wr : World) (A B G : Nat) (h : RM w A B G s.data.toList wr) => h.get 7 1 7 1 rfl rfl (by decide) (by decide)
  have HG5 := hid fun (wr : World) (A B G : Nat) (h : RM w A B G s.data.toList wr) => h.get 8 2 8 2 rfl rfl (by decide) (by decide)
  have HT := hid fun (wr : World) (A B G : Nat) (h : RM w A B G s.data.toList wr) => (show Calls Tryd.prog 41 #[.pointer (some ⟨A, 0, none⟩), .int .i64 10, .int .i64 ((s.size : Int) - 10)] wr fun e w' => e = .returned (.tuple #[.string ⟨(getAt s.data.toList 10 (s.size - 10)).toArray⟩, .int .i64 0]) ∧ wr = w' by
    have h2 := Fd.getText_ok A B s.data.toList 10 (s.size - 10) wr h.area (by rw [Fd.size_list]; omega)
    rw [show ((s.size - 10 : Nat) : Int) = (s.size : Int) - 10 by omega] at h2; exact h2)
  generalize getOr s.data.toList 1 4 = tx at *
  generalize getOr s.data.toList 5 2 = ix at *
  generalize getOr s.data.toList 7 1 = pk at *
  generalize getOr s.data.toList 8 2 = pn at *
  obtain ⟨body, hbody⟩ : ∃ b : ByteArray, (⟨(getAt s.data.toList 10 (s.size - 10)).toArray⟩ : ByteArray) = b := ⟨_, rfl⟩
  rw [hbody] at HT ⊢
  clear h1 hbody
  go_enter Tryd.func30, Tryd.ntmps30
  go_wp2_with fail
  refine (HOF.out _).mono ?_
  rintro e w1 ⟨rfl, ha, hb⟩
  have HB := hid (((Below.refl w.heap.size w).alloc (Nat.le_refl _) _).trans (hb.mono (by simp)))
  have HZ := hid fun (X : World) (hX : Below w1.heap.size w1 X) => (show X.heap[w.heap.size]? = some (.cells (entC 0 0 0 0 0 ⟨#[]⟩ 0 0) 32 (0, 0)) from (hX.block _ (by have := hb.size; simp at this; omega)).trans ((hb.block _ (by simp)).trans (heap_alloc_new _ _)))
  have HM := hid (rm_new HB.out (show Area 73 w1 (w.heap.size + 1 + 1) (w.heap.size + 1) s.data.toList by simpa using ha))
  clear ha hb
  go_wp2_with fail
  refine (HG.out _ _ _ _ HM.out).mono ?_
  rintro e w2 ⟨rfl, rfl⟩
  go_wp2_with fail
  refine (HG2.out _ _ _ _ HM.out).mono ?_
  rintro e w2 ⟨rfl, rfl⟩
  go_wp2_with fail
  refine (HG3.out _ _ _ _ HM.out).mono ?_
  rintro e w2 ⟨rfl, rfl⟩
  go_wp2_with fail
  have HM2 := hid (HM.out.next ((Below.refl _ _).alloc (Nat.le_refl _) (.cells (entC 1 tx ix 0 0 ⟨#[]⟩ 0 0) 32)))
  refine (HT.out _ _ _ _ HM2.out).mono ?_
  rintro e w2 ⟨rfl, rfl⟩
  go_wp2_with fail
  refine (HG4.out _ _ _ _ HM2.out).mono ?_
  rintro e w2 ⟨rfl, rfl⟩
  go_wp2_with fail
  refine (HG5.out _ _ _ _ HM2.out).mono ?_
  rintro e w2 ⟨rfl, rfl⟩
  go_wp2_with (first | (refine wpList_store_whole ?gd 32 (.tmp 2) (.tmp 50) (by with_reducible rfl) ?dd w.heap.size ?cs ?xx ?yy 32 ?old ?hz ?i ?o ?n ?_))
  case gd => rfl
  case dd => rfl
  case cs => exact (entC 1 tx ix pk pn body 0 0)
  case xx => rfl
  case yy => rfl
  case old => exact (entC 0 0 0 0 0 ⟨#[]⟩ 0 0)
  case hz => exact HZ.out _ (((Below.refl w1.heap.size w1).alloc (Nat.le_refl _) (.cells #[.pointer (some ⟨w.heap.size + 1 + 1, 0, none⟩)] 52)).alloc (by simp) (.cells (entC 1 tx ix pk pn body 0 0) 32))
  case i => exact infoC _ _ _ _ _ _ _ _
  case o => rfl
  case n => exact (oneC _ _ _ _ _ _ _ _)
  have hz := HZ.out _ (((Below.refl w1.heap.size w1).alloc (Nat.le_refl _) (.cells #[.pointer (some ⟨w.heap.size + 1 + 1, 0, none⟩)] 52)).alloc (by simp) (.cells (entC 1 tx ix pk pn body 0 0) 32))
  obtain ⟨q0, q1, q2, q3, q4, q5, q6, q7⟩ := ent_at (setRow_heap _ _ _ (entC 1 tx ix pk pn body 0 0) _ _ hz)
  refine bodyPost_ret (v := .agg (entC 1 tx ix pk pn body 0 0)) (by simp [results, Tryd.results30, go_sem, q0, q1, q2, q3, q4, q5, q6, q7]) rfl ⟨rfl, ?_⟩
  exact below_setRow (HB.out.trans ((show Below w1.heap.size w1 _ from (((Below.refl w1.heap.size w1).alloc (Nat.le_refl _) (.cells #[.pointer (some ⟨w.heap.size + 1 + 1, 0, none⟩)] 52)).alloc (by simp) (.cells (entC 1 tx ix pk pn body 0 0) 32))).mono HB.out.size)) (Nat.le_refl _) _
set_option maxRecDepth 100000 in
set_option maxHeartbeats 4000000 in
theorem read_commit (s : ByteArray) (w : World) (hs : s.size ≤ 4096) (h1 : getOr s.data.toList 0 1 = 2) :
    Calls Tryd.prog 30 #[.string s] w fun e w' => e = .returned (.agg (entC 2 (getOr s.data.toList 1 4) (getOr s.data.toList 5 2) 0 0 ⟨#[]⟩ (getOr s.data.toList 7 2) (getOr s.data.toList 9 4))) ∧ Below w.heap.size w w' := by
  have HOF := hid fun (V : World) => Fd.of_ok s V hs
  have HG := hid fun (wr : World) (A B G : Nat) (h : RM w A B G s.data.toList wr) => (show Calls Tryd.prog 39 #[.int .i64 0, .int .i64 1, .pointer (some ⟨G, 0, none⟩)] wr fun e w' => e = .returned (.int .i64 2) ∧ wr = w' by have h2 := h.get 0 1 0 1 rfl rfl (by decide) (by decide); rw [h1] at h2; exact h2)
  have HG2 := hid fun (wr : World) (A B G : Nat) (h : RM w A B G s.data.toList wr) => h.get 1 4 1 4 rfl rfl (by decide) (by decide)
  have HG3 := hid fun (wr : World) (A B G : Nat) (h : RM w A B G s.data.toList wr) => h.get 5 2 5 2 rfl rfl (by decide) (by decide)
  have HG4 := hid fun (wr : World) (A B G : Nat) (h : RM w A B G s.data.toList wr) => h.get 7 2 7 2 rfl rfl (by decide) (by decide)
  have HG5 := hid fun (wr : World) (A B G : Nat) (h : RM w A B G s.data.toList wr) => h.get 9 4 9 4 rfl rfl (by decide) (by decide)
  have hsm := getOr_lt s.data.toList 9 4 (by decide)
  generalize getOr s.data.toList 1 4 = tx at *
  generalize getOr s.data.toList 5 2 = ix at *
  generalize getOr s.data.toList 7 2 = ct at *
  generalize getOr s.data.toList 9 4 = sm at *
  clear h1
  go_enter Tryd.func30, Tryd.ntmps30
  go_wp2_with fail
  refine (HOF.out _).mono ?_
  rintro e w1 ⟨rfl, ha, hb⟩
  have HB := hid (((Below.refl w.heap.size w).alloc (Nat.le_refl _) _).trans (hb.mono (by simp)))
  have HZ := hid fun (X : World) (hX : Below w1.heap.size w1 X) => (show X.heap[w.heap.size]? = some (.cells (entC 0 0 0 0 0 ⟨#[]⟩ 0 0) 32 (0, 0)) from (hX.block _ (by have := hb.size; simp at this; omega)).trans ((hb.block _ (by simp)).trans (heap_alloc_new _ _)))
  have HM := hid (rm_new HB.out (show Area 73 w1 (w.heap.size + 1 + 1) (w.heap.size + 1) s.data.toList by simpa using ha))
  clear ha hb
  go_wp2_with fail
  refine (HG.out _ _ _ _ HM.out).mono ?_
  rintro e w2 ⟨rfl, rfl⟩
  go_wp2_with fail
  refine (HG2.out _ _ _ _ HM.out).mono ?_
  rintro e w2 ⟨rfl, rfl⟩
  go_wp2_with fail
  refine (HG3.out _ _ _ _ HM.out).mono ?_
  rintro e w2 ⟨rfl, rfl⟩
  go_wp2_with fail
  have HM2 := hid (HM.out.next ((Below.refl _ _).alloc (Nat.le_refl _) (.cells (entC 2 tx ix 0 0 ⟨#[]⟩ 0 0) 32)))
  refine (HG4.out _ _ _ _ HM2.out).mono ?_
  rintro e w2 ⟨rfl, rfl⟩
  go_wp2_with fail
  refine (HG5.out _ _ _ _ HM2.out).mono ?_
  rintro e w2 ⟨rfl, rfl⟩
  go_wp2_with (first | (refine wpList_store_whole ?gd 32 (.tmp 2) (.tmp 50) (by with_reducible rfl) ?dd w.heap.size ?cs ?xx ?yy 32 ?old ?hz ?i ?o ?n ?_))
  case gd => rfl
  case dd => rfl
  case cs => exact (entC 2 tx ix 0 0 ⟨#[]⟩ ct sm)
  case xx => rfl
  case yy => rfl
  case old => exact (entC 0 0 0 0 0 ⟨#[]⟩ 0 0)
  case hz => exact HZ.out _ (((Below.refl w1.heap.size w1).alloc (Nat.le_refl _) (.cells #[.pointer (some ⟨w.heap.size + 1 + 1, 0, none⟩)] 52)).alloc (by simp) (.cells (entC 2 tx ix 0 0 ⟨#[]⟩ ct sm) 32))
  case i => exact infoC _ _ _ _ _ _ _ _
  case o => rfl
  case n => exact (oneC _ _ _ _ _ _ _ _)
  have hz := HZ.out _ (((Below.refl w1.heap.size w1).alloc (Nat.le_refl _) (.cells #[.pointer (some ⟨w.heap.size + 1 + 1, 0, none⟩)] 52)).alloc (by simp) (.cells (entC 2 tx ix 0 0 ⟨#[]⟩ ct sm) 32))
  obtain ⟨q0, q1, q2, q3, q4, q5, q6, q7⟩ := ent_at (setRow_heap _ _ _ (entC 2 tx ix 0 0 ⟨#[]⟩ ct sm) _ _ hz)
  refine bodyPost_ret (v := .agg (entC 2 tx ix 0 0 ⟨#[]⟩ ct sm)) (by simp [results, Tryd.results30, go_sem, q0, q1, q2, q3, q4, q5, q6, q7]) rfl ⟨rfl, ?_⟩
  exact below_setRow (HB.out.trans ((show Below w1.heap.size w1 _ from (((Below.refl w1.heap.size w1).alloc (Nat.le_refl _) (.cells #[.pointer (some ⟨w.heap.size + 1 + 1, 0, none⟩)] 52)).alloc (by simp) (.cells (entC 2 tx ix 0 0 ⟨#[]⟩ ct sm) 32))).mono HB.out.size)) (Nat.le_refl _) _
end Go.Proofs.YtigaddpjmgncmaaDoor.En
