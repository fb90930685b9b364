/- Merged out of EnRefD, EnBoth, ScShelf. -/
import Derived.Test.YtgihpdhkjneimaaGreatDoorP11
import Derived.Shelf.Strings.Builder1
import Derived.Test.YtgihpdhkjneimaaGreatDoorProg
/- The document's own Decode: what it answers to a text. -/
namespace Go.Proofs.YtgihpdhkjneimaaGreatDoor.En
open Go.RowKit
open Go.Lib (hid)
open Go.Proofs.YtgihpdhkjneimaaGreatDoor.Fd (be be_length num getAt)
open Go.Proofs.YtgihpdhkjneimaaGreatDoor.Sm (wpList_store_whole)

open Classical in
theorem refenc_any (kd tx ix pk pn : Int) (b : ByteArray) (ct sm : Int) (w : World) (hs : 0 ≤ sm) (hs2 : sm < 4294967296) :
    Calls Tryz.prog 43 #[.agg (entC kd tx ix pk pn b ct sm)] w fun e w' => e = .returned (.tuple #[.string (encR kd tx ix pk pn b ct sm).1, .int .i64 (encR kd tx ix pk pn b ct sm).2]) ∧ Below w.heap.size w w' := by
  by_cases h : mayE kd tx ix pk pn b ct sm
  · rw [encR_yes h]
    rcases may_kinds hs h with ⟨T, I, K, N, rfl, rfl, rfl, rfl, rfl, rfl, rfl⟩ | ⟨T, I, S, rfl, rfl, rfl, rfl, rfl, rfl, rfl, rfl⟩ | ⟨T, I, rfl, rfl, rfl, rfl, rfl, rfl, rfl, rfl⟩
    · exact refenc_stage T I K N b w h
    · exact refenc_commit T I I S (by omega) w h
    · exact refenc_abort T I w h
  · rw [encR_no h]
    exact refenc_no kd tx ix pk pn ct sm b w h
theorem cut_at {s : ByteArray} {o wd e : Nat} (he : e = o + wd) (h : e ≤ s.size) : num (s.extract o e).data.toList = getOr s.data.toList o wd := by
  subst he
  have hl : s.data.toList.length = s.size := size_list s
  rw [ex_list, show o + wd - o = wd by omega]
  unfold getOr
  rw [if_pos (by omega)]
  rfl
theorem narrow_at (s : ByteArray) (o wd e : Nat) (he : e = o + wd) (h : e ≤ s.size) (hw : wd ≤ 4) (w : World) :
    Calls Tryz.prog 104 #[.string (s.extract o e)] w fun x w' => x = .returned (.int .i64 (getOr s.data.toList o wd : Int)) ∧ w = w' := by
  have h2 := narrow_any (s.extract o e) w (by rw [ByteArray.size_extract]; omega)
  rw [cut_at he h] at h2
  exact h2
theorem first_at (s : ByteArray) (h : 0 < s.size) : getOr s.data.toList 0 1 = s[0].toNat := by
  have hl : s.data.toList.length = s.size := size_list s
  unfold getOr
  rw [if_pos (by omega)]
  have : getAt s.data.toList 0 1 = [s[0]] := by
    show (s.data.toList.drop 0).take 1 = [s[0]]
    have h2 := take_snocS s 0 h
    simpa using h2
  rw [this]; simp [num]
set_option maxHeartbeats 1000000 in
theorem refdec_nil (w : World) : Calls Tryz.prog 105 #[.string ⟨#[]⟩] w fun e w' => e = .returned (.tuple #[.agg (entC 0 0 0 0 0 ⟨#[]⟩ 0 0), .int .i64 9]) ∧ Below w.heap.size w w' := by
  go_enter Tryz.func105, Tryz.ntmps105
  go_wp2_with fail
  refine bodyPost_ret (v := .tuple #[.agg (entC 0 0 0 0 0 ⟨#[]⟩ 0 0), .int .i64 9]) (by simp [results, Tryz.results105, go_sem]) rfl ⟨rfl, ?_⟩
  exact (Below.refl _ _).alloc (Nat.le_refl _) _
set_option maxRecDepth 100000 in
set_option maxHeartbeats 2000000 in
theorem refdec_far (s : ByteArray) (k : Nat) (w : World) (h0 : 0 < s.size) (hk : s[0].toNat = k) (g1 : k ≠ 1) (g2 : k ≠ 2) (g3 : k ≠ 3) : Calls Tryz.prog 105 #[.string s] w fun e w' => e = .returned (.tuple #[.agg (entC 0 0 0 0 0 ⟨#[]⟩ 0 0), .int .i64 6]) ∧ Below w.heap.size w w' := by
  have hk2 : k < 256 := by rw [← hk]; exact s[0].toNat_lt
  have e0 : (s.toList == []) = false := by have := full s h0; cases hl : s.toList with | nil => (rw [hl] at this; exact absurd this (by decide)) | cons => rfl
  have e1 : wrap64 (s[0].toNat : Int) = (k : Int) := by rw [hk]; unfold wrap64; omega
  have f1 : ((k : Int) == 1) = false := by simp; omega
  have f2 : ((k : Int) == 2) = false := by simp; omega
  have f3 : ((k : Int) == 3) = false := by simp; omega
  clear hk g1 g2 g3
  go_enter Tryz.func105, Tryz.ntmps105
  go_wp2_with fail
  refine bodyPost_ret (v := .tuple #[.agg (entC 0 0 0 0 0 ⟨#[]⟩ 0 0), .int .i64 6]) (by simp [results, Tryz.results105, go_sem]) rfl ⟨rfl, ?_⟩
  exact ((Below.refl _ _).alloc (Nat.le_refl _) _).alloc (by simp) _
set_option maxRecDepth 100000 in
set_option maxHeartbeats 2000000 in
theorem refdec_cut1 (s : ByteArray) (w : World) (h0 : 0 < s.size) (hk : s[0].toNat = 1) (hn : s.size < 10) : Calls Tryz.prog 105 #[.string s] w fun e w' => e = .returned (.tuple #[.agg (entC 0 0 0 0 0 ⟨#[]⟩ 0 0), .int .i64 9]) ∧ Below w.heap.size w w' := by
  have e0 : (s.toList == []) = false := by have := full s h0; cases hl : s.toList with | nil => (rw [hl] at this; exact absurd this (by decide)) | cons => rfl
  have e1 : wrap64 (s[0].toNat : Int) = 1 := by rw [hk]; unfold wrap64; omega
  have f1 : (s.size : Int) < 10 := by omega
  clear hk
  go_enter Tryz.func105, Tryz.ntmps105
  go_wp2_with fail
  refine bodyPost_ret (v := .tuple #[.agg (entC 0 0 0 0 0 ⟨#[]⟩ 0 0), .int .i64 9]) (by simp [results, Tryz.results105, go_sem]) rfl ⟨rfl, ?_⟩
  exact ((Below.refl _ _).alloc (Nat.le_refl _) _).alloc (by simp) _
set_option maxRecDepth 100000 in
set_option maxHeartbeats 2000000 in
theorem refdec_cut2 (s : ByteArray) (w : World) (h0 : 0 < s.size) (hk : s[0].toNat = 2) (hn : s.size < 13) : Calls Tryz.prog 105 #[.string s] w fun e w' => e = .returned (.tuple #[.agg (entC 0 0 0 0 0 ⟨#[]⟩ 0 0), .int .i64 9]) ∧ Below w.heap.size w w' := by
  have e0 : (s.toList == []) = false := by have := full s h0; cases hl : s.toList with | nil => (rw [hl] at this; exact absurd this (by decide)) | cons => rfl
  have e1 : wrap64 (s[0].toNat : Int) = 2 := by rw [hk]; unfold wrap64; omega
  have f1 : (s.size : Int) < 13 := by omega
  clear hk
  go_enter Tryz.func105, Tryz.ntmps105
  go_wp2_with fail
  refine bodyPost_ret (v := .tuple #[.agg (entC 0 0 0 0 0 ⟨#[]⟩ 0 0), .int .i64 9]) (by simp [results, Tryz.results105, go_sem]) rfl ⟨rfl, ?_⟩
  exact ((Below.refl _ _).alloc (Nat.le_refl _) _).alloc (by simp) _
set_option maxRecDepth 100000 in
set_option maxHeartbeats 2000000 in
theorem refdec_cut3 (s : ByteArray) (w : World) (h0 : 0 < s.size) (hk : s[0].toNat = 3) (hn : s.size < 7) : Calls Tryz.prog 105 #[.string s] w fun e w' => e = .returned (.tuple #[.agg (entC 0 0 0 0 0 ⟨#[]⟩ 0 0), .int .i64 9]) ∧ Below w.heap.size w w' := by
  have e0 : (s.toList == []) = false := by have := full s h0; cases hl : s.toList with | nil => (rw [hl] at this; exact absurd this (by decide)) | cons => rfl
  have e1 : wrap64 (s[0].toNat : Int) = 3 := by rw [hk]; unfold wrap64; omega
  have f1 : (s.size : Int) < 7 := by omega
  clear hk
  go_enter Tryz.func105, Tryz.ntmps105
  go_wp2_with fail
  refine bodyPost_ret (v := .tuple #[.agg (entC 0 0 0 0 0 ⟨#[]⟩ 0 0), .int .i64 9]) (by simp [results, Tryz.results105, go_sem]) rfl ⟨rfl, ?_⟩
  exact ((Below.refl _ _).alloc (Nat.le_refl _) _).alloc (by simp) _
theorem byte_at (s : ByteArray) (o : Nat) (h : o < s.size) : getOr s.data.toList o 1 = s[o].toNat := by
  have hl : s.data.toList.length = s.size := size_list s
  unfold getOr
  rw [if_pos (by omega)]
  have : getAt s.data.toList o 1 = [s[o]] := by
    show (s.data.toList.drop o).take 1 = [s[o]]
    rw [List.drop_eq_getElem_cons (by omega)]
    rfl
  rw [this]; simp [num]
theorem second_at (w : World) (a b : Obj) : ((w.alloc a).alloc b).heap[w.heap.size + 1]? = some b := by
  have h2 := heap_alloc_new (w.alloc a) b
  rw [show (w.alloc a).heap.size = w.heap.size + 1 by simp] at h2
  exact h2
theorem infoR : (Tryz.prog.info? 84).map (·.size) = some 8 := by kernel_rfl
set_option maxRecDepth 100000 in
set_option maxHeartbeats 4000000 in
theorem refdec_abortA (s : ByteArray) (w : World) (h0 : 0 < s.size) (hk : s[0].toNat = 3) (hn : 7 ≤ s.size) (hs : s.size ≤ 300) (hq : (encR 3 (getOr s.data.toList 1 4) (getOr s.data.toList 5 2) 0 0 ⟨#[]⟩ 0 0).2 = 1) : Calls Tryz.prog 105 #[.string s] w fun e w' => e = .returned (.tuple #[.agg (entC 0 0 0 0 0 ⟨#[]⟩ 0 0), .int .i64 6]) ∧ Below w.heap.size w w' := by
  have e0 : (s.toList == []) = false := by have := full s h0; cases hl : s.toList with | nil => (rw [hl] at this; exact absurd this (by decide)) | cons => rfl
  have e1 : wrap64 (s[0].toNat : Int) = 3 := by rw [hk]; unfold wrap64; omega
  have f1 : ¬ ((s.size : Int) < 7) := by omega
  have f2 : (5 : Int) ≤ s.size := by omega
  have f3 : (7 : Int) ≤ s.size := by omega
  have HN1 := hid fun (V : World) => narrow_at s 1 4 5 rfl (by omega) (by decide) V
  have HN5 := hid fun (V : World) => narrow_at s 5 2 7 rfl (by omega) (by decide) V
  have HE := hid fun (V : World) => refenc_any 3 (getOr s.data.toList 1 4) (getOr s.data.toList 5 2) 0 0 ⟨#[]⟩ 0 0 V (by decide) (by decide)
  generalize getOr s.data.toList 1 4 = tx at *
  generalize getOr s.data.toList 5 2 = ix at *
  generalize encR 3 tx ix 0 0 ⟨#[]⟩ 0 0 = r at *
  obtain ⟨r1, r2⟩ := r
  dsimp only at HE hq
  obtain rfl : r2 = 1 := hq
  clear hk
  go_enter Tryz.func105, Tryz.ntmps105
  go_wp2_with fail
  refine (HN1.out _).mono ?_
  rintro e w1 ⟨rfl, rfl⟩
  go_wp2_with fail
  refine (HN5.out _).mono ?_
  rintro e w1 ⟨rfl, rfl⟩
  go_wp2_with fail
  refine (HE.out _).mono ?_
  rintro e w2 ⟨rfl, hb⟩
  have HB := hid ((((Below.refl w.heap.size w).alloc (Nat.le_refl _) (.cells (entC 0 0 0 0 0 ⟨#[]⟩ 0 0) 84)).alloc (by simp) (.cells (entC 3 tx ix 0 0 ⟨#[]⟩ 0 0) 84)).trans (hb.mono (by simp; omega)))
  have HZ := hid (show w2.heap[w.heap.size]? = some (.cells (entC 0 0 0 0 0 ⟨#[]⟩ 0 0) 84 (0, 0)) from (hb.block w.heap.size (by simp; omega)).trans ((((Below.refl (w.alloc (.cells (entC 0 0 0 0 0 ⟨#[]⟩ 0 0) 84)).heap.size (w.alloc (.cells (entC 0 0 0 0 0 ⟨#[]⟩ 0 0) 84))).alloc (Nat.le_refl _) _).block w.heap.size (by simp)).trans (heap_alloc_new _ _)))
  obtain ⟨p0, p1, p2, p3, p4, p5, p6, p7⟩ := ent_at (show w2.heap[w.heap.size + 1]? = some (.cells (entC 3 tx ix 0 0 ⟨#[]⟩ 0 0) 84 (0, 0)) from (hb.block (w.heap.size + 1) (by simp)).trans (second_at _ _ _))
  clear hb
  go_wp2_with (first | (refine wpList_store_whole rfl 84 (.tmp 2) (.tmp 74) (by with_reducible rfl) rfl w.heap.size (entC 0 0 0 0 0 ⟨#[]⟩ 0 0) (by rfl) (by rfl) 84 (entC 0 0 0 0 0 ⟨#[]⟩ 0 0) HZ.out infoR (by rfl) (oneC _ _ _ _ _ _ _ _) ?_))
  obtain ⟨q0, q1, q2, q3, q4, q5, q6, q7⟩ := ent_at (setRow_heap _ _ _ (entC 0 0 0 0 0 ⟨#[]⟩ 0 0) _ _ HZ.out)
  refine bodyPost_ret (v := .tuple #[.agg (entC 0 0 0 0 0 ⟨#[]⟩ 0 0), .int .i64 6]) (by simp [results, Tryz.results105, go_sem, q0, q1, q2, q3, q4, q5, q6, q7]) rfl ⟨rfl, ?_⟩
  exact below_setRow HB.out (Nat.le_refl _) _
set_option maxRecDepth 100000 in
set_option maxHeartbeats 4000000 in
theorem refdec_abortB (s : ByteArray) (w : World) (h0 : 0 < s.size) (hk : s[0].toNat = 3) (hn : 7 ≤ s.size) (hs : s.size ≤ 300) (hq : (encR 3 (getOr s.data.toList 1 4) (getOr s.data.toList 5 2) 0 0 ⟨#[]⟩ 0 0).2 = 0 ∧ (encR 3 (getOr s.data.toList 1 4) (getOr s.data.toList 5 2) 0 0 ⟨#[]⟩ 0 0).1 ≠ s) : Calls Tryz.prog 105 #[.string s] w fun e w' => e = .returned (.tuple #[.agg (entC 0 0 0 0 0 ⟨#[]⟩ 0 0), .int .i64 6]) ∧ Below w.heap.size w w' := by
  have e0 : (s.toList == []) = false := by have := full s h0; cases hl : s.toList with | nil => (rw [hl] at this; exact absurd this (by decide)) | cons => rfl
  have e1 : wrap64 (s[0].toNat : Int) = 3 := by rw [hk]; unfold wrap64; omega
  have f1 : ¬ ((s.size : Int) < 7) := by omega
  have f2 : (5 : Int) ≤ s.size := by omega
  have f3 : (7 : Int) ≤ s.size := by omega
  have HN1 := hid fun (V : World) => narrow_at s 1 4 5 rfl (by omega) (by decide) V
  have HN5 := hid fun (V : World) => narrow_at s 5 2 7 rfl (by omega) (by decide) V
  have HE := hid fun (V : World) => refenc_any 3 (getOr s.data.toList 1 4) (getOr s.data.toList 5 2) 0 0 ⟨#[]⟩ 0 0 V (by decide) (by decide)
  generalize getOr s.data.toList 1 4 = tx at *
  generalize getOr s.data.toList 5 2 = ix at *
  generalize encR 3 tx ix 0 0 ⟨#[]⟩ 0 0 = r at *
  obtain ⟨r1, r2⟩ := r
  dsimp only at HE hq
  obtain ⟨rfl, hq⟩ := hq
  have e8 : (r1.toList == s.toList) = false := ba_other hq
  clear hk hq
  go_enter Tryz.func105, Tryz.ntmps105
  go_wp2_with fail
  refine (HN1.out _).mono ?_
  rintro e w1 ⟨rfl, rfl⟩
  go_wp2_with fail
  refine (HN5.out _).mono ?_
  rintro e w1 ⟨rfl, rfl⟩
  go_wp2_with fail
  refine (HE.out _).mono ?_
  rintro e w2 ⟨rfl, hb⟩
  have HB := hid ((((Below.refl w.heap.size w).alloc (Nat.le_refl _) (.cells (entC 0 0 0 0 0 ⟨#[]⟩ 0 0) 84)).alloc (by simp) (.cells (entC 3 tx ix 0 0 ⟨#[]⟩ 0 0) 84)).trans (hb.mono (by simp; omega)))
  have HZ := hid (show w2.heap[w.heap.size]? = some (.cells (entC 0 0 0 0 0 ⟨#[]⟩ 0 0) 84 (0, 0)) from (hb.block w.heap.size (by simp; omega)).trans ((((Below.refl (w.alloc (.cells (entC 0 0 0 0 0 ⟨#[]⟩ 0 0) 84)).heap.size (w.alloc (.cells (entC 0 0 0 0 0 ⟨#[]⟩ 0 0) 84))).alloc (Nat.le_refl _) _).block w.heap.size (by simp)).trans (heap_alloc_new _ _)))
  obtain ⟨p0, p1, p2, p3, p4, p5, p6, p7⟩ := ent_at (show w2.heap[w.heap.size + 1]? = some (.cells (entC 3 tx ix 0 0 ⟨#[]⟩ 0 0) 84 (0, 0)) from (hb.block (w.heap.size + 1) (by simp)).trans (second_at _ _ _))
  clear hb
  go_wp2_with (first | (refine wpList_store_whole rfl 84 (.tmp 2) (.tmp 74) (by with_reducible rfl) rfl w.heap.size (entC 0 0 0 0 0 ⟨#[]⟩ 0 0) (by rfl) (by rfl) 84 (entC 0 0 0 0 0 ⟨#[]⟩ 0 0) HZ.out infoR (by rfl) (oneC _ _ _ _ _ _ _ _) ?_))
  obtain ⟨q0, q1, q2, q3, q4, q5, q6, q7⟩ := ent_at (setRow_heap _ _ _ (entC 0 0 0 0 0 ⟨#[]⟩ 0 0) _ _ HZ.out)
  refine bodyPost_ret (v := .tuple #[.agg (entC 0 0 0 0 0 ⟨#[]⟩ 0 0), .int .i64 6]) (by simp [results, Tryz.results105, go_sem, q0, q1, q2, q3, q4, q5, q6, q7]) rfl ⟨rfl, ?_⟩
  exact below_setRow HB.out (Nat.le_refl _) _
set_option maxRecDepth 100000 in
set_option maxHeartbeats 4000000 in
theorem refdec_abortC (s : ByteArray) (w : World) (h0 : 0 < s.size) (hk : s[0].toNat = 3) (hn : 7 ≤ s.size) (hs : s.size ≤ 300) (hq : (encR 3 (getOr s.data.toList 1 4) (getOr s.data.toList 5 2) 0 0 ⟨#[]⟩ 0 0).2 = 0 ∧ (encR 3 (getOr s.data.toList 1 4) (getOr s.data.toList 5 2) 0 0 ⟨#[]⟩ 0 0).1 = s) : Calls Tryz.prog 105 #[.string s] w fun e w' => e = .returned (.tuple #[.agg (entC 3 (getOr s.data.toList 1 4) (getOr s.data.toList 5 2) 0 0 ⟨#[]⟩ 0 0), .int .i64 0]) ∧ Below w.heap.size w w' := by
  have e0 : (s.toList == []) = false := by have := full s h0; cases hl : s.toList with | nil => (rw [hl] at this; exact absurd this (by decide)) | cons => rfl
  have e1 : wrap64 (s[0].toNat : Int) = 3 := by rw [hk]; unfold wrap64; omega
  have f1 : ¬ ((s.size : Int) < 7) := by omega
  have f2 : (5 : Int) ≤ s.size := by omega
  have f3 : (7 : Int) ≤ s.size := by omega
  have HN1 := hid fun (V : World) => narrow_at s 1 4 5 rfl (by omega) (by decide) V
  have HN5 := hid fun (V : World) => narrow_at s 5 2 7 rfl (by omega) (by decide) V
  have HE := hid fun (V : World) => refenc_any 3 (getOr s.data.toList 1 4) (getOr s.data.toList 5 2) 0 0 ⟨#[]⟩ 0 0 V (by decide) (by decide)
  generalize getOr s.data.toList 1 4 = tx at *
  generalize getOr s.data.toList 5 2 = ix at *
  generalize encR 3 tx ix 0 0 ⟨#[]⟩ 0 0 = r at *
  obtain ⟨r1, r2⟩ := r
  dsimp only at HE hq
  obtain ⟨rfl, hq⟩ := hq
  have e8 : (r1.toList == s.toList) = true := by rw [hq]; simp
  clear hk hq
  go_enter Tryz.func105, Tryz.ntmps105
  go_wp2_with fail
  refine (HN1.out _).mono ?_
  rintro e w1 ⟨rfl, rfl⟩
  go_wp2_with fail
  refine (HN5.out _).mono ?_
  rintro e w1 ⟨rfl, rfl⟩
  go_wp2_with fail
  refine (HE.out _).mono ?_
  rintro e w2 ⟨rfl, hb⟩
  have HB := hid ((((Below.refl w.heap.size w).alloc (Nat.le_refl _) (.cells (entC 0 0 0 0 0 ⟨#[]⟩ 0 0) 84)).alloc (by simp) (.cells (entC 3 tx ix 0 0 ⟨#[]⟩ 0 0) 84)).trans (hb.mono (by simp; omega)))
  have HZ := hid (show w2.heap[w.heap.size]? = some (.cells (entC 0 0 0 0 0 ⟨#[]⟩ 0 0) 84 (0, 0)) from (hb.block w.heap.size (by simp; omega)).trans ((((Below.refl (w.alloc (.cells (entC 0 0 0 0 0 ⟨#[]⟩ 0 0) 84)).heap.size (w.alloc (.cells (entC 0 0 0 0 0 ⟨#[]⟩ 0 0) 84))).alloc (Nat.le_refl _) _).block w.heap.size (by simp)).trans (heap_alloc_new _ _)))
  obtain ⟨p0, p1, p2, p3, p4, p5, p6, p7⟩ := ent_at (show w2.heap[w.heap.size + 1]? = some (.cells (entC 3 tx ix 0 0 ⟨#[]⟩ 0 0) 84 (0, 0)) from (hb.block (w.heap.size + 1) (by simp)).trans (second_at _ _ _))
  clear hb
  go_wp2_with (first | (refine wpList_store_whole rfl 84 (.tmp 2) (.tmp 75) (by with_reducible rfl) rfl w.heap.size (entC 3 tx ix 0 0 ⟨#[]⟩ 0 0) (by rfl) (by rfl) 84 (entC 0 0 0 0 0 ⟨#[]⟩ 0 0) HZ.out infoR (by rfl) (oneC _ _ _ _ _ _ _ _) ?_))
  obtain ⟨q0, q1, q2, q3, q4, q5, q6, q7⟩ := ent_at (setRow_heap _ _ _ (entC 3 tx ix 0 0 ⟨#[]⟩ 0 0) _ _ HZ.out)
  refine bodyPost_ret (v := .tuple #[.agg (entC 3 tx ix 0 0 ⟨#[]⟩ 0 0), .int .i64 0]) (by simp [results, Tryz.results105, go_sem, q0, q1, q2, q3, q4, q5, q6, q7]) rfl ⟨rfl, ?_⟩
  exact below_setRow HB.out (Nat.le_refl _) _
set_option maxRecDepth 100000 in
set_option maxHeartbeats 4000000 in
theorem refdec_commitA (s : ByteArray) (w : World) (h0 : 0 < s.size) (hk : s[0].toNat = 2) (hn : 13 ≤ s.size) (hs : s.size ≤ 300) (hq : (encR 2 (getOr s.data.toList 1 4) (getOr s.data.toList 5 2) 0 0 ⟨#[]⟩ (getOr s.data.toList 7 2) (getOr s.data.toList 9 4)).2 = 1) : Calls Tryz.prog 105 #[.string s] w fun e w' => e = .returned (.tuple #[.agg (entC 0 0 0 0 0 ⟨#[]⟩ 0 0), .int .i64 6]) ∧ Below w.heap.size w w' := by
  have e0 : (s.toList == []) = false := by have := full s h0; cases hl : s.toList with | nil => (rw [hl] at this; exact absurd this (by decide)) | cons => rfl
  have e1 : wrap64 (s[0].toNat : Int) = 2 := by rw [hk]; unfold wrap64; omega
  have f1 : ¬ ((s.size : Int) < 13) := by omega
  have f2 : (5 : Int) ≤ s.size := by omega
  have f3 : (7 : Int) ≤ s.size := by omega
  have f4 : (9 : Int) ≤ s.size := by omega
  have f5 : (13 : Int) ≤ s.size := by omega
  have hsm := getOr_lt s.data.toList 9 4 (by decide)
  have HN1 := hid fun (V : World) => narrow_at s 1 4 5 rfl (by omega) (by decide) V
  have HN5 := hid fun (V : World) => narrow_at s 5 2 7 rfl (by omega) (by decide) V
  have HN7 := hid fun (V : World) => narrow_at s 7 2 9 rfl (by omega) (by decide) V
  have HN9 := hid fun (V : World) => narrow_at s 9 4 13 rfl (by omega) (by decide) V
  have HE := hid fun (V : World) => refenc_any 2 (getOr s.data.toList 1 4) (getOr s.data.toList 5 2) 0 0 ⟨#[]⟩ (getOr s.data.toList 7 2) (getOr s.data.toList 9 4) V (by omega) (by omega)
  generalize getOr s.data.toList 1 4 = tx at *
  generalize getOr s.data.toList 5 2 = ix at *
  generalize getOr s.data.toList 7 2 = ct at *
  generalize getOr s.data.toList 9 4 = sm at *
  generalize encR 2 tx ix 0 0 ⟨#[]⟩ ct sm = r at *
  obtain ⟨r1, r2⟩ := r
  dsimp only at HE hq
  obtain rfl : r2 = 1 := hq
  clear hk
  go_enter Tryz.func105, Tryz.ntmps105
  go_wp2_with fail
  refine (HN1.out _).mono ?_
  rintro e w1 ⟨rfl, rfl⟩
  go_wp2_with fail
  refine (HN5.out _).mono ?_
  rintro e w1 ⟨rfl, rfl⟩
  go_wp2_with fail
  refine (HN7.out _).mono ?_
  rintro e w1 ⟨rfl, rfl⟩
  go_wp2_with fail
  refine (HN9.out _).mono ?_
  rintro e w1 ⟨rfl, rfl⟩
  go_wp2_with fail
  refine (HE.out _).mono ?_
  rintro e w2 ⟨rfl, hb⟩
  have HB := hid ((((Below.refl w.heap.size w).alloc (Nat.le_refl _) (.cells (entC 0 0 0 0 0 ⟨#[]⟩ 0 0) 84)).alloc (by simp) (.cells (entC 2 tx ix 0 0 ⟨#[]⟩ ct sm) 84)).trans (hb.mono (by simp; omega)))
  have HZ := hid (show w2.heap[w.heap.size]? = some (.cells (entC 0 0 0 0 0 ⟨#[]⟩ 0 0) 84 (0, 0)) from (hb.block w.heap.size (by simp; omega)).trans ((((Below.refl (w.alloc (.cells (entC 0 0 0 0 0 ⟨#[]⟩ 0 0) 84)).heap.size (w.alloc (.cells (entC 0 0 0 0 0 ⟨#[]⟩ 0 0) 84))).alloc (Nat.le_refl _) _).block w.heap.size (by simp)).trans (heap_alloc_new _ _)))
  obtain ⟨p0, p1, p2, p3, p4, p5, p6, p7⟩ := ent_at (show w2.heap[w.heap.size + 1]? = some (.cells (entC 2 tx ix 0 0 ⟨#[]⟩ ct sm) 84 (0, 0)) from (hb.block (w.heap.size + 1) (by simp)).trans (second_at _ _ _))
  clear hb
  go_wp2_with (first | (refine wpList_store_whole rfl 84 (.tmp 2) (.tmp 74) (by with_reducible rfl) rfl w.heap.size (entC 0 0 0 0 0 ⟨#[]⟩ 0 0) (by rfl) (by rfl) 84 (entC 0 0 0 0 0 ⟨#[]⟩ 0 0) HZ.out infoR (by rfl) (oneC _ _ _ _ _ _ _ _) ?_))
  obtain ⟨q0, q1, q2, q3, q4, q5, q6, q7⟩ := ent_at (setRow_heap _ _ _ (entC 0 0 0 0 0 ⟨#[]⟩ 0 0) _ _ HZ.out)
  refine bodyPost_ret (v := .tuple #[.agg (entC 0 0 0 0 0 ⟨#[]⟩ 0 0), .int .i64 6]) (by simp [results, Tryz.results105, go_sem, q0, q1, q2, q3, q4, q5, q6, q7]) rfl ⟨rfl, ?_⟩
  exact below_setRow HB.out (Nat.le_refl _) _
set_option maxRecDepth 100000 in
set_option maxHeartbeats 4000000 in
theorem refdec_commitB (s : ByteArray) (w : World) (h0 : 0 < s.size) (hk : s[0].toNat = 2) (hn : 13 ≤ s.size) (hs : s.size ≤ 300) (hq : (encR 2 (getOr s.data.toList 1 4) (getOr s.data.toList 5 2) 0 0 ⟨#[]⟩ (getOr s.data.toList 7 2) (getOr s.data.toList 9 4)).2 = 0 ∧ (encR 2 (getOr s.data.toList 1 4) (getOr s.data.toList 5 2) 0 0 ⟨#[]⟩ (getOr s.data.toList 7 2) (getOr s.data.toList 9 4)).1 ≠ s) : Calls Tryz.prog 105 #[.string s] w fun e w' => e = .returned (.tuple #[.agg (entC 0 0 0 0 0 ⟨#[]⟩ 0 0), .int .i64 6]) ∧ Below w.heap.size w w' := by
  have e0 : (s.toList == []) = false := by have := full s h0; cases hl : s.toList with | nil => (rw [hl] at this; exact absurd this (by decide)) | cons => rfl
  have e1 : wrap64 (s[0].toNat : Int) = 2 := by rw [hk]; unfold wrap64; omega
  have f1 : ¬ ((s.size : Int) < 13) := by omega
  have f2 : (5 : Int) ≤ s.size := by omega
  have f3 : (7 : Int) ≤ s.size := by omega
  have f4 : (9 : Int) ≤ s.size := by omega
  have f5 : (13 : Int) ≤ s.size := by omega
  have hsm := getOr_lt s.data.toList 9 4 (by decide)
  have HN1 := hid fun (V : World) => narrow_at s 1 4 5 rfl (by omega) (by decide) V
  have HN5 := hid fun (V : World) => narrow_at s 5 2 7 rfl (by omega) (by decide) V
  have HN7 := hid fun (V : World) => narrow_at s 7 2 9 rfl (by omega) (by decide) V
  have HN9 := hid fun (V : World) => narrow_at s 9 4 13 rfl (by omega) (by decide) V
  have HE := hid fun (V : World) => refenc_any 2 (getOr s.data.toList 1 4) (getOr s.data.toList 5 2) 0 0 ⟨#[]⟩ (getOr s.data.toList 7 2) (getOr s.data.toList 9 4) V (by omega) (by omega)
  generalize getOr s.data.toList 1 4 = tx at *
  generalize getOr s.data.toList 5 2 = ix at *
  generalize getOr s.data.toList 7 2 = ct at *
  generalize getOr s.data.toList 9 4 = sm at *
  generalize encR 2 tx ix 0 0 ⟨#[]⟩ ct sm = r at *
  obtain ⟨r1, r2⟩ := r
  dsimp only at HE hq
  obtain ⟨rfl, hq⟩ := hq
  have e8 : (r1.toList == s.toList) = false := ba_other hq
  clear hk hq
  go_enter Tryz.func105, Tryz.ntmps105
  go_wp2_with fail
  refine (HN1.out _).mono ?_
  rintro e w1 ⟨rfl, rfl⟩
  go_wp2_with fail
  refine (HN5.out _).mono ?_
  rintro e w1 ⟨rfl, rfl⟩
  go_wp2_with fail
  refine (HN7.out _).mono ?_
  rintro e w1 ⟨rfl, rfl⟩
  go_wp2_with fail
  refine (HN9.out _).mono ?_
  rintro e w1 ⟨rfl, rfl⟩
  go_wp2_with fail
  refine (HE.out _).mono ?_
  rintro e w2 ⟨rfl, hb⟩
  have HB := hid ((((Below.refl w.heap.size w).alloc (Nat.le_refl _) (.cells (entC 0 0 0 0 0 ⟨#[]⟩ 0 0) 84)).alloc (by simp) (.cells (entC 2 tx ix 0 0 ⟨#[]⟩ ct sm) 84)).trans (hb.mono (by simp; omega)))
  have HZ := hid (show w2.heap[w.heap.size]? = some (.cells (entC 0 0 0 0 0 ⟨#[]⟩ 0 0) 84 (0, 0)) from (hb.block w.heap.size (by simp; omega)).trans ((((Below.refl (w.alloc (.cells (entC 0 0 0 0 0 ⟨#[]⟩ 0 0) 84)).heap.size (w.alloc (.cells (entC 0 0 0 0 0 ⟨#[]⟩ 0 0) 84))).alloc (Nat.le_refl _) _).block w.heap.size (by simp)).trans (heap_alloc_new _ _)))
  obtain ⟨p0, p1, p2, p3, p4, p5, p6, p7⟩ := ent_at (show w2.heap[w.heap.size + 1]? = some (.cells (entC 2 tx ix 0 0 ⟨#[]⟩ ct sm) 84 (0, 0)) from (hb.block (w.heap.size + 1) (by simp)).trans (second_at _ _ _))
  clear hb
  go_wp2_with (first | (refine wpList_store_whole rfl 84 (.tmp 2) (.tmp 74) (by with_reducible rfl) rfl w.heap.size (entC 0 0 0 0 0 ⟨#[]⟩ 0 0) (by rfl) (by rfl) 84 (entC 0 0 0 0 0 ⟨#[]⟩ 0 0) HZ.out infoR (by rfl) (oneC _ _ _ _ _ _ _ _) ?_))
  obtain ⟨q0, q1, q2, q3, q4, q5, q6, q7⟩ := ent_at (setRow_heap _ _ _ (entC 0 0 0 0 0 ⟨#[]⟩ 0 0) _ _ HZ.out)
  refine bodyPost_ret (v := .tuple #[.agg (entC 0 0 0 0 0 ⟨#[]⟩ 0 0), .int .i64 6]) (by simp [results, Tryz.results105, go_sem, q0, q1, q2, q3, q4, q5, q6, q7]) rfl ⟨rfl, ?_⟩
  exact below_setRow HB.out (Nat.le_refl _) _
set_option maxRecDepth 100000 in
set_option maxHeartbeats 4000000 in
theorem refdec_commitC (s : ByteArray) (w : World) (h0 : 0 < s.size) (hk : s[0].toNat = 2) (hn : 13 ≤ s.size) (hs : s.size ≤ 300) (hq : (encR 2 (getOr s.data.toList 1 4) (getOr s.data.toList 5 2) 0 0 ⟨#[]⟩ (getOr s.data.toList 7 2) (getOr s.data.toList 9 4)).2 = 0 ∧ (encR 2 (getOr s.data.toList 1 4) (getOr s.data.toList 5 2) 0 0 ⟨#[]⟩ (getOr s.data.toList 7 2) (getOr s.data.toList 9 4)).1 = s) : Calls Tryz.prog 105 #[.string s] w fun e w' => e = .returned (.tuple #[.agg (entC 2 (getOr s.data.toList 1 4) (getOr s.data.toList 5 2) 0 0 ⟨#[]⟩ (getOr s.data.toList 7 2) (getOr s.data.toList 9 4)), .int .i64 0]) ∧ Below w.heap.size w w' := by
  have e0 : (s.toList == []) = false := by have := full s h0; cases hl : s.toList with | nil => (rw [hl] at this; exact absurd this (by decide)) | cons => rfl
  have e1 : wrap64 (s[0].toNat : Int) = 2 := by rw [hk]; unfold wrap64; omega
  have f1 : ¬ ((s.size : Int) < 13) := by omega
  have f2 : (5 : Int) ≤ s.size := by omega
  have f3 : (7 : Int) ≤ s.size := by omega
  have f4 : (9 : Int) ≤ s.size := by omega
  have f5 : (13 : Int) ≤ s.size := by omega
  have hsm := getOr_lt s.data.toList 9 4 (by decide)
  have HN1 := hid fun (V : World) => narrow_at s 1 4 5 rfl (by omega) (by decide) V
  have HN5 := hid fun (V : World) => narrow_at s 5 2 7 rfl (by omega) (by decide) V
  have HN7 := hid fun (V : World) => narrow_at s 7 2 9 rfl (by omega) (by decide) V
  have HN9 := hid fun (V : World) => narrow_at s 9 4 13 rfl (by omega) (by decide) V
  have HE := hid fun (V : World) => refenc_any 2 (getOr s.data.toList 1 4) (getOr s.data.toList 5 2) 0 0 ⟨#[]⟩ (getOr s.data.toList 7 2) (getOr s.data.toList 9 4) V (by omega) (by omega)
  generalize getOr s.data.toList 1 4 = tx at *
  generalize getOr s.data.toList 5 2 = ix at *
  generalize getOr s.data.toList 7 2 = ct at *
  generalize getOr s.data.toList 9 4 = sm at *
  generalize encR 2 tx ix 0 0 ⟨#[]⟩ ct sm = r at *
  obtain ⟨r1, r2⟩ := r
  dsimp only at HE hq
  obtain ⟨rfl, hq⟩ := hq
  have e8 : (r1.toList == s.toList) = true := by rw [hq]; simp
  clear hk hq
  go_enter Tryz.func105, Tryz.ntmps105
  go_wp2_with fail
  refine (HN1.out _).mono ?_
  rintro e w1 ⟨rfl, rfl⟩
  go_wp2_with fail
  refine (HN5.out _).mono ?_
  rintro e w1 ⟨rfl, rfl⟩
  go_wp2_with fail
  refine (HN7.out _).mono ?_
  rintro e w1 ⟨rfl, rfl⟩
  go_wp2_with fail
  refine (HN9.out _).mono ?_
  rintro e w1 ⟨rfl, rfl⟩
  go_wp2_with fail
  refine (HE.out _).mono ?_
  rintro e w2 ⟨rfl, hb⟩
  have HB := hid ((((Below.refl w.heap.size w).alloc (Nat.le_refl _) (.cells (entC 0 0 0 0 0 ⟨#[]⟩ 0 0) 84)).alloc (by simp) (.cells (entC 2 tx ix 0 0 ⟨#[]⟩ ct sm) 84)).trans (hb.mono (by simp; omega)))
  have HZ := hid (show w2.heap[w.heap.size]? = some (.cells (entC 0 0 0 0 0 ⟨#[]⟩ 0 0) 84 (0, 0)) from (hb.block w.heap.size (by simp; omega)).trans ((((Below.refl (w.alloc (.cells (entC 0 0 0 0 0 ⟨#[]⟩ 0 0) 84)).heap.size (w.alloc (.cells (entC 0 0 0 0 0 ⟨#[]⟩ 0 0) 84))).alloc (Nat.le_refl _) _).block w.heap.size (by simp)).trans (heap_alloc_new _ _)))
  obtain ⟨p0, p1, p2, p3, p4, p5, p6, p7⟩ := ent_at (show w2.heap[w.heap.size + 1]? = some (.cells (entC 2 tx ix 0 0 ⟨#[]⟩ ct sm) 84 (0, 0)) from (hb.block (w.heap.size + 1) (by simp)).trans (second_at _ _ _))
  clear hb
  go_wp2_with (first | (refine wpList_store_whole rfl 84 (.tmp 2) (.tmp 75) (by with_reducible rfl) rfl w.heap.size (entC 2 tx ix 0 0 ⟨#[]⟩ ct sm) (by rfl) (by rfl) 84 (entC 0 0 0 0 0 ⟨#[]⟩ 0 0) HZ.out infoR (by rfl) (oneC _ _ _ _ _ _ _ _) ?_))
  obtain ⟨q0, q1, q2, q3, q4, q5, q6, q7⟩ := ent_at (setRow_heap _ _ _ (entC 2 tx ix 0 0 ⟨#[]⟩ ct sm) _ _ HZ.out)
  refine bodyPost_ret (v := .tuple #[.agg (entC 2 tx ix 0 0 ⟨#[]⟩ ct sm), .int .i64 0]) (by simp [results, Tryz.results105, go_sem, q0, q1, q2, q3, q4, q5, q6, q7]) rfl ⟨rfl, ?_⟩
  exact below_setRow HB.out (Nat.le_refl _) _
set_option maxRecDepth 100000 in
set_option maxHeartbeats 4000000 in
theorem refdec_stageA (s : ByteArray) (w : World) (h0 : 0 < s.size) (hk : s[0].toNat = 1) (hn : 10 ≤ s.size) (hs : s.size ≤ 300) (hq : (encR 1 (getOr s.data.toList 1 4) (getOr s.data.toList 5 2) (getOr s.data.toList 7 1) (getOr s.data.toList 8 2) (s.extract 10 s.size) 0 0).2 = 1) : Calls Tryz.prog 105 #[.string s] w fun e w' => e = .returned (.tuple #[.agg (entC 0 0 0 0 0 ⟨#[]⟩ 0 0), .int .i64 6]) ∧ Below w.heap.size w w' := by
  have e0 : (s.toList == []) = false := by have := full s h0; cases hl : s.toList with | nil => (rw [hl] at this; exact absurd this (by decide)) | cons => rfl
  have e1 : wrap64 (s[0].toNat : Int) = 1 := by rw [hk]; unfold wrap64; omega
  have f1 : ¬ ((s.size : Int) < 10) := by omega
  have f2 : (5 : Int) ≤ s.size := by omega
  have f3 : (7 : Int) ≤ s.size := by omega
  have f4 : (10 : Int) ≤ s.size := by omega
  have f5 : (7 : Int) < s.size := by omega
  have f6 : (8 : Int) ≤ s.size := by omega
  have e7 : IntKind.i64.wrap (s[7].toNat : Int) = (getOr s.data.toList 7 1 : Nat) := by have := s[7].toNat_lt; rw [byte_at s 7 (by omega), Go.IntWalk.i64_in _ (by omega)]
  have HN1 := hid fun (V : World) => narrow_at s 1 4 5 rfl (by omega) (by decide) V
  have HN5 := hid fun (V : World) => narrow_at s 5 2 7 rfl (by omega) (by decide) V
  have HN8 := hid fun (V : World) => narrow_at s 8 2 10 rfl (by omega) (by decide) V
  have HE := hid fun (V : World) => refenc_any 1 (getOr s.data.toList 1 4) (getOr s.data.toList 5 2) (getOr s.data.toList 7 1) (getOr s.data.toList 8 2) (s.extract 10 s.size) 0 0 V (by decide) (by decide)
  generalize getOr s.data.toList 1 4 = tx at *
  generalize getOr s.data.toList 5 2 = ix at *
  generalize getOr s.data.toList 7 1 = pk at *
  generalize getOr s.data.toList 8 2 = pn at *
  generalize encR 1 tx ix pk pn (s.extract 10 s.size) 0 0 = r at *
  obtain ⟨r1, r2⟩ := r
  dsimp only at HE hq
  obtain rfl : r2 = 1 := hq
  clear hk
  go_enter Tryz.func105, Tryz.ntmps105
  go_wp2_with fail
  refine (HN1.out _).mono ?_
  rintro e w1 ⟨rfl, rfl⟩
  go_wp2_with fail
  refine (HN5.out _).mono ?_
  rintro e w1 ⟨rfl, rfl⟩
  have y0 : ((w.alloc (.cells (entC 0 0 0 0 0 ⟨#[]⟩ 0 0) 84)).alloc (.cells (entC 1 tx ix 0 0 ⟨#[]⟩ 0 0) 84)).cell? ⟨w.heap.size + 1, 0, none⟩ = some (.int .i64 1) := by rw [cell_of_row _ _ _ _ _ _ (second_at _ _ _)]; rfl
  go_wp2_with fail
  go_region_held3 (fun V => V.cell? ⟨w.heap.size + 1, 0, none⟩ = some (.int .i64 1)) (first | exact y0 | exact y1 | go_keep)
    (first
      | (go_at_call 104; with_reducible refine (HN8.out _).mono ?_; rintro e w1 ⟨rfl, rfl⟩; have y1 := y0)
      | fail)
  all_goals
    try rw [e7]
    clear e7 y0
    try clear y1
    have HXb := hid (show Below w.heap.size w (((w.alloc (.cells (entC 0 0 0 0 0 ⟨#[]⟩ 0 0) 84)).alloc (.cells (entC 1 tx ix pk pn (s.extract 10 s.size) 0 0) 84)).drew) from (((Below.refl w.heap.size w).alloc (Nat.le_refl _) _).alloc (by simp) _).drew)
    have HXs : w.heap.size + 1 < (((w.alloc (.cells (entC 0 0 0 0 0 ⟨#[]⟩ 0 0) 84)).alloc (.cells (entC 1 tx ix pk pn (s.extract 10 s.size) 0 0) 84)).drew).heap.size := by show _ < ((w.alloc _).alloc _).heap.size; simp
    have HX1 : (((w.alloc (.cells (entC 0 0 0 0 0 ⟨#[]⟩ 0 0) 84)).alloc (.cells (entC 1 tx ix pk pn (s.extract 10 s.size) 0 0) 84)).drew).heap[w.heap.size + 1]? = some (.cells (entC 1 tx ix pk pn (s.extract 10 s.size) 0 0) 84 (0, 0)) := second_at _ _ _
    have HX0 : (((w.alloc (.cells (entC 0 0 0 0 0 ⟨#[]⟩ 0 0) 84)).alloc (.cells (entC 1 tx ix pk pn (s.extract 10 s.size) 0 0) 84)).drew).heap[w.heap.size]? = some (.cells (entC 0 0 0 0 0 ⟨#[]⟩ 0 0) 84 (0, 0)) := (((Below.refl (w.alloc (.cells (entC 0 0 0 0 0 ⟨#[]⟩ 0 0) 84)).heap.size (w.alloc (.cells (entC 0 0 0 0 0 ⟨#[]⟩ 0 0) 84))).alloc (Nat.le_refl _) _).block w.heap.size (by simp)).trans (heap_alloc_new _ _)
    generalize (((w.alloc (.cells (entC 0 0 0 0 0 ⟨#[]⟩ 0 0) 84)).alloc (.cells (entC 1 tx ix pk pn (s.extract 10 s.size) 0 0) 84)).drew) = X at HXb HXs HX0 HX1 ⊢
    obtain ⟨d0, d1, d2, d3, d4, d5, d6, d7⟩ := ent_at HX1
    go_wp2_with fail
    refine (HE.out _).mono ?_
    rintro e w2 ⟨rfl, hb⟩
    have HB := hid (HXb.out.trans (hb.mono (by omega)))
    have HZ := hid (show w2.heap[w.heap.size]? = some (.cells (entC 0 0 0 0 0 ⟨#[]⟩ 0 0) 84 (0, 0)) from (hb.block w.heap.size (by omega)).trans HX0)
    obtain ⟨p0, p1, p2, p3, p4, p5, p6, p7⟩ := ent_at (show w2.heap[w.heap.size + 1]? = some (.cells (entC 1 tx ix pk pn (s.extract 10 s.size) 0 0) 84 (0, 0)) from (hb.block (w.heap.size + 1) HXs).trans HX1)
    clear hb d0 d1 d2 d3 d4 d5 d6 d7 HX0 HX1 HXs
    go_wp2_with (first | (refine wpList_store_whole rfl 84 (.tmp 2) (.tmp 74) (by with_reducible rfl) rfl w.heap.size (entC 0 0 0 0 0 ⟨#[]⟩ 0 0) (by rfl) (by rfl) 84 (entC 0 0 0 0 0 ⟨#[]⟩ 0 0) HZ.out infoR (by rfl) (oneC _ _ _ _ _ _ _ _) ?_))
    obtain ⟨q0, q1, q2, q3, q4, q5, q6, q7⟩ := ent_at (setRow_heap _ _ _ (entC 0 0 0 0 0 ⟨#[]⟩ 0 0) _ _ HZ.out)
    refine bodyPost_ret (v := .tuple #[.agg (entC 0 0 0 0 0 ⟨#[]⟩ 0 0), .int .i64 6]) (by simp [results, Tryz.results105, go_sem, q0, q1, q2, q3, q4, q5, q6, q7]) rfl ⟨rfl, ?_⟩
    exact below_setRow HB.out (Nat.le_refl _) _
set_option maxRecDepth 100000 in
set_option maxHeartbeats 4000000 in
theorem refdec_stageB (s : ByteArray) (w : World) (h0 : 0 < s.size) (hk : s[0].toNat = 1) (hn : 10 ≤ s.size) (hs : s.size ≤ 300) (hq : (encR 1 (getOr s.data.toList 1 4) (getOr s.data.toList 5 2) (getOr s.data.toList 7 1) (getOr s.data.toList 8 2) (s.extract 10 s.size) 0 0).2 = 0 ∧ (encR 1 (getOr s.data.toList 1 4) (getOr s.data.toList 5 2) (getOr s.data.toList 7 1) (getOr s.data.toList 8 2) (s.extract 10 s.size) 0 0).1 ≠ s) : Calls Tryz.prog 105 #[.string s] w fun e w' => e = .returned (.tuple #[.agg (entC 0 0 0 0 0 ⟨#[]⟩ 0 0), .int .i64 6]) ∧ Below w.heap.size w w' := by
  have e0 : (s.toList == []) = false := by have := full s h0; cases hl : s.toList with | nil => (rw [hl] at this; exact absurd this (by decide)) | cons => rfl
  have e1 : wrap64 (s[0].toNat : Int) = 1 := by rw [hk]; unfold wrap64; omega
  have f1 : ¬ ((s.size : Int) < 10) := by omega
  have f2 : (5 : Int) ≤ s.size := by omega
  have f3 : (7 : Int) ≤ s.size := by omega
  have f4 : (10 : Int) ≤ s.size := by omega
  have f5 : (7 : Int) < s.size := by omega
  have f6 : (8 : Int) ≤ s.size := by omega
  have e7 : IntKind.i64.wrap (s[7].toNat : Int) = (getOr s.data.toList 7 1 : Nat) := by have := s[7].toNat_lt; rw [byte_at s 7 (by omega), Go.IntWalk.i64_in _ (by omega)]
  have HN1 := hid fun (V : World) => narrow_at s 1 4 5 rfl (by omega) (by decide) V
  have HN5 := hid fun (V : World) => narrow_at s 5 2 7 rfl (by omega) (by decide) V
  have HN8 := hid fun (V : World) => narrow_at s 8 2 10 rfl (by omega) (by decide) V
  have HE := hid fun (V : World) => refenc_any 1 (getOr s.data.toList 1 4) (getOr s.data.toList 5 2) (getOr s.data.toList 7 1) (getOr s.data.toList 8 2) (s.extract 10 s.size) 0 0 V (by decide) (by decide)
  generalize getOr s.data.toList 1 4 = tx at *
  generalize getOr s.data.toList 5 2 = ix at *
  generalize getOr s.data.toList 7 1 = pk at *
  generalize getOr s.data.toList 8 2 = pn at *
  generalize encR 1 tx ix pk pn (s.extract 10 s.size) 0 0 = r at *
  obtain ⟨r1, r2⟩ := r
  dsimp only at HE hq
  obtain ⟨rfl, hq⟩ := hq
  have e8 : (r1.toList == s.toList) = false := ba_other hq
  clear hk hq
  go_enter Tryz.func105, Tryz.ntmps105
  go_wp2_with fail
  refine (HN1.out _).mono ?_
  rintro e w1 ⟨rfl, rfl⟩
  go_wp2_with fail
  refine (HN5.out _).mono ?_
  rintro e w1 ⟨rfl, rfl⟩
  have y0 : ((w.alloc (.cells (entC 0 0 0 0 0 ⟨#[]⟩ 0 0) 84)).alloc (.cells (entC 1 tx ix 0 0 ⟨#[]⟩ 0 0) 84)).cell? ⟨w.heap.size + 1, 0, none⟩ = some (.int .i64 1) := by rw [cell_of_row _ _ _ _ _ _ (second_at _ _ _)]; rfl
  go_wp2_with fail
  go_region_held3 (fun V => V.cell? ⟨w.heap.size + 1, 0, none⟩ = some (.int .i64 1)) (first | exact y0 | exact y1 | go_keep)
    (first
      | (go_at_call 104; with_reducible refine (HN8.out _).mono ?_; rintro e w1 ⟨rfl, rfl⟩; have y1 := y0)
      | fail)
  all_goals
    try rw [e7]
    clear e7 y0
    try clear y1
    have HXb := hid (show Below w.heap.size w (((w.alloc (.cells (entC 0 0 0 0 0 ⟨#[]⟩ 0 0) 84)).alloc (.cells (entC 1 tx ix pk pn (s.extract 10 s.size) 0 0) 84)).drew) from (((Below.refl w.heap.size w).alloc (Nat.le_refl _) _).alloc (by simp) _).drew)
    have HXs : w.heap.size + 1 < (((w.alloc (.cells (entC 0 0 0 0 0 ⟨#[]⟩ 0 0) 84)).alloc (.cells (entC 1 tx ix pk pn (s.extract 10 s.size) 0 0) 84)).drew).heap.size := by show _ < ((w.alloc _).alloc _).heap.size; simp
    have HX1 : (((w.alloc (.cells (entC 0 0 0 0 0 ⟨#[]⟩ 0 0) 84)).alloc (.cells (entC 1 tx ix pk pn (s.extract 10 s.size) 0 0) 84)).drew).heap[w.heap.size + 1]? = some (.cells (entC 1 tx ix pk pn (s.extract 10 s.size) 0 0) 84 (0, 0)) := second_at _ _ _
    have HX0 : (((w.alloc (.cells (entC 0 0 0 0 0 ⟨#[]⟩ 0 0) 84)).alloc (.cells (entC 1 tx ix pk pn (s.extract 10 s.size) 0 0) 84)).drew).heap[w.heap.size]? = some (.cells (entC 0 0 0 0 0 ⟨#[]⟩ 0 0) 84 (0, 0)) := (((Below.refl (w.alloc (.cells (entC 0 0 0 0 0 ⟨#[]⟩ 0 0) 84)).heap.size (w.alloc (.cells (entC 0 0 0 0 0 ⟨#[]⟩ 0 0) 84))).alloc (Nat.le_refl _) _).block w.heap.size (by simp)).trans (heap_alloc_new _ _)
    generalize (((w.alloc (.cells (entC 0 0 0 0 0 ⟨#[]⟩ 0 0) 84)).alloc (.cells (entC 1 tx ix pk pn (s.extract 10 s.size) 0 0) 84)).drew) = X at HXb HXs HX0 HX1 ⊢
    obtain ⟨d0, d1, d2, d3, d4, d5, d6, d7⟩ := ent_at HX1
    go_wp2_with fail
    refine (HE.out _).mono ?_
    rintro e w2 ⟨rfl, hb⟩
    have HB := hid (HXb.out.trans (hb.mono (by omega)))
    have HZ := hid (show w2.heap[w.heap.size]? = some (.cells (entC 0 0 0 0 0 ⟨#[]⟩ 0 0) 84 (0, 0)) from (hb.block w.heap.size (by omega)).trans HX0)
    obtain ⟨p0, p1, p2, p3, p4, p5, p6, p7⟩ := ent_at (show w2.heap[w.heap.size + 1]? = some (.cells (entC 1 tx ix pk pn (s.extract 10 s.size) 0 0) 84 (0, 0)) from (hb.block (w.heap.size + 1) HXs).trans HX1)
    clear hb d0 d1 d2 d3 d4 d5 d6 d7 HX0 HX1 HXs
    go_wp2_with (first | (refine wpList_store_whole rfl 84 (.tmp 2) (.tmp 74) (by with_reducible rfl) rfl w.heap.size (entC 0 0 0 0 0 ⟨#[]⟩ 0 0) (by rfl) (by rfl) 84 (entC 0 0 0 0 0 ⟨#[]⟩ 0 0) HZ.out infoR (by rfl) (oneC _ _ _ _ _ _ _ _) ?_))
    obtain ⟨q0, q1, q2, q3, q4, q5, q6, q7⟩ := ent_at (setRow_heap _ _ _ (entC 0 0 0 0 0 ⟨#[]⟩ 0 0) _ _ HZ.out)
    refine bodyPost_ret (v := .tuple #[.agg (entC 0 0 0 0 0 ⟨#[]⟩ 0 0), .int .i64 6]) (by simp [results, Tryz.results105, go_sem, q0, q1, q2, q3, q4, q5, q6, q7]) rfl ⟨rfl, ?_⟩
    exact below_setRow HB.out (Nat.le_refl _) _
set_option maxRecDepth 100000 in
set_option maxHeartbeats 4000000 in
theorem refdec_stageC (s : ByteArray) (w : World) (h0 : 0 < s.size) (hk : s[0].toNat = 1) (hn : 10 ≤ s.size) (hs : s.size ≤ 300) (hq : (encR 1 (getOr s.data.toList 1 4) (getOr s.data.toList 5 2) (getOr s.data.toList 7 1) (getOr s.data.toList 8 2) (s.extract 10 s.size) 0 0).2 = 0 ∧ (encR 1 (getOr s.data.toList 1 4) (getOr s.data.toList 5 2) (getOr s.data.toList 7 1) (getOr s.data.toList 8 2) (s.extract 10 s.size) 0 0).1 = s) : Calls Tryz.prog 105 #[.string s] w fun e w' => e = .returned (.tuple #[.agg (entC 1 (getOr s.data.toList 1 4) (getOr s.data.toList 5 2) (getOr s.data.toList 7 1) (getOr s.data.toList 8 2) (s.extract 10 s.size) 0 0), .int .i64 0]) ∧ Below w.heap.size w w' := by
  have e0 : (s.toList == []) = false := by have := full s h0; cases hl : s.toList with | nil => (rw [hl] at this; exact absurd this (by decide)) | cons => rfl
  have e1 : wrap64 (s[0].toNat : Int) = 1 := by rw [hk]; unfold wrap64; omega
  have f1 : ¬ ((s.size : Int) < 10) := by omega
  have f2 : (5 : Int) ≤ s.size := by omega
  have f3 : (7 : Int) ≤ s.size := by omega
  have f4 : (10 : Int) ≤ s.size := by omega
  have f5 : (7 : Int) < s.size := by omega
  have f6 : (8 : Int) ≤ s.size := by omega
  have e7 : IntKind.i64.wrap (s[7].toNat : Int) = (getOr s.data.toList 7 1 : Nat) := by have := s[7].toNat_lt; rw [byte_at s 7 (by omega), Go.IntWalk.i64_in _ (by omega)]
  have HN1 := hid fun (V : World) => narrow_at s 1 4 5 rfl (by omega) (by decide) V
  have HN5 := hid fun (V : World) => narrow_at s 5 2 7 rfl (by omega) (by decide) V
  have HN8 := hid fun (V : World) => narrow_at s 8 2 10 rfl (by omega) (by decide) V
  have HE := hid fun (V : World) => refenc_any 1 (getOr s.data.toList 1 4) (getOr s.data.toList 5 2) (getOr s.data.toList 7 1) (getOr s.data.toList 8 2) (s.extract 10 s.size) 0 0 V (by decide) (by decide)
  generalize getOr s.data.toList 1 4 = tx at *
  generalize getOr s.data.toList 5 2 = ix at *
  generalize getOr s.data.toList 7 1 = pk at *
  generalize getOr s.data.toList 8 2 = pn at *
  generalize encR 1 tx ix pk pn (s.extract 10 s.size) 0 0 = r at *
  obtain ⟨r1, r2⟩ := r
  dsimp only at HE hq
  obtain ⟨rfl, hq⟩ := hq
  have e8 : (r1.toList == s.toList) = true := by rw [hq]; simp
  clear hk hq
  go_enter Tryz.func105, Tryz.ntmps105
  go_wp2_with fail
  refine (HN1.out _).mono ?_
  rintro e w1 ⟨rfl, rfl⟩
  go_wp2_with fail
  refine (HN5.out _).mono ?_
  rintro e w1 ⟨rfl, rfl⟩
  have y0 : ((w.alloc (.cells (entC 0 0 0 0 0 ⟨#[]⟩ 0 0) 84)).alloc (.cells (entC 1 tx ix 0 0 ⟨#[]⟩ 0 0) 84)).cell? ⟨w.heap.size + 1, 0, none⟩ = some (.int .i64 1) := by rw [cell_of_row _ _ _ _ _ _ (second_at _ _ _)]; rfl
  go_wp2_with fail
  go_region_held3 (fun V => V.cell? ⟨w.heap.size + 1, 0, none⟩ = some (.int .i64 1)) (first | exact y0 | exact y1 | go_keep)
    (first
      | (go_at_call 104; with_reducible refine (HN8.out _).mono ?_; rintro e w1 ⟨rfl, rfl⟩; have y1 := y0)
      | fail)
  all_goals
    try rw [e7]
    clear e7 y0
    try clear y1
    have HXb := hid (show Below w.heap.size w (((w.alloc (.cells (entC 0 0 0 0 0 ⟨#[]⟩ 0 0) 84)).alloc (.cells (entC 1 tx ix pk pn (s.extract 10 s.size) 0 0) 84)).drew) from (((Below.refl w.heap.size w).alloc (Nat.le_refl _) _).alloc (by simp) _).drew)
    have HXs : w.heap.size + 1 < (((w.alloc (.cells (entC 0 0 0 0 0 ⟨#[]⟩ 0 0) 84)).alloc (.cells (entC 1 tx ix pk pn (s.extract 10 s.size) 0 0) 84)).drew).heap.size := by show _ < ((w.alloc _).alloc _).heap.size; simp
    have HX1 : (((w.alloc (.cells (entC 0 0 0 0 0 ⟨#[]⟩ 0 0) 84)).alloc (.cells (entC 1 tx ix pk pn (s.extract 10 s.size) 0 0) 84)).drew).heap[w.heap.size + 1]? = some (.cells (entC 1 tx ix pk pn (s.extract 10 s.size) 0 0) 84 (0, 0)) := second_at _ _ _
    have HX0 : (((w.alloc (.cells (entC 0 0 0 0 0 ⟨#[]⟩ 0 0) 84)).alloc (.cells (entC 1 tx ix pk pn (s.extract 10 s.size) 0 0) 84)).drew).heap[w.heap.size]? = some (.cells (entC 0 0 0 0 0 ⟨#[]⟩ 0 0) 84 (0, 0)) := (((Below.refl (w.alloc (.cells (entC 0 0 0 0 0 ⟨#[]⟩ 0 0) 84)).heap.size (w.alloc (.cells (entC 0 0 0 0 0 ⟨#[]⟩ 0 0) 84))).alloc (Nat.le_refl _) _).block w.heap.size (by simp)).trans (heap_alloc_new _ _)
    generalize (((w.alloc (.cells (entC 0 0 0 0 0 ⟨#[]⟩ 0 0) 84)).alloc (.cells (entC 1 tx ix pk pn (s.extract 10 s.size) 0 0) 84)).drew) = X at HXb HXs HX0 HX1 ⊢
    obtain ⟨d0, d1, d2, d3, d4, d5, d6, d7⟩ := ent_at HX1
    go_wp2_with fail
    refine (HE.out _).mono ?_
    rintro e w2 ⟨rfl, hb⟩
    have HB := hid (HXb.out.trans (hb.mono (by omega)))
    have HZ := hid (show w2.heap[w.heap.size]? = some (.cells (entC 0 0 0 0 0 ⟨#[]⟩ 0 0) 84 (0, 0)) from (hb.block w.heap.size (by omega)).trans HX0)
    obtain ⟨p0, p1, p2, p3, p4, p5, p6, p7⟩ := ent_at (show w2.heap[w.heap.size + 1]? = some (.cells (entC 1 tx ix pk pn (s.extract 10 s.size) 0 0) 84 (0, 0)) from (hb.block (w.heap.size + 1) HXs).trans HX1)
    clear hb d0 d1 d2 d3 d4 d5 d6 d7 HX0 HX1 HXs
    go_wp2_with (first | (refine wpList_store_whole rfl 84 (.tmp 2) (.tmp 75) (by with_reducible rfl) rfl w.heap.size (entC 1 tx ix pk pn (s.extract 10 s.size) 0 0) (by rfl) (by rfl) 84 (entC 0 0 0 0 0 ⟨#[]⟩ 0 0) HZ.out infoR (by rfl) (oneC _ _ _ _ _ _ _ _) ?_))
    obtain ⟨q0, q1, q2, q3, q4, q5, q6, q7⟩ := ent_at (setRow_heap _ _ _ (entC 1 tx ix pk pn (s.extract 10 s.size) 0 0) _ _ HZ.out)
    refine bodyPost_ret (v := .tuple #[.agg (entC 1 tx ix pk pn (s.extract 10 s.size) 0 0), .int .i64 0]) (by simp [results, Tryz.results105, go_sem, q0, q1, q2, q3, q4, q5, q6, q7]) rfl ⟨rfl, ?_⟩
    exact below_setRow HB.out (Nat.le_refl _) _
end Go.Proofs.YtgihpdhkjneimaaGreatDoor.En

/- Both Decodes answer the same, whatever text of at most 300 bytes. -/
namespace Go.Proofs.YtgihpdhkjneimaaGreatDoor.En
open Go.RowKit
open Go.Lib (hid)
open Go.Proofs.YtgihpdhkjneimaaGreatDoor.Fd (be be_length num getAt)

/-- what both Decodes answer to a text -/
def Both (s : ByteArray) (kd tx ix pk pn : Int) (b : ByteArray) (ct sm c : Int) : Prop :=
  (∀ V : World, Lst V → Calls Tryz.prog 101 #[.string s] V fun e w' => e = .returned (.tuple #[.agg (entC kd tx ix pk pn b ct sm), .int .i64 c]) ∧ Below V.heap.size V w') ∧
  (∀ V : World, Calls Tryz.prog 105 #[.string s] V fun e w' => e = .returned (.tuple #[.agg (entC kd tx ix pk pn b ct sm), .int .i64 c]) ∧ Below V.heap.size V w')
theorem enc_three (kd tx ix pk pn : Int) (b : ByteArray) (ct sm : Int) (s : ByteArray) (h : 0 < s.size) :
    ((encR kd tx ix pk pn b ct sm).2 = 1 ∧ (encR kd tx ix pk pn b ct sm).1 ≠ s) ∨ ((encR kd tx ix pk pn b ct sm).2 = 0 ∧ (encR kd tx ix pk pn b ct sm).1 ≠ s) ∨ ((encR kd tx ix pk pn b ct sm).2 = 0 ∧ (encR kd tx ix pk pn b ct sm).1 = s) := by
  by_cases hm : mayE kd tx ix pk pn b ct sm
  · have h2 : (encR kd tx ix pk pn b ct sm).2 = 0 := by rw [encR_yes hm]
    by_cases h1 : (encR kd tx ix pk pn b ct sm).1 = s
    · exact .inr (.inr ⟨h2, h1⟩)
    · exact .inr (.inl ⟨h2, h1⟩)
  · left
    rw [encR_no hm]
    refine ⟨rfl, fun h1 => ?_⟩
    have h1' : (⟨#[]⟩ : ByteArray) = s := h1
    rw [← h1'] at h; exact absurd h (by decide)
theorem body_at (s : ByteArray) : s.extract 10 s.size = ⟨(getAt s.data.toList 10 (s.size - 10)).toArray⟩ := by
  apply ByteArray.ext
  rw [← Array.toList_inj, ex_list]
  rfl
theorem no_size {s : ByteArray} (h : ¬ 0 < s.size) : s = ⟨#[]⟩ := by
  apply ByteArray.ext
  apply Array.eq_empty_of_size_eq_zero
  show s.size = 0
  omega
theorem both_far (s : ByteArray) (hs : s.size ≤ 300) (h0 : 0 < s.size) (hC : ∀ V : World, Lst V → Calls Tryz.prog 134 #[.string s] V fun e w' => e = .returned (.bool false) ∧ w' = V) (g1 : s[0].toNat ≠ 1) (g2 : s[0].toNat ≠ 2) (g3 : s[0].toNat ≠ 3) : Both s 0 0 0 0 0 ⟨#[]⟩ 0 0 6 := by
  have hk := first_at s h0
  refine ⟨fun V hL => ?_, fun V => refdec_far s _ V h0 rfl g1 g2 g3⟩
  obtain ⟨kd, tx, ix, pk, pn, b, ct, sm, hr⟩ := rd_ex s (by omega)
  refine decode_bad s kd tx ix pk pn b ct sm V (by omega) hr hC hL ?_
  have hkd : kd = (getOr s.data.toList 0 1 : Nat) := hr.2.2.1
  have hm : ¬ mayE kd tx ix pk pn b ct sm := by
    rintro ⟨-, -, -, -, h | h | h⟩
    · have := h.1; omega
    · have := h.1; omega
    · have := h.1; omega
  rw [encR_no hm]
  intro h1
  have h1' : (⟨#[]⟩ : ByteArray) = s := h1
  rw [← h1'] at h0; exact absurd h0 (by decide)
theorem both_1 (s : ByteArray) (hs : s.size ≤ 300) (h0 : 0 < s.size) (hk : s[0].toNat = 1) : ∃ kd tx ix pk pn b ct sm c, 0 ≤ sm ∧ sm < 4294967296 ∧ Both s kd tx ix pk pn b ct sm c := by
  by_cases hn : s.size < 10
  · refine ⟨0, 0, 0, 0, 0, ⟨#[]⟩, 0, 0, 9, by decide, by decide, fun V hL => decode_cut s V (fun X hX => ?_) hL, fun V => refdec_cut1 s V h0 hk hn⟩
    have h2 := cut_k s 1 10 X h0 hk (by decide) hX.c1
    rw [show decide (s.size < 10) = true by simpa using hn] at h2
    exact h2
  · have hC : ∀ X : World, Lst X → Calls Tryz.prog 134 #[.string s] X fun e w' => e = .returned (.bool false) ∧ w' = X := fun X hX => by
      have h2 := cut_k s 1 10 X h0 hk (by decide) hX.c1
      rw [show decide (s.size < 10) = false by simpa using hn] at h2
      exact h2
    have hf := first_at s h0
    have hr : Rd s 1 (getOr s.data.toList 1 4) (getOr s.data.toList 5 2) (getOr s.data.toList 7 1) (getOr s.data.toList 8 2) (s.extract 10 s.size) 0 0 := ⟨rfl, rfl, by rw [hf, hk]; rfl, .inl ⟨rfl, by omega, rfl, rfl, body_at s, rfl, rfl⟩⟩
    rcases enc_three 1 (getOr s.data.toList 1 4) (getOr s.data.toList 5 2) (getOr s.data.toList 7 1) (getOr s.data.toList 8 2) (s.extract 10 s.size) 0 0 s h0 with ⟨h1, h2⟩ | ⟨h1, h2⟩ | ⟨h1, h2⟩
    · exact ⟨0, 0, 0, 0, 0, ⟨#[]⟩, 0, 0, 6, by decide, by decide, fun V hL => decode_bad s _ _ _ _ _ _ _ _ V (by omega) hr hC hL h2, fun V => refdec_stageA s V h0 hk (by omega) hs h1⟩
    · exact ⟨0, 0, 0, 0, 0, ⟨#[]⟩, 0, 0, 6, by decide, by decide, fun V hL => decode_bad s _ _ _ _ _ _ _ _ V (by omega) hr hC hL h2, fun V => refdec_stageB s V h0 hk (by omega) hs ⟨h1, h2⟩⟩
    · exact ⟨_, _, _, _, _, _, _, _, 0, hr.fit.2.1, hr.fit.2.2, fun V hL => decode_ok s _ _ _ _ _ _ _ _ V (by omega) hr hC hL h2, fun V => refdec_stageC s V h0 hk (by omega) hs ⟨h1, h2⟩⟩
theorem both_2 (s : ByteArray) (hs : s.size ≤ 300) (h0 : 0 < s.size) (hk : s[0].toNat = 2) : ∃ kd tx ix pk pn b ct sm c, 0 ≤ sm ∧ sm < 4294967296 ∧ Both s kd tx ix pk pn b ct sm c := by
  by_cases hn : s.size < 13
  · refine ⟨0, 0, 0, 0, 0, ⟨#[]⟩, 0, 0, 9, by decide, by decide, fun V hL => decode_cut s V (fun X hX => ?_) hL, fun V => refdec_cut2 s V h0 hk hn⟩
    have h2 := cut_k s 2 13 X h0 hk (by decide) hX.c2
    rw [show decide (s.size < 13) = true by simpa using hn] at h2
    exact h2
  · have hC : ∀ X : World, Lst X → Calls Tryz.prog 134 #[.string s] X fun e w' => e = .returned (.bool false) ∧ w' = X := fun X hX => by
      have h2 := cut_k s 2 13 X h0 hk (by decide) hX.c2
      rw [show decide (s.size < 13) = false by simpa using hn] at h2
      exact h2
    have hf := first_at s h0
    have hr : Rd s 2 (getOr s.data.toList 1 4) (getOr s.data.toList 5 2) 0 0 ⟨#[]⟩ (getOr s.data.toList 7 2) (getOr s.data.toList 9 4) := ⟨rfl, rfl, by rw [hf, hk]; rfl, .inr (.inl ⟨rfl, rfl, rfl, rfl, rfl, rfl⟩)⟩
    rcases enc_three 2 (getOr s.data.toList 1 4) (getOr s.data.toList 5 2) 0 0 ⟨#[]⟩ (getOr s.data.toList 7 2) (getOr s.data.toList 9 4) s h0 with ⟨h1, h2⟩ | ⟨h1, h2⟩ | ⟨h1, h2⟩
    · exact ⟨0, 0, 0, 0, 0, ⟨#[]⟩, 0, 0, 6, by decide, by decide, fun V hL => decode_bad s _ _ _ _ _ _ _ _ V (by omega) hr hC hL h2, fun V => refdec_commitA s V h0 hk (by omega) hs h1⟩
    · exact ⟨0, 0, 0, 0, 0, ⟨#[]⟩, 0, 0, 6, by decide, by decide, fun V hL => decode_bad s _ _ _ _ _ _ _ _ V (by omega) hr hC hL h2, fun V => refdec_commitB s V h0 hk (by omega) hs ⟨h1, h2⟩⟩
    · exact ⟨_, _, _, _, _, _, _, _, 0, hr.fit.2.1, hr.fit.2.2, fun V hL => decode_ok s _ _ _ _ _ _ _ _ V (by omega) hr hC hL h2, fun V => refdec_commitC s V h0 hk (by omega) hs ⟨h1, h2⟩⟩
theorem both_3 (s : ByteArray) (hs : s.size ≤ 300) (h0 : 0 < s.size) (hk : s[0].toNat = 3) : ∃ kd tx ix pk pn b ct sm c, 0 ≤ sm ∧ sm < 4294967296 ∧ Both s kd tx ix pk pn b ct sm c := by
  by_cases hn : s.size < 7
  · refine ⟨0, 0, 0, 0, 0, ⟨#[]⟩, 0, 0, 9, by decide, by decide, fun V hL => decode_cut s V (fun X hX => ?_) hL, fun V => refdec_cut3 s V h0 hk hn⟩
    have h2 := cut_k s 3 7 X h0 hk (by decide) hX.c3
    rw [show decide (s.size < 7) = true by simpa using hn] at h2
    exact h2
  · have hC : ∀ X : World, Lst X → Calls Tryz.prog 134 #[.string s] X fun e w' => e = .returned (.bool false) ∧ w' = X := fun X hX => by
      have h2 := cut_k s 3 7 X h0 hk (by decide) hX.c3
      rw [show decide (s.size < 7) = false by simpa using hn] at h2
      exact h2
    have hf := first_at s h0
    have hr : Rd s 3 (getOr s.data.toList 1 4) (getOr s.data.toList 5 2) 0 0 ⟨#[]⟩ 0 0 := ⟨rfl, rfl, by rw [hf, hk]; rfl, .inr (.inr ⟨by decide, by decide, rfl, rfl, rfl, rfl, rfl⟩)⟩
    rcases enc_three 3 (getOr s.data.toList 1 4) (getOr s.data.toList 5 2) 0 0 ⟨#[]⟩ 0 0 s h0 with ⟨h1, h2⟩ | ⟨h1, h2⟩ | ⟨h1, h2⟩
    · exact ⟨0, 0, 0, 0, 0, ⟨#[]⟩, 0, 0, 6, by decide, by decide, fun V hL => decode_bad s _ _ _ _ _ _ _ _ V (by omega) hr hC hL h2, fun V => refdec_abortA s V h0 hk (by omega) hs h1⟩
    · exact ⟨0, 0, 0, 0, 0, ⟨#[]⟩, 0, 0, 6, by decide, by decide, fun V hL => decode_bad s _ _ _ _ _ _ _ _ V (by omega) hr hC hL h2, fun V => refdec_abortB s V h0 hk (by omega) hs ⟨h1, h2⟩⟩
    · exact ⟨_, _, _, _, _, _, _, _, 0, hr.fit.2.1, hr.fit.2.2, fun V hL => decode_ok s _ _ _ _ _ _ _ _ V (by omega) hr hC hL h2, fun V => refdec_abortC s V h0 hk (by omega) hs ⟨h1, h2⟩⟩
/-- both answer the same -/
theorem both_any (s : ByteArray) (hs : s.size ≤ 300) : ∃ kd tx ix pk pn b ct sm c, 0 ≤ sm ∧ sm < 4294967296 ∧ Both s kd tx ix pk pn b ct sm c := by
  by_cases h0 : 0 < s.size
  · by_cases g1 : s[0].toNat = 1
    · exact both_1 s hs h0 g1
    · by_cases g2 : s[0].toNat = 2
      · exact both_2 s hs h0 g2
      · by_cases g3 : s[0].toNat = 3
        · exact both_3 s hs h0 g3
        · refine ⟨0, 0, 0, 0, 0, ⟨#[]⟩, 0, 0, 6, by decide, by decide, both_far s hs h0 (fun X hX => ?_) g1 g2 g3⟩
          by_cases g4 : 4 ≤ s[0].toNat
          · exact cut_far s X h0 g4
          · have h2 := cut_k s 0 0 X h0 (by omega) (by decide) hX.c0
            rw [show decide (s.size < 0) = false by simp] at h2
            exact h2
  · obtain rfl := no_size h0
    exact ⟨0, 0, 0, 0, 0, ⟨#[]⟩, 0, 0, 9, by decide, by decide, fun V hL => decode_cut _ V (fun X _ => cut_nil X) hL, fun V => refdec_nil V⟩
end Go.Proofs.YtgihpdhkjneimaaGreatDoor.En

/- strings.Builder's contracts at this seat, each one application of the library's. -/
namespace Go.Proofs
open Go.Shelf
def Tryz.lbs166_ren : Go.Shelf.Ren := ⟨fun | 166 => 113 | 240 => 138 | 276 => 150 | n => n, fun | 0 => 0 | 3 => 3 | 4 => 4 | 5 => 5 | 9 => 9 | 20 => 20 | 37 => 121 | 70 => 157 | 72 => 159 | 75 => 161 | 80 => 74 | 164 => 192 | 127 => 176 | n => n, fun | n => n⟩
theorem Tryz.lbs166 : Go.Proofs.Lays.n166 Tryz.prog Tryz.lbs166_ren := {
  mixed := by kernel_rfl
  f166 := Tryz.func113.trans (congrArg some (by kernel_rfl))
  f240 := Tryz.func138.trans (congrArg some (by kernel_rfl))
  f276 := Tryz.func150.trans (congrArg some (by kernel_rfl))
  t0 := Tryz.underlying0
  a0 := Tryz.isAgg0
  z0 := Tryz.sizeOf0
  v0 := Tryz.zeroValue0
  t3 := Tryz.underlying3
  a3 := Tryz.isAgg3
  z3 := Tryz.sizeOf3
  v3 := Tryz.zeroValue3
  t4 := Tryz.underlying4
  a4 := Tryz.isAgg4
  z4 := Tryz.sizeOf4
  v4 := Tryz.zeroValue4
  t9 := Tryz.underlying9
  a9 := Tryz.isAgg9
  z9 := Tryz.sizeOf9
  v9 := Tryz.zeroValue9
  t20 := Tryz.underlying20
  a20 := Tryz.isAgg20
  z20 := Tryz.sizeOf20
  v20 := Tryz.zeroValue20
  t37 := Tryz.underlying121
  a37 := Tryz.isAgg121
  z37 := Tryz.sizeOf121
  v37 := Tryz.zeroValue121
  t70 := Tryz.underlying157
  a70 := Tryz.isAgg157
  z70 := Tryz.sizeOf157
  v70 := Tryz.zeroValue157
  t72 := Tryz.underlying159
  a72 := Tryz.isAgg159
  z72 := Tryz.sizeOf159
  v72 := Tryz.zeroValue159
  t75 := Tryz.underlying161
  a75 := Tryz.isAgg161
  z75 := Tryz.sizeOf161
  v75 := Tryz.zeroValue161
  t164 := Tryz.underlying192
  a164 := Tryz.isAgg192
  z164 := Tryz.sizeOf192
  v164 := Tryz.zeroValue192 }
theorem Tryz.Bld_Extra_166 : Builder.Extra Tryz.prog Tryz.lbs166_ren := {
  sizeBuilder := by kernel_rfl
  liesBuilder := by kernel_rfl
  t5 := Tryz.underlying5
  a5 := Tryz.isAgg5
  z5 := Tryz.sizeOf5
  v5 := Tryz.zeroValue5
  infoByte := by kernel_rfl
  cellsByte := by kernel_rfl
  sizeByte := by kernel_rfl
  neB5 := by decide }
def Tryz.lbs169_ren : Go.Shelf.Ren := ⟨fun | 169 => 115 | n => n, fun | 0 => 0 | 3 => 3 | 4 => 4 | 5 => 5 | 9 => 9 | 20 => 20 | 37 => 121 | 70 => 157 | 72 => 159 | 75 => 161 | 80 => 74 | 164 => 192 | 127 => 176 | n => n, fun | n => n⟩
theorem Tryz.lbs169 : Go.Proofs.Lays.n169 Tryz.prog Tryz.lbs169_ren := {
  mixed := by kernel_rfl
  f169 := Tryz.func115.trans (congrArg some (by kernel_rfl))
  t0 := Tryz.underlying0
  a0 := Tryz.isAgg0
  z0 := Tryz.sizeOf0
  v0 := Tryz.zeroValue0
  t3 := Tryz.underlying3
  a3 := Tryz.isAgg3
  z3 := Tryz.sizeOf3
  v3 := Tryz.zeroValue3
  t9 := Tryz.underlying9
  a9 := Tryz.isAgg9
  z9 := Tryz.sizeOf9
  v9 := Tryz.zeroValue9
  t37 := Tryz.underlying121
  a37 := Tryz.isAgg121
  z37 := Tryz.sizeOf121
  v37 := Tryz.zeroValue121
  t70 := Tryz.underlying157
  a70 := Tryz.isAgg157
  z70 := Tryz.sizeOf157
  v70 := Tryz.zeroValue157
  t72 := Tryz.underlying159
  a72 := Tryz.isAgg159
  z72 := Tryz.sizeOf159
  v72 := Tryz.zeroValue159
  t127 := Tryz.underlying176
  a127 := Tryz.isAgg176
  z127 := Tryz.sizeOf176
  v127 := Tryz.zeroValue176 }
theorem Tryz.Bld_Extra_169 : Builder.Extra Tryz.prog Tryz.lbs169_ren := {
  sizeBuilder := by kernel_rfl
  liesBuilder := by kernel_rfl
  t5 := Tryz.underlying5
  a5 := Tryz.isAgg5
  z5 := Tryz.sizeOf5
  v5 := Tryz.zeroValue5
  infoByte := by kernel_rfl
  cellsByte := by kernel_rfl
  sizeByte := by kernel_rfl
  neB5 := by decide }
open Go.RowKit in
theorem Tryz.bld_write (B b : Nat) (bs : List Value) (s : ByteArray) (w : World) (h : Lib.IsBuilder 159 5 B b bs w) (hlen : bs.length + s.size ≤ 140737488355328) (hBw : B ≤ w.heap.size) :
    Calls Tryz.prog 113 #[.pointer (some ⟨b, 0, none⟩), .string s] w fun e w' => e = .returned (.tuple #[.int .i64 s.size, .nilIface]) ∧ (Lib.BuilderAt 159 5 B b (.pointer (some ⟨b, 0, none⟩)) (bs ++ Lib.strCells s) w' ∧ Below B w w') := Any.Builder_WriteString Tryz.lbs166 Tryz.Bld_Extra_166 B b bs s w h hlen hBw
open Go.RowKit in
theorem Tryz.bld_text (B b : Nat) (l : List UInt8) (w : World) (h : Lib.IsBuilder 159 5 B b (Lib.byteCells l) w) (hBw : B ≤ w.heap.size) :
    Calls Tryz.prog 115 #[.pointer (some ⟨b, 0, none⟩)] w fun e w' => e = .returned (.string ⟨l.toArray⟩) ∧ Below B w w' := Any.Builder_String_any Tryz.lbs169 Tryz.Bld_Extra_169 B b l w h hBw
end Go.Proofs
