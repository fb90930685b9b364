/- The document's own Decode: what it answers to a text. -/
import Derived.Test.YtigaddpjmgncmaaDoorEnRefE
namespace Go.Proofs.YtigaddpjmgncmaaDoor.En
open Go.RowKit
open Go.Lib (hid)
open Go.Proofs.YtigaddpjmgncmaaDoor.Fd (be be_length num getAt)
open Go.Proofs.YtigaddpjmgncmaaDoor.Sm (wpList_store_whole)

open Classical in
theorem refenc_any (kd tx ix pk pn : Int) (b : ByteArray) (ct sm : Int) (w : World) (hs : 0 ≤ sm) (hs2 : sm < 4294967296) :
    Calls Tryd.prog 11 #[.agg (entC kd tx ix pk pn b ct sm)] w fun e w' => e = .returned (.tuple #[.string (encR kd tx ix pk pn b ct sm).1, .int .i64 (encR kd tx ix pk pn b ct sm).2]) ∧ Below w.heap.size w w' := by
  by_cases h : mayE kd tx ix pk pn b ct sm
  · rw [encR_yes h]
    rcases may_kinds hs h with ⟨T, I, K, N, rfl, rfl, rfl, rfl, rfl, rfl, rfl⟩ | ⟨T, I, S, rfl, rfl, rfl, rfl, rfl, rfl, rfl, rfl⟩ | ⟨T, I, rfl, rfl, rfl, rfl, rfl, rfl, rfl, rfl⟩
    · exact refenc_stage T I K N b w h
    · exact refenc_commit T I I S (by omega) w h
    · exact refenc_abort T I w h
  · rw [encR_no h]
    exact refenc_no kd tx ix pk pn ct sm b w h
theorem cut_at {s : ByteArray} {o wd e : Nat} (he : e = o + wd) (h : e ≤ s.size) : num (s.extract o e).data.toList = getOr s.data.toList o wd := by
  subst he
  have hl : s.data.toList.length = s.size := size_list s
  rw [ex_list, show o + wd - o = wd by omega]
  unfold getOr
  rw [if_pos (by omega)]
  rfl
theorem narrow_at (s : ByteArray) (o wd e : Nat) (he : e = o + wd) (h : e ≤ s.size) (hw : wd ≤ 4) (w : World) :
    Calls Tryd.prog 31 #[.string (s.extract o e)] w fun x w' => x = .returned (.int .i64 (getOr s.data.toList o wd : Int)) ∧ w = w' := by
  have h2 := narrow_any (s.extract o e) w (by rw [ByteArray.size_extract]; omega)
  rw [cut_at he h] at h2
  exact h2
theorem first_at (s : ByteArray) (h : 0 < s.size) : getOr s.data.toList 0 1 = s[0].toNat := by
  have hl : s.data.toList.length = s.size := size_list s
  unfold getOr
  rw [if_pos (by omega)]
  have : getAt s.data.toList 0 1 = [s[0]] := by
    show (s.data.toList.drop 0).take 1 = [s[0]]
    have h2 := take_snocS s 0 h
    simpa using h2
  rw [this]; simp [num]
set_option maxHeartbeats 1000000 in
theorem refdec_nil (w : World) : Calls Tryd.prog 17 #[.string ⟨#[]⟩] w fun e w' => e = .returned (.tuple #[.agg (entC 0 0 0 0 0 ⟨#[]⟩ 0 0), .int .i64 9]) ∧ Below w.heap.size w w' := by
  go_enter Tryd.func17, Tryd.ntmps17
  go_wp2_with fail
  refine bodyPost_ret (v := .tuple #[.agg (entC 0 0 0 0 0 ⟨#[]⟩ 0 0), .int .i64 9]) (by simp [results, Tryd.results17, go_sem]) rfl ⟨rfl, ?_⟩
  exact (Below.refl _ _).alloc (Nat.le_refl _) _
set_option maxRecDepth 100000 in
set_option maxHeartbeats 2000000 in
theorem refdec_far (s : ByteArray) (k : Nat) (w : World) (h0 : 0 < s.size) (hk : s[0].toNat = k) (g1 : k ≠ 1) (g2 : k ≠ 2) (g3 : k ≠ 3) : Calls Tryd.prog 17 #[.string s] w fun e w' => e = .returned (.tuple #[.agg (entC 0 0 0 0 0 ⟨#[]⟩ 0 0), .int .i64 6]) ∧ Below w.heap.size w w' := by
  have hk2 : k < 256 := by rw [← hk]; exact s[0].toNat_lt
  have e0 : (s.toList == []) = false := by have := full s h0; cases hl : s.toList with | nil => (rw [hl] at this; exact absurd this (by decide)) | cons => rfl
  have e1 : wrap64 (s[0].toNat : Int) = (k : Int) := by rw [hk]; unfold wrap64; omega
  have f1 : ((k : Int) == 1) = false := by simp; omega
  have f2 : ((k : Int) == 2) = false := by simp; omega
  have f3 : ((k : Int) == 3) = false := by simp; omega
  clear hk g1 g2 g3
  go_enter Tryd.func17, Tryd.ntmps17
  go_wp2_with fail
  refine bodyPost_ret (v := .tuple #[.agg (entC 0 0 0 0 0 ⟨#[]⟩ 0 0), .int .i64 6]) (by simp [results, Tryd.results17, go_sem]) rfl ⟨rfl, ?_⟩
  exact ((Below.refl _ _).alloc (Nat.le_refl _) _).alloc (by simp) _
set_option maxRecDepth 100000 in
set_option maxHeartbeats 2000000 in
theorem refdec_cut1 (s : ByteArray) (w : World) (h0 : 0 < s.size) (hk : s[0].toNat = 1) (hn : s.size < 10) : Calls Tryd.prog 17 #[.string s] w fun e w' => e = .returned (.tuple #[.agg (entC 0 0 0 0 0 ⟨#[]⟩ 0 0), .int .i64 9]) ∧ Below w.heap.size w w' := by
  have e0 : (s.toList == []) = false := by have := full s h0; cases hl : s.toList with | nil => (rw [hl] at this; exact absurd this (by decide)) | cons => rfl
  have e1 : wrap64 (s[0].toNat : Int) = 1 := by rw [hk]; unfold wrap64; omega
  have f1 : (s.size : Int) < 10 := by omega
  clear hk
  go_enter Tryd.func17, Tryd.ntmps17
  go_wp2_with fail
  refine bodyPost_ret (v := .tuple #[.agg (entC 0 0 0 0 0 ⟨#[]⟩ 0 0), .int .i64 9]) (by simp [results, Tryd.results17, go_sem]) rfl ⟨rfl, ?_⟩
  exact ((Below.refl _ _).alloc (Nat.le_refl _) _).alloc (by simp) _
set_option maxRecDepth 100000 in
set_option maxHeartbeats 2000000 in
theorem refdec_cut2 (s : ByteArray) (w : World) (h0 : 0 < s.size) (hk : s[0].toNat = 2) (hn : s.size < 13) : Calls Tryd.prog 17 #[.string s] w fun e w' => e = .returned (.tuple #[.agg (entC 0 0 0 0 0 ⟨#[]⟩ 0 0), .int .i64 9]) ∧ Below w.heap.size w w' := by
  have e0 : (s.toList == []) = false := by have := full s h0; cases hl : s.toList with | nil => (rw [hl] at this; exact absurd this (by decide)) | cons => rfl
  have e1 : wrap64 (s[0].toNat : Int) = 2 := by rw [hk]; unfold wrap64; omega
  have f1 : (s.size : Int) < 13 := by omega
  clear hk
  go_enter Tryd.func17, Tryd.ntmps17
  go_wp2_with fail
  refine bodyPost_ret (v := .tuple #[.agg (entC 0 0 0 0 0 ⟨#[]⟩ 0 0), .int .i64 9]) (by simp [results, Tryd.results17, go_sem]) rfl ⟨rfl, ?_⟩
  exact ((Below.refl _ _).alloc (Nat.le_refl _) _).alloc (by simp) _
set_option maxRecDepth 100000 in
set_option maxHeartbeats 2000000 in
theorem refdec_cut3 (s : ByteArray) (w : World) (h0 : 0 < s.size) (hk : s[0].toNat = 3) (hn : s.size < 7) : Calls Tryd.prog 17 #[.string s] w fun e w' => e = .returned (.tuple #[.agg (entC 0 0 0 0 0 ⟨#[]⟩ 0 0), .int .i64 9]) ∧ Below w.heap.size w w' := by
  have e0 : (s.toList == []) = false := by have := full s h0; cases hl : s.toList with | nil => (rw [hl] at this; exact absurd this (by decide)) | cons => rfl
  have e1 : wrap64 (s[0].toNat : Int) = 3 := by rw [hk]; unfold wrap64; omega
  have f1 : (s.size : Int) < 7 := by omega
  clear hk
  go_enter Tryd.func17, Tryd.ntmps17
  go_wp2_with fail
  refine bodyPost_ret (v := .tuple #[.agg (entC 0 0 0 0 0 ⟨#[]⟩ 0 0), .int .i64 9]) (by simp [results, Tryd.results17, go_sem]) rfl ⟨rfl, ?_⟩
  exact ((Below.refl _ _).alloc (Nat.le_refl _) _).alloc (by simp) _
theorem byte_at (s : ByteArray) (o : Nat) (h : o < s.size) : getOr s.data.toList o 1 = s[o].toNat := by
  have hl : s.data.toList.length = s.size := size_list s
  unfold getOr
  rw [if_pos (by omega)]
  have : getAt s.data.toList o 1 = [s[o]] := by
    show (s.data.toList.drop o).take 1 = [s[o]]
    rw [List.drop_eq_getElem_cons (by omega)]
    rfl
  rw [this]; simp [num]
theorem second_at (w : World) (a b : Obj) : ((w.alloc a).alloc b).heap[w.heap.size + 1]? = some b := by
  have h2 := heap_alloc_new (w.alloc a) b
  rw [show (w.alloc a).heap.size = w.heap.size + 1 by simp] at h2
  exact h2
theorem infoR : (Tryd.prog.info? 26).map (·.size) = some 8 := by kernel_rfl
set_option maxRecDepth 100000 in
set_option maxHeartbeats 4000000 in
theorem refdec_abortA (s : ByteArray) (w : World) (h0 : 0 < s.size) (hk : s[0].toNat = 3) (hn : 7 ≤ s.size) (hs : s.size ≤ 300) (hq : (encR 3 (getOr s.data.toList 1 4) (getOr s.data.toList 5 2) 0 0 ⟨#[]⟩ 0 0).2 = 1) : Calls Tryd.prog 17 #[.string s] w fun e w' => e = .returned (.tuple #[.agg (entC 0 0 0 0 0 ⟨#[]⟩ 0 0), .int .i64 6]) ∧ Below w.heap.size w w' := by
  have e0 : (s.toList == []) = false := by have := full s h0; cases hl : s.toList with | nil => (rw [hl] at this; exact absurd this (by decide)) | cons => rfl
  have e1 : wrap64 (s[0].toNat : Int) = 3 := by rw [hk]; unfold wrap64; omega
  have f1 : ¬ ((s.size : Int) < 7) := by omega
  have f2 : (5 : Int) ≤ s.size := by omega
  have f3 : (7 : Int) ≤ s.size := by omega
  have HN1 := hid fun (V : World) => narrow_at s 1 4 5 rfl (by omega) (by decide) V
  have HN5 := hid fun (V : World) => narrow_at s 5 2 7 rfl (by omega) (by decide) V
  have HE := hid fun (V : World) => refenc_any 3 (getOr s.data.toList 1 4) (getOr s.data.toList 5 2) 0 0 ⟨#[]⟩ 0 0 V (by decide) (by decide)
  generalize getOr s.data.toList 1 4 = tx at *
  generalize getOr s.data.toList 5 2 = ix at *
  generalize encR 3 tx ix 0 0 ⟨#[]⟩ 0 0 = r at *
  obtain ⟨r1, r2⟩ := r
  dsimp only at HE hq
  obtain rfl : r2 = 1 := hq
  clear hk
  go_enter Tryd.func17, Tryd.ntmps17
  go_wp2_with fail
  refine (HN1.out _).mono ?_
  rintro e w1 ⟨rfl, rfl⟩
  go_wp2_with fail
  refine (HN5.out _).mono ?_
  rintro e w1 ⟨rfl, rfl⟩
  go_wp2_with fail
  refine (HE.out _).mono ?_
  rintro e w2 ⟨rfl, hb⟩
  have HB := hid ((((Below.refl w.heap.size w).alloc (Nat.le_refl _) (.cells (entC 0 0 0 0 0 ⟨#[]⟩ 0 0) 26)).alloc (by simp) (.cells (entC 3 tx ix 0 0 ⟨#[]⟩ 0 0) 26)).trans (hb.mono (by simp; omega)))
  have HZ := hid (show w2.heap[w.heap.size]? = some (.cells (entC 0 0 0 0 0 ⟨#[]⟩ 0 0) 26 (0, 0)) from (hb.block w.heap.size (by simp; omega)).trans ((((Below.refl (w.alloc (.cells (entC 0 0 0 0 0 ⟨#[]⟩ 0 0) 26)).heap.size (w.alloc (.cells (entC 0 0 0 0 0 ⟨#[]⟩ 0 0) 26))).alloc (Nat.le_refl _) _).block w.heap.size (by simp)).trans (heap_alloc_new _ _)))
  obtain ⟨p0, p1, p2, p3, p4, p5, p6, p7⟩ := ent_at (show w2.heap[w.heap.size + 1]? = some (.cells (entC 3 tx ix 0 0 ⟨#[]⟩ 0 0) 26 (0, 0)) from (hb.block (w.heap.size + 1) (by simp)).trans (second_at _ _ _))
  clear hb
  go_wp2_with (first | (refine wpList_store_whole rfl 26 (.tmp 2) (.tmp 74) (by with_reducible rfl) rfl w.heap.size (entC 0 0 0 0 0 ⟨#[]⟩ 0 0) (by rfl) (by rfl) 26 (entC 0 0 0 0 0 ⟨#[]⟩ 0 0) HZ.out infoR (by rfl) (oneC _ _ _ _ _ _ _ _) ?_))
  obtain ⟨q0, q1, q2, q3, q4, q5, q6, q7⟩ := ent_at (setRow_heap _ _ _ (entC 0 0 0 0 0 ⟨#[]⟩ 0 0) _ _ HZ.out)
  refine bodyPost_ret (v := .tuple #[.agg (entC 0 0 0 0 0 ⟨#[]⟩ 0 0), .int .i64 6]) (by simp [results, Tryd.results17, go_sem, q0, q1, q2, q3, q4, q5, q6, q7]) rfl ⟨rfl, ?_⟩
  exact below_setRow HB.out (Nat.le_refl _) _
set_option maxRecDepth 100000 in
set_option maxHeartbeats 4000000 in
theorem refdec_abortB (s : ByteArray) (w : World) (h0 : 0 < s.size) (hk : s[0].toNat = 3) (hn : 7 ≤ s.size) (hs : s.size ≤ 300) (hq : (encR 3 (getOr s.data.toList 1 4) (getOr s.data.toList 5 2) 0 0 ⟨#[]⟩ 0 0).2 = 0 ∧ (encR 3 (getOr s.data.toList 1 4) (getOr s.data.toList 5 2) 0 0 ⟨#[]⟩ 0 0).1 ≠ s) : Calls Tryd.prog 17 #[.string s] w fun e w' => e = .returned (.tuple #[.agg (entC 0 0 0 0 0 ⟨#[]⟩ 0 0), .int .i64 6]) ∧ Below w.heap.size w w' := by
  have e0 : (s.toList == []) = false := by have := full s h0; cases hl : s.toList with | nil => (rw [hl] at this; exact absurd this (by decide)) | cons => rfl
  have e1 : wrap64 (s[0].toNat : Int) = 3 := by rw [hk]; unfold wrap64; omega
  have f1 : ¬ ((s.size : Int) < 7) := by omega
  have f2 : (5 : Int) ≤ s.size := by omega
  have f3 : (7 : Int) ≤ s.size := by omega
  have HN1 := hid fun (V : World) => narrow_at s 1 4 5 rfl (by omega) (by decide) V
  have HN5 := hid fun (V : World) => narrow_at s 5 2 7 rfl (by omega) (by decide) V
  have HE := hid fun (V : World) => refenc_any 3 (getOr s.data.toList 1 4) (getOr s.data.toList 5 2) 0 0 ⟨#[]⟩ 0 0 V (by decide) (by decide)
  generalize getOr s.data.toList 1 4 = tx at *
  generalize getOr s.data.toList 5 2 = ix at *
  generalize encR 3 tx ix 0 0 ⟨#[]⟩ 0 0 = r at *
  obtain ⟨r1, r2⟩ := r
  dsimp only at HE hq
  obtain ⟨rfl, hq⟩ := hq
  have e8 : (r1.toList == s.toList) = false := ba_other hq
  clear hk hq
  go_enter Tryd.func17, Tryd.ntmps17
  go_wp2_with fail
  refine (HN1.out _).mono ?_
  rintro e w1 ⟨rfl, rfl⟩
  go_wp2_with fail
  refine (HN5.out _).mono ?_
  rintro e w1 ⟨rfl, rfl⟩
  go_wp2_with fail
  refine (HE.out _).mono ?_
  rintro e w2 ⟨rfl, hb⟩
  have HB := hid ((((Below.refl w.heap.size w).alloc (Nat.le_refl _) (.cells (entC 0 0 0 0 0 ⟨#[]⟩ 0 0) 26)).alloc (by simp) (.cells (entC 3 tx ix 0 0 ⟨#[]⟩ 0 0) 26)).trans (hb.mono (by simp; omega)))
  have HZ := hid (show w2.heap[w.heap.size]? = some (.cells (entC 0 0 0 0 0 ⟨#[]⟩ 0 0) 26 (0, 0)) from (hb.block w.heap.size (by simp; omega)).trans ((((Below.refl (w.alloc (.cells (entC 0 0 0 0 0 ⟨#[]⟩ 0 0) 26)).heap.size (w.alloc (.cells (entC 0 0 0 0 0 ⟨#[]⟩ 0 0) 26))).alloc (Nat.le_refl _) _).block w.heap.size (by simp)).trans (heap_alloc_new _ _)))
  obtain ⟨p0, p1, p2, p3, p4, p5, p6, p7⟩ := ent_at (show w2.heap[w.heap.size + 1]? = some (.cells (entC 3 tx ix 0 0 ⟨#[]⟩ 0 0) 26 (0, 0)) from (hb.block (w.heap.size + 1) (by simp)).trans (second_at _ _ _))
  clear hb
  go_wp2_with (first | (refine wpList_store_whole rfl 26 (.tmp 2) (.tmp 74) (by with_reducible rfl) rfl w.heap.size (entC 0 0 0 0 0 ⟨#[]⟩ 0 0) (by rfl) (by rfl) 26 (entC 0 0 0 0 0 ⟨#[]⟩ 0 0) HZ.out infoR (by rfl) (oneC _ _ _ _ _ _ _ _) ?_))
  obtain ⟨q0, q1, q2, q3, q4, q5, q6, q7⟩ := ent_at (setRow_heap _ _ _ (entC 0 0 0 0 0 ⟨#[]⟩ 0 0) _ _ HZ.out)
  refine bodyPost_ret (v := .tuple #[.agg (entC 0 0 0 0 0 ⟨#[]⟩ 0 0), .int .i64 6]) (by simp [results, Tryd.results17, go_sem, q0, q1, q2, q3, q4, q5, q6, q7]) rfl ⟨rfl, ?_⟩
  exact below_setRow HB.out (Nat.le_refl _) _
set_option maxRecDepth 100000 in
set_option maxHeartbeats 4000000 in
theorem refdec_abortC (s : ByteArray) (w : World) (h0 : 0 < s.size) (hk : s[0].toNat = 3) (hn : 7 ≤ s.size) (hs : s.size ≤ 300) (hq : (encR 3 (getOr s.data.toList 1 4) (getOr s.data.toList 5 2) 0 0 ⟨#[]⟩ 0 0).2 = 0 ∧ (encR 3 (getOr s.data.toList 1 4) (getOr s.data.toList 5 2) 0 0 ⟨#[]⟩ 0 0).1 = s) : Calls Tryd.prog 17 #[.string s] w fun e w' => e = .returned (.tuple #[.agg (entC 3 (getOr s.data.toList 1 4) (getOr s.data.toList 5 2) 0 0 ⟨#[]⟩ 0 0), .int .i64 0]) ∧ Below w.heap.size w w' := by
  have e0 : (s.toList == []) = false := by have := full s h0; cases hl : s.toList with | nil => (rw [hl] at this; exact absurd this (by decide)) | cons => rfl
  have e1 : wrap64 (s[0].toNat : Int) = 3 := by rw [hk]; unfold wrap64; omega
  have f1 : ¬ ((s.size : Int) < 7) := by omega
  have f2 : (5 : Int) ≤ s.size := by omega
  have f3 : (7 : Int) ≤ s.size := by omega
  have HN1 := hid fun (V : World) => narrow_at s 1 4 5 rfl (by omega) (by decide) V
  have HN5 := hid fun (V : World) => narrow_at s 5 2 7 rfl (by omega) (by decide) V
  have HE := hid fun (V : World) => refenc_any 3 (getOr s.data.toList 1 4) (getOr s.data.toList 5 2) 0 0 ⟨#[]⟩ 0 0 V (by decide) (by decide)
  generalize getOr s.data.toList 1 4 = tx at *
  generalize getOr s.data.toList 5 2 = ix at *
  generalize encR 3 tx ix 0 0 ⟨#[]⟩ 0 0 = r at *
  obtain ⟨r1, r2⟩ := r
  dsimp only at HE hq
  obtain ⟨rfl, hq⟩ := hq
  have e8 : (r1.toList == s.toList) = true := by rw [hq]; simp
  clear hk hq
  go_enter Tryd.func17, Tryd.ntmps17
  go_wp2_with fail
  refine (HN1.out _).mono ?_
  rintro e w1 ⟨rfl, rfl⟩
  go_wp2_with fail
  refine (HN5.out _).mono ?_
  rintro e w1 ⟨rfl, rfl⟩
  go_wp2_with fail
  refine (HE.out _).mono ?_
  rintro e w2 ⟨rfl, hb⟩
  have HB := hid ((((Below.refl w.heap.size w).alloc (Nat.le_refl _) (.cells (entC 0 0 0 0 0 ⟨#[]⟩ 0 0) 26)).alloc (by simp) (.cells (entC 3 tx ix 0 0 ⟨#[]⟩ 0 0) 26)).trans (hb.mono (by simp; omega)))
  have HZ := hid (show w2.heap[w.heap.size]? = some (.cells (entC 0 0 0 0 0 ⟨#[]⟩ 0 0) 26 (0, 0)) from (hb.block w.heap.size (by simp; omega)).trans ((((Below.refl (w.alloc (.cells (entC 0 0 0 0 0 ⟨#[]⟩ 0 0) 26)).heap.size (w.alloc (.cells (entC 0 0 0 0 0 ⟨#[]⟩ 0 0) 26))).alloc (Nat.le_refl _) _).block w.heap.size (by simp)).trans (heap_alloc_new _ _)))
  obtain ⟨p0, p1, p2, p3, p4, p5, p6, p7⟩ := ent_at (show w2.heap[w.heap.size + 1]? = some (.cells (entC 3 tx ix 0 0 ⟨#[]⟩ 0 0) 26 (0, 0)) from (hb.block (w.heap.size + 1) (by simp)).trans (second_at _ _ _))
  clear hb
  go_wp2_with (first | (refine wpList_store_whole rfl 26 (.tmp 2) (.tmp 75) (by with_reducible rfl) rfl w.heap.size (entC 3 tx ix 0 0 ⟨#[]⟩ 0 0) (by rfl) (by rfl) 26 (entC 0 0 0 0 0 ⟨#[]⟩ 0 0) HZ.out infoR (by rfl) (oneC _ _ _ _ _ _ _ _) ?_))
  obtain ⟨q0, q1, q2, q3, q4, q5, q6, q7⟩ := ent_at (setRow_heap _ _ _ (entC 3 tx ix 0 0 ⟨#[]⟩ 0 0) _ _ HZ.out)
  refine bodyPost_ret (v := .tuple #[.agg (entC 3 tx ix 0 0 ⟨#[]⟩ 0 0), .int .i64 0]) (by simp [results, Tryd.results17, go_sem, q0, q1, q2, q3, q4, q5, q6, q7]) rfl ⟨rfl, ?_⟩
  exact below_setRow HB.out (Nat.le_refl _) _
set_option maxRecDepth 100000 in
set_option maxHeartbeats 4000000 in
theorem refdec_commitA (s : ByteArray) (w : World) (h0 : 0 < s.size) (hk : s[0].toNat = 2) (hn : 13 ≤ s.size) (hs : s.size ≤ 300) (hq : (encR 2 (getOr s.data.toList 1 4) (getOr s.data.toList 5 2) 0 0 ⟨#[]⟩ (getOr s.data.toList 7 2) (getOr s.data.toList 9 4)).2 = 1) : Calls Tryd.prog 17 #[.string s] w fun e w' => e = .returned (.tuple #[.agg (entC 0 0 0 0 0 ⟨#[]⟩ 0 0), .int .i64 6]) ∧ Below w.heap.size w w' := by
  have e0 : (s.toList == []) = false := by have := full s h0; cases hl : s.toList with | nil => (rw [hl] at this; exact absurd this (by decide)) | cons => rfl
  have e1 : wrap64 (s[0].toNat : Int) = 2 := by rw [hk]; unfold wrap64; omega
  have f1 : ¬ ((s.size : Int) < 13) := by omega
  have f2 : (5 : Int) ≤ s.size := by omega
  have f3 : (7 : Int) ≤ s.size := by omega
  have f4 : (9 : Int) ≤ s.size := by omega
  have f5 : (13 : Int) ≤ s.size := by omega
  have hsm := getOr_lt s.data.toList 9 4 (by decide)
  have HN1 := hid fun (V : World) => narrow_at s 1 4 5 rfl (by omega) (by decide) V
  have HN5 := hid fun (V : World) => narrow_at s 5 2 7 rfl (by omega) (by decide) V
  have HN7 := hid fun (V : World) => narrow_at s 7 2 9 rfl (by omega) (by decide) V
  have HN9 := hid fun (V : World) => narrow_at s 9 4 13 rfl (by omega) (by decide) V
  have HE := hid fun (V : World) => refenc_any 2 (getOr s.data.toList 1 4) (getOr s.data.toList 5 2) 0 0 ⟨#[]⟩ (getOr s.data.toList 7 2) (getOr s.data.toList 9 4) V (by omega) (by omega)
  generalize getOr s.data.toList 1 4 = tx at *
  generalize getOr s.data.toList 5 2 = ix at *
  generalize getOr s.data.toList 7 2 = ct at *
  generalize getOr s.data.toList 9 4 = sm at *
  generalize encR 2 tx ix 0 0 ⟨#[]⟩ ct sm = r at *
  obtain ⟨r1, r2⟩ := r
  dsimp only at HE hq
  obtain rfl : r2 = 1 := hq
  clear hk
  go_enter Tryd.func17, Tryd.ntmps17
  go_wp2_with fail
  refine (HN1.out _).mono ?_
  rintro e w1 ⟨rfl, rfl⟩
  go_wp2_with fail
  refine (HN5.out _).mono ?_
  rintro e w1 ⟨rfl, rfl⟩
  go_wp2_with fail
  refine (HN7.out _).mono ?_
  rintro e w1 ⟨rfl, rfl⟩
  go_wp2_with fail
  refine (HN9.out _).mono ?_
  rintro e w1 ⟨rfl, rfl⟩
  go_wp2_with fail
  refine (HE.out _).mono ?_
  rintro e w2 ⟨rfl, hb⟩
  have HB := hid ((((Below.refl w.heap.size w).alloc (Nat.le_refl _) (.cells (entC 0 0 0 0 0 ⟨#[]⟩ 0 0) 26)).alloc (by simp) (.cells (entC 2 tx ix 0 0 ⟨#[]⟩ ct sm) 26)).trans (hb.mono (by simp; omega)))
  have HZ := hid (show w2.heap[w.heap.size]? = some (.cells (entC 0 0 0 0 0 ⟨#[]⟩ 0 0) 26 (0, 0)) from (hb.block w.heap.size (by simp; omega)).trans ((((Below.refl (w.alloc (.cells (entC 0 0 0 0 0 ⟨#[]⟩ 0 0) 26)).heap.size (w.alloc (.cells (entC 0 0 0 0 0 ⟨#[]⟩ 0 0) 26))).alloc (Nat.le_refl _) _).block w.heap.size (by simp)).trans (heap_alloc_new _ _)))
  obtain ⟨p0, p1, p2, p3, p4, p5, p6, p7⟩ := ent_at (show w2.heap[w.heap.size + 1]? = some (.cells (entC 2 tx ix 0 0 ⟨#[]⟩ ct sm) 26 (0, 0)) from (hb.block (w.heap.size + 1) (by simp)).trans (second_at _ _ _))
  clear hb
  go_wp2_with (first | (refine wpList_store_whole rfl 26 (.tmp 2) (.tmp 74) (by with_reducible rfl) rfl w.heap.size (entC 0 0 0 0 0 ⟨#[]⟩ 0 0) (by rfl) (by rfl) 26 (entC 0 0 0 0 0 ⟨#[]⟩ 0 0) HZ.out infoR (by rfl) (oneC _ _ _ _ _ _ _ _) ?_))
  obtain ⟨q0, q1, q2, q3, q4, q5, q6, q7⟩ := ent_at (setRow_heap _ _ _ (entC 0 0 0 0 0 ⟨#[]⟩ 0 0) _ _ HZ.out)
  refine bodyPost_ret (v := .tuple #[.agg (entC 0 0 0 0 0 ⟨#[]⟩ 0 0), .int .i64 6]) (by simp [results, Tryd.results17, go_sem, q0, q1, q2, q3, q4, q5, q6, q7]) rfl ⟨rfl, ?_⟩
  exact below_setRow HB.out (Nat.le_refl _) _
set_option maxRecDepth 100000 in
set_option maxHeartbeats 4000000 in
theorem refdec_commitB (s : ByteArray) (w : World) (h0 : 0 < s.size) (hk : s[0].toNat = 2) (hn : 13 ≤ s.size) (hs : s.size ≤ 300) (hq : (encR 2 (getOr s.data.toList 1 4) (getOr s.data.toList 5 2) 0 0 ⟨#[]⟩ (getOr s.data.toList 7 2) (getOr s.data.toList 9 4)).2 = 0 ∧ (encR 2 (getOr s.data.toList 1 4) (getOr s.data.toList 5 2) 0 0 ⟨#[]⟩ (getOr s.data.toList 7 2) (getOr s.data.toList 9 4)).1 ≠ s) : Calls Tryd.prog 17 #[.string s] w fun e w' => e = .returned (.tuple #[.agg (entC 0 0 0 0 0 ⟨#[]⟩ 0 0), .int .i64 6]) ∧ Below w.heap.size w w' := by
  have e0 : (s.toList == []) = false := by have := full s h0; cases hl : s.toList with | nil => (rw [hl] at this; exact absurd this (by decide)) | cons => rfl
  have e1 : wrap64 (s[0].toNat : Int) = 2 := by rw [hk]; unfold wrap64; omega
  have f1 : ¬ ((s.size : Int) < 13) := by omega
  have f2 : (5 : Int) ≤ s.size := by omega
  have f3 : (7 : Int) ≤ s.size := by omega
  have f4 : (9 : Int) ≤ s.size := by omega
  have f5 : (13 : Int) ≤ s.size := by omega
  have hsm := getOr_lt s.data.toList 9 4 (by decide)
  have HN1 := hid fun (V : World) => narrow_at s 1 4 5 rfl (by omega) (by decide) V
  have HN5 := hid fun (V : World) => narrow_at s 5 2 7 rfl (by omega) (by decide) V
  have HN7 := hid fun (V : World) => narrow_at s 7 2 9 rfl (by omega) (by decide) V
  have HN9 := hid fun (V : World) => narrow_at s 9 4 13 rfl (by omega) (by decide) V
  have HE := hid fun (V : World) => refenc_any 2 (getOr s.data.toList 1 4) (getOr s.data.toList 5 2) 0 0 ⟨#[]⟩ (getOr s.data.toList 7 2) (getOr s.data.toList 9 4) V (by omega) (by omega)
  generalize getOr s.data.toList 1 4 = tx at *
  generalize getOr s.data.toList 5 2 = ix at *
  generalize getOr s.data.toList 7 2 = ct at *
  generalize getOr s.data.toList 9 4 = sm at *
  generalize encR 2 tx ix 0 0 ⟨#[]⟩ ct sm = r at *
  obtain ⟨r1, r2⟩ := r
  dsimp only at HE hq
  obtain ⟨rfl, hq⟩ := hq
  have e8 : (r1.toList == s.toList) = false := ba_other hq
  clear hk hq
  go_enter Tryd.func17, Tryd.ntmps17
  go_wp2_with fail
  refine (HN1.out _).mono ?_
  rintro e w1 ⟨rfl, rfl⟩
  go_wp2_with fail
  refine (HN5.out _).mono ?_
  rintro e w1 ⟨rfl, rfl⟩
  go_wp2_with fail
  refine (HN7.out _).mono ?_
  rintro e w1 ⟨rfl, rfl⟩
  go_wp2_with fail
  refine (HN9.out _).mono ?_
  rintro e w1 ⟨rfl, rfl⟩
  go_wp2_with fail
  refine (HE.out _).mono ?_
  rintro e w2 ⟨rfl, hb⟩
  have HB := hid ((((Below.refl w.heap.size w).alloc (Nat.le_refl _) (.cells (entC 0 0 0 0 0 ⟨#[]⟩ 0 0) 26)).alloc (by simp) (.cells (entC 2 tx ix 0 0 ⟨#[]⟩ ct sm) 26)).trans (hb.mono (by simp; omega)))
  have HZ := hid (show w2.heap[w.heap.size]? = some (.cells (entC 0 0 0 0 0 ⟨#[]⟩ 0 0) 26 (0, 0)) from (hb.block w.heap.size (by simp; omega)).trans ((((Below.refl (w.alloc (.cells (entC 0 0 0 0 0 ⟨#[]⟩ 0 0) 26)).heap.size (w.alloc (.cells (entC 0 0 0 0 0 ⟨#[]⟩ 0 0) 26))).alloc (Nat.le_refl _) _).block w.heap.size (by simp)).trans (heap_alloc_new _ _)))
  obtain ⟨p0, p1, p2, p3, p4, p5, p6, p7⟩ := ent_at (show w2.heap[w.heap.size + 1]? = some (.cells (entC 2 tx ix 0 0 ⟨#[]⟩ ct sm) 26 (0, 0)) from (hb.block (w.heap.size + 1) (by simp)).trans (second_at _ _ _))
  clear hb
  go_wp2_with (first | (refine wpList_store_whole rfl 26 (.tmp 2) (.tmp 74) (by with_reducible rfl) rfl w.heap.size (entC 0 0 0 0 0 ⟨#[]⟩ 0 0) (by rfl) (by rfl) 26 (entC 0 0 0 0 0 ⟨#[]⟩ 0 0) HZ.out infoR (by rfl) (oneC _ _ _ _ _ _ _ _) ?_))
  obtain ⟨q0, q1, q2, q3, q4, q5, q6, q7⟩ := ent_at (setRow_heap _ _ _ (entC 0 0 0 0 0 ⟨#[]⟩ 0 0) _ _ HZ.out)
  refine bodyPost_ret (v := .tuple #[.agg (entC 0 0 0 0 0 ⟨#[]⟩ 0 0), .int .i64 6]) (by simp [results, Tryd.results17, go_sem, q0, q1, q2, q3, q4, q5, q6, q7]) rfl ⟨rfl, ?_⟩
  exact below_setRow HB.out (Nat.le_refl _) _
set_option maxRecDepth 100000 in
set_option maxHeartbeats 4000000 in
theorem refdec_commitC (s : ByteArray) (w : World) (h0 : 0 < s.size) (hk : s[0].toNat = 2) (hn : 13 ≤ s.size) (hs : s.size ≤ 300) (hq : (encR 2 (getOr s.data.toList 1 4) (getOr s.data.toList 5 2) 0 0 ⟨#[]⟩ (getOr s.data.toList 7 2) (getOr s.data.toList 9 4)).2 = 0 ∧ (encR 2 (getOr s.data.toList 1 4) (getOr s.data.toList 5 2) 0 0 ⟨#[]⟩ (getOr s.data.toList 7 2) (getOr s.data.toList 9 4)).1 = s) : Calls Tryd.prog 17 #[.string s] w fun e w' => e = .returned (.tuple #[.agg (entC 2 (getOr s.data.toList 1 4) (getOr s.data.toList 5 2) 0 0 ⟨#[]⟩ (getOr s.data.toList 7 2) (getOr s.data.toList 9 4)), .int .i64 0]) ∧ Below w.heap.size w w' := by
  have e0 : (s.toList == []) = false := by have := full s h0; cases hl : s.toList with | nil => (rw [hl] at this; exact absurd this (by decide)) | cons => rfl
  have e1 : wrap64 (s[0].toNat : Int) = 2 := by rw [hk]; unfold wrap64; omega
  have f1 : ¬ ((s.size : Int) < 13) := by omega
  have f2 : (5 : Int) ≤ s.size := by omega
  have f3 : (7 : Int) ≤ s.size := by omega
  have f4 : (9 : Int) ≤ s.size := by omega
  have f5 : (13 : Int) ≤ s.size := by omega
  have hsm := getOr_lt s.data.toList 9 4 (by decide)
  have HN1 := hid fun (V : World) => narrow_at s 1 4 5 rfl (by omega) (by decide) V
  have HN5 := hid fun (V : World) => narrow_at s 5 2 7 rfl (by omega) (by decide) V
  have HN7 := hid fun (V : World) => narrow_at s 7 2 9 rfl (by omega) (by decide) V
  have HN9 := hid fun (V : World) => narrow_at s 9 4 13 rfl (by omega) (by decide) V
  have HE := hid fun (V : World) => refenc_any 2 (getOr s.data.toList 1 4) (getOr s.data.toList 5 2) 0 0 ⟨#[]⟩ (getOr s.data.toList 7 2) (getOr s.data.toList 9 4) V (by omega) (by omega)
  generalize getOr s.data.toList 1 4 = tx at *
  generalize getOr s.data.toList 5 2 = ix at *
  generalize getOr s.data.toList 7 2 = ct at *
  generalize getOr s.data.toList 9 4 = sm at *
  generalize encR 2 tx ix 0 0 ⟨#[]⟩ ct sm = r at *
  obtain ⟨r1, r2⟩ := r
  dsimp only at HE hq
  obtain ⟨rfl, hq⟩ := hq
  have e8 : (r1.toList == s.toList) = true := by rw [hq]; simp
  clear hk hq
  go_enter Tryd.func17, Tryd.ntmps17
  go_wp2_with fail
  refine (HN1.out _).mono ?_
  rintro e w1 ⟨rfl, rfl⟩
  go_wp2_with fail
  refine (HN5.out _).mono ?_
  rintro e w1 ⟨rfl, rfl⟩
  go_wp2_with fail
  refine (HN7.out _).mono ?_
  rintro e w1 ⟨rfl, rfl⟩
  go_wp2_with fail
  refine (HN9.out _).mono ?_
  rintro e w1 ⟨rfl, rfl⟩
  go_wp2_with fail
  refine (HE.out _).mono ?_
  rintro e w2 ⟨rfl, hb⟩
  have HB := hid ((((Below.refl w.heap.size w).alloc (Nat.le_refl _) (.cells (entC 0 0 0 0 0 ⟨#[]⟩ 0 0) 26)).alloc (by simp) (.cells (entC 2 tx ix 0 0 ⟨#[]⟩ ct sm) 26)).trans (hb.mono (by simp; omega)))
  have HZ := hid (show w2.heap[w.heap.size]? = some (.cells (entC 0 0 0 0 0 ⟨#[]⟩ 0 0) 26 (0, 0)) from (hb.block w.heap.size (by simp; omega)).trans ((((Below.refl (w.alloc (.cells (entC 0 0 0 0 0 ⟨#[]⟩ 0 0) 26)).heap.size (w.alloc (.cells (entC 0 0 0 0 0 ⟨#[]⟩ 0 0) 26))).alloc (Nat.le_refl _) _).block w.heap.size (by simp)).trans (heap_alloc_new _ _)))
  obtain ⟨p0, p1, p2, p3, p4, p5, p6, p7⟩ := ent_at (show w2.heap[w.heap.size + 1]? = some (.cells (entC 2 tx ix 0 0 ⟨#[]⟩ ct sm) 26 (0, 0)) from (hb.block (w.heap.size + 1) (by simp)).trans (second_at _ _ _))
  clear hb
  go_wp2_with (first | (refine wpList_store_whole rfl 26 (.tmp 2) (.tmp 75) (by with_reducible rfl) rfl w.heap.size (entC 2 tx ix 0 0 ⟨#[]⟩ ct sm) (by rfl) (by rfl) 26 (entC 0 0 0 0 0 ⟨#[]⟩ 0 0) HZ.out infoR (by rfl) (oneC _ _ _ _ _ _ _ _) ?_))
  obtain ⟨q0, q1, q2, q3, q4, q5, q6, q7⟩ := ent_at (setRow_heap _ _ _ (entC 2 tx ix 0 0 ⟨#[]⟩ ct sm) _ _ HZ.out)
  refine bodyPost_ret (v := .tuple #[.agg (entC 2 tx ix 0 0 ⟨#[]⟩ ct sm), .int .i64 0]) (by simp [results, Tryd.results17, go_sem, q0, q1, q2, q3, q4, q5, q6, q7]) rfl ⟨rfl, ?_⟩
  exact below_setRow HB.out (Nat.le_refl _) _
set_option maxRecDepth 100000 in
set_option maxHeartbeats 4000000 in
theorem refdec_stageA (s : ByteArray) (w : World) (h0 : 0 < s.size) (hk : s[0].toNat = 1) (hn : 10 ≤ s.size) (hs : s.size ≤ 300) (hq : (encR 1 (getOr s.data.toList 1 4) (getOr s.data.toList 5 2) (getOr s.data.toList 7 1) (getOr s.data.toList 8 2) (s.extract 10 s.size) 0 0).2 = 1) : Calls Tryd.prog 17 #[.string s] w fun e w' => e = .returned (.tuple #[.agg (entC 0 0 0 0 0 ⟨#[]⟩ 0 0), .int .i64 6]) ∧ Below w.heap.size w w' := by
  have e0 : (s.toList == []) = false := by have := full s h0; cases hl : s.toList with | nil => (rw [hl] at this; exact absurd this (by decide)) | cons => rfl
  have e1 : wrap64 (s[0].toNat : Int) = 1 := by rw [hk]; unfold wrap64; omega
  have f1 : ¬ ((s.size : Int) < 10) := by omega
  have f2 : (5 : Int) ≤ s.size := by omega
  have f3 : (7 : Int) ≤ s.size := by omega
  have f4 : (10 : Int) ≤ s.size := by omega
  have f5 : (7 : Int) < s.size := by omega
  have f6 : (8 : Int) ≤ s.size := by omega
  have e7 : IntKind.i64.wrap (s[7].toNat : Int) = (getOr s.data.toList 7 1 : Nat) := by have := s[7].toNat_lt; rw [byte_at s 7 (by omega), Go.IntWalk.i64_in _ (by omega)]
  have HN1 := hid fun (V : World) => narrow_at s 1 4 5 rfl (by omega) (by decide) V
  have HN5 := hid fun (V : World) => narrow_at s 5 2 7 rfl (by omega) (by decide) V
  have HN8 := hid fun (V : World) => narrow_at s 8 2 10 rfl (by omega) (by decide) V
  have HE := hid fun (V : World) => refenc_any 1 (getOr s.data.toList 1 4) (getOr s.data.toList 5 2) (getOr s.data.toList 7 1) (getOr s.data.toList 8 2) (s.extract 10 s.size) 0 0 V (by decide) (by decide)
  generalize getOr s.data.toList 1 4 = tx at *
  generalize getOr s.data.toList 5 2 = ix at *
  generalize getOr s.data.toList 7 1 = pk at *
  generalize getOr s.data.toList 8 2 = pn at *
  generalize encR 1 tx ix pk pn (s.extract 10 s.size) 0 0 = r at *
  obtain ⟨r1, r2⟩ := r
  dsimp only at HE hq
  obtain rfl : r2 = 1 := hq
  clear hk
  go_enter Tryd.func17, Tryd.ntmps17
  go_wp2_with fail
  refine (HN1.out _).mono ?_
  rintro e w1 ⟨rfl, rfl⟩
  go_wp2_with fail
  refine (HN5.out _).mono ?_
  rintro e w1 ⟨rfl, rfl⟩
  have y0 : ((w.alloc (.cells (entC 0 0 0 0 0 ⟨#[]⟩ 0 0) 26)).alloc (.cells (entC 1 tx ix 0 0 ⟨#[]⟩ 0 0) 26)).cell? ⟨w.heap.size + 1, 0, none⟩ = some (.int .i64 1) := by rw [cell_of_row _ _ _ _ _ _ (second_at _ _ _)]; rfl
  go_wp2_with fail
  go_region_held3 (fun V => V.cell? ⟨w.heap.size + 1, 0, none⟩ = some (.int .i64 1)) (first | exact y0 | exact y1 | go_keep)
    (first
      | (go_at_call 31; with_reducible refine (HN8.out _).mono ?_; rintro e w1 ⟨rfl, rfl⟩; have y1 := y0)
      | fail)
  all_goals
    try rw [e7]
    clear e7 y0
    try clear y1
    have HXb := hid (show Below w.heap.size w (((w.alloc (.cells (entC 0 0 0 0 0 ⟨#[]⟩ 0 0) 26)).alloc (.cells (entC 1 tx ix pk pn (s.extract 10 s.size) 0 0) 26)).drew) from (((Below.refl w.heap.size w).alloc (Nat.le_refl _) _).alloc (by simp) _).drew)
    have HXs : w.heap.size + 1 < (((w.alloc (.cells (entC 0 0 0 0 0 ⟨#[]⟩ 0 0) 26)).alloc (.cells (entC 1 tx ix pk pn (s.extract 10 s.size) 0 0) 26)).drew).heap.size := by show _ < ((w.alloc _).alloc _).heap.size; simp
    have HX1 : (((w.alloc (.cells (entC 0 0 0 0 0 ⟨#[]⟩ 0 0) 26)).alloc (.cells (entC 1 tx ix pk pn (s.extract 10 s.size) 0 0) 26)).drew).heap[w.heap.size + 1]? = some (.cells (entC 1 tx ix pk pn (s.extract 10 s.size) 0 0) 26 (0, 0)) := second_at _ _ _
    have HX0 : (((w.alloc (.cells (entC 0 0 0 0 0 ⟨#[]⟩ 0 0) 26)).alloc (.cells (entC 1 tx ix pk pn (s.extract 10 s.size) 0 0) 26)).drew).heap[w.heap.size]? = some (.cells (entC 0 0 0 0 0 ⟨#[]⟩ 0 0) 26 (0, 0)) := (((Below.refl (w.alloc (.cells (entC 0 0 0 0 0 ⟨#[]⟩ 0 0) 26)).heap.size (w.alloc (.cells (entC 0 0 0 0 0 ⟨#[]⟩ 0 0) 26))).alloc (Nat.le_refl _) _).block w.heap.size (by simp)).trans (heap_alloc_new _ _)
    generalize (((w.alloc (.cells (entC 0 0 0 0 0 ⟨#[]⟩ 0 0) 26)).alloc (.cells (entC 1 tx ix pk pn (s.extract 10 s.size) 0 0) 26)).drew) = X at HXb HXs HX0 HX1 ⊢
    obtain ⟨d0, d1, d2, d3, d4, d5, d6, d7⟩ := ent_at HX1
    go_wp2_with fail
    refine (HE.out _).mono ?_
    rintro e w2 ⟨rfl, hb⟩
    have HB := hid (HXb.out.trans (hb.mono (by omega)))
    have HZ := hid (show w2.heap[w.heap.size]? = some (.cells (entC 0 0 0 0 0 ⟨#[]⟩ 0 0) 26 (0, 0)) from (hb.block w.heap.size (by omega)).trans HX0)
    obtain ⟨p0, p1, p2, p3, p4, p5, p6, p7⟩ := ent_at (show w2.heap[w.heap.size + 1]? = some (.cells (entC 1 tx ix pk pn (s.extract 10 s.size) 0 0) 26 (0, 0)) from (hb.block (w.heap.size + 1) HXs).trans HX1)
    clear hb d0 d1 d2 d3 d4 d5 d6 d7 HX0 HX1 HXs
    go_wp2_with (first | (refine wpList_store_whole rfl 26 (.tmp 2) (.tmp 74) (by with_reducible rfl) rfl w.heap.size (entC 0 0 0 0 0 ⟨#[]⟩ 0 0) (by rfl) (by rfl) 26 (entC 0 0 0 0 0 ⟨#[]⟩ 0 0) HZ.out infoR (by rfl) (oneC _ _ _ _ _ _ _ _) ?_))
    obtain ⟨q0, q1, q2, q3, q4, q5, q6, q7⟩ := ent_at (setRow_heap _ _ _ (entC 0 0 0 0 0 ⟨#[]⟩ 0 0) _ _ HZ.out)
    refine bodyPost_ret (v := .tuple #[.agg (entC 0 0 0 0 0 ⟨#[]⟩ 0 0), .int .i64 6]) (by simp [results, Tryd.results17, go_sem, q0, q1, q2, q3, q4, q5, q6, q7]) rfl ⟨rfl, ?_⟩
    exact below_setRow HB.out (Nat.le_refl _) _
set_option maxRecDepth 100000 in
set_option maxHeartbeats 4000000 in
theorem refdec_stageB (s : ByteArray) (w : World) (h0 : 0 < s.size) (hk : s[0].toNat = 1) (hn : 10 ≤ s.size) (hs : s.size ≤ 300) (hq : (encR 1 (getOr s.data.toList 1 4) (getOr s.data.toList 5 2) (getOr s.data.toList 7 1) (getOr s.data.toList 8 2) (s.extract 10 s.size) 0 0).2 = 0 ∧ (encR 1 (getOr s.data.toList 1 4) (getOr s.data.toList 5 2) (getOr s.data.toList 7 1) (getOr s.data.toList 8 2) (s.extract 10 s.size) 0 0).1 ≠ s) : Calls Tryd.prog 17 #[.string s] w fun e w' => e = .returned (.tuple #[.agg (entC 0 0 0 0 0 ⟨#[]⟩ 0 0), .int .i64 6]) ∧ Below w.heap.size w w' := by
  have e0 : (s.toList == []) = false := by have := full s h0; cases hl : s.toList with | nil => (rw [hl] at this; exact absurd this (by decide)) | cons => rfl
  have e1 : wrap64 (s[0].toNat : Int) = 1 := by rw [hk]; unfold wrap64; omega
  have f1 : ¬ ((s.size : Int) < 10) := by omega
  have f2 : (5 : Int) ≤ s.size := by omega
  have f3 : (7 : Int) ≤ s.size := by omega
  have f4 : (10 : Int) ≤ s.size := by omega
  have f5 : (7 : Int) < s.size := by omega
  have f6 : (8 : Int) ≤ s.size := by omega
  have e7 : IntKind.i64.wrap (s[7].toNat : Int) = (getOr s.data.toList 7 1 : Nat) := by have := s[7].toNat_lt; rw [byte_at s 7 (by omega), Go.IntWalk.i64_in _ (by omega)]
  have HN1 := hid fun (V : World) => narrow_at s 1 4 5 rfl (by omega) (by decide) V
  have HN5 := hid fun (V : World) => narrow_at s 5 2 7 rfl (by omega) (by decide) V
  have HN8 := hid fun (V : World) => narrow_at s 8 2 10 rfl (by omega) (by decide) V
  have HE := hid fun (V : World) => refenc_any 1 (getOr s.data.toList 1 4) (getOr s.data.toList 5 2) (getOr s.data.toList 7 1) (getOr s.data.toList 8 2) (s.extract 10 s.size) 0 0 V (by decide) (by decide)
  generalize getOr s.data.toList 1 4 = tx at *
  generalize getOr s.data.toList 5 2 = ix at *
  generalize getOr s.data.toList 7 1 = pk at *
  generalize getOr s.data.toList 8 2 = pn at *
  generalize encR 1 tx ix pk pn (s.extract 10 s.size) 0 0 = r at *
  obtain ⟨r1, r2⟩ := r
  dsimp only at HE hq
  obtain ⟨rfl, hq⟩ := hq
  have e8 : (r1.toList == s.toList) = false := ba_other hq
  clear hk hq
  go_enter Tryd.func17, Tryd.ntmps17
  go_wp2_with fail
  refine (HN1.out _).mono ?_
  rintro e w1 ⟨rfl, rfl⟩
  go_wp2_with fail
  refine (HN5.out _).mono ?_
  rintro e w1 ⟨rfl, rfl⟩
  have y0 : ((w.alloc (.cells (entC 0 0 0 0 0 ⟨#[]⟩ 0 0) 26)).alloc (.cells (entC 1 tx ix 0 0 ⟨#[]⟩ 0 0) 26)).cell? ⟨w.heap.size + 1, 0, none⟩ = some (.int .i64 1) := by rw [cell_of_row _ _ _ _ _ _ (second_at _ _ _)]; rfl
  go_wp2_with fail
  go_region_held3 (fun V => V.cell? ⟨w.heap.size + 1, 0, none⟩ = some (.int .i64 1)) (first | exact y0 | exact y1 | go_keep)
    (first
      | (go_at_call 31; with_reducible refine (HN8.out _).mono ?_; rintro e w1 ⟨rfl, rfl⟩; have y1 := y0)
      | fail)
  all_goals
    try rw [e7]
    clear e7 y0
    try clear y1
    have HXb := hid (show Below w.heap.size w (((w.alloc (.cells (entC 0 0 0 0 0 ⟨#[]⟩ 0 0) 26)).alloc (.cells (entC 1 tx ix pk pn (s.extract 10 s.size) 0 0) 26)).drew) from (((Below.refl w.heap.size w).alloc (Nat.le_refl _) _).alloc (by simp) _).drew)
    have HXs : w.heap.size + 1 < (((w.alloc (.cells (entC 0 0 0 0 0 ⟨#[]⟩ 0 0) 26)).alloc (.cells (entC 1 tx ix pk pn (s.extract 10 s.size) 0 0) 26)).drew).heap.size := by show _ < ((w.alloc _).alloc _).heap.size; simp
    have HX1 : (((w.alloc (.cells (entC 0 0 0 0 0 ⟨#[]⟩ 0 0) 26)).alloc (.cells (entC 1 tx ix pk pn (s.extract 10 s.size) 0 0) 26)).drew).heap[w.heap.size + 1]? = some (.cells (entC 1 tx ix pk pn (s.extract 10 s.size) 0 0) 26 (0, 0)) := second_at _ _ _
    have HX0 : (((w.alloc (.cells (entC 0 0 0 0 0 ⟨#[]⟩ 0 0) 26)).alloc (.cells (entC 1 tx ix pk pn (s.extract 10 s.size) 0 0) 26)).drew).heap[w.heap.size]? = some (.cells (entC 0 0 0 0 0 ⟨#[]⟩ 0 0) 26 (0, 0)) := (((Below.refl (w.alloc (.cells (entC 0 0 0 0 0 ⟨#[]⟩ 0 0) 26)).heap.size (w.alloc (.cells (entC 0 0 0 0 0 ⟨#[]⟩ 0 0) 26))).alloc (Nat.le_refl _) _).block w.heap.size (by simp)).trans (heap_alloc_new _ _)
    generalize (((w.alloc (.cells (entC 0 0 0 0 0 ⟨#[]⟩ 0 0) 26)).alloc (.cells (entC 1 tx ix pk pn (s.extract 10 s.size) 0 0) 26)).drew) = X at HXb HXs HX0 HX1 ⊢
    obtain ⟨d0, d1, d2, d3, d4, d5, d6, d7⟩ := ent_at HX1
    go_wp2_with fail
    refine (HE.out _).mono ?_
    rintro e w2 ⟨rfl, hb⟩
    have HB := hid (HXb.out.trans (hb.mono (by omega)))
    have HZ := hid (show w2.heap[w.heap.size]? = some (.cells (entC 0 0 0 0 0 ⟨#[]⟩ 0 0) 26 (0, 0)) from (hb.block w.heap.size (by omega)).trans HX0)
    obtain ⟨p0, p1, p2, p3, p4, p5, p6, p7⟩ := ent_at (show w2.heap[w.heap.size + 1]? = some (.cells (entC 1 tx ix pk pn (s.extract 10 s.size) 0 0) 26 (0, 0)) from (hb.block (w.heap.size + 1) HXs).trans HX1)
    clear hb d0 d1 d2 d3 d4 d5 d6 d7 HX0 HX1 HXs
    go_wp2_with (first | (refine wpList_store_whole rfl 26 (.tmp 2) (.tmp 74) (by with_reducible rfl) rfl w.heap.size (entC 0 0 0 0 0 ⟨#[]⟩ 0 0) (by rfl) (by rfl) 26 (entC 0 0 0 0 0 ⟨#[]⟩ 0 0) HZ.out infoR (by rfl) (oneC _ _ _ _ _ _ _ _) ?_))
    obtain ⟨q0, q1, q2, q3, q4, q5, q6, q7⟩ := ent_at (setRow_heap _ _ _ (entC 0 0 0 0 0 ⟨#[]⟩ 0 0) _ _ HZ.out)
    refine bodyPost_ret (v := .tuple #[.agg (entC 0 0 0 0 0 ⟨#[]⟩ 0 0), .int .i64 6]) (by simp [results, Tryd.results17, go_sem, q0, q1, q2, q3, q4, q5, q6, q7]) rfl ⟨rfl, ?_⟩
    exact below_setRow HB.out (Nat.le_refl _) _
set_option maxRecDepth 100000 in
set_option maxHeartbeats 4000000 in
theorem refdec_stageC (s : ByteArray) (w : World) (h0 : 0 < s.size) (hk : s[0].toNat = 1) (hn : 10 ≤ s.size) (hs : s.size ≤ 300) (hq : (encR 1 (getOr s.data.toList 1 4) (getOr s.data.toList 5 2) (getOr s.data.toList 7 1) (getOr s.data.toList 8 2) (s.extract 10 s.size) 0 0).2 = 0 ∧ (encR 1 (getOr s.data.toList 1 4) (getOr s.data.toList 5 2) (getOr s.data.toList 7 1) (getOr s.data.toList 8 2) (s.extract 10 s.size) 0 0).1 = s) : Calls Tryd.prog 17 #[.string s] w fun e w' => e = .returned (.tuple #[.agg (entC 1 (getOr s.data.toList 1 4) (getOr s.data.toList 5 2) (getOr s.data.toList 7 1) (getOr s.data.toList 8 2) (s.extract 10 s.size) 0 0), .int .i64 0]) ∧ Below w.heap.size w w' := by
  have e0 : (s.toList == []) = false := by have := full s h0; cases hl : s.toList with | nil => (rw [hl] at this; exact absurd this (by decide)) | cons => rfl
  have e1 : wrap64 (s[0].toNat : Int) = 1 := by rw [hk]; unfold wrap64; omega
  have f1 : ¬ ((s.size : Int) < 10) := by omega
  have f2 : (5 : Int) ≤ s.size := by omega
  have f3 : (7 : Int) ≤ s.size := by omega
  have f4 : (10 : Int) ≤ s.size := by omega
  have f5 : (7 : Int) < s.size := by omega
  have f6 : (8 : Int) ≤ s.size := by omega
  have e7 : IntKind.i64.wrap (s[7].toNat : Int) = (getOr s.data.toList 7 1 : Nat) := by have := s[7].toNat_lt; rw [byte_at s 7 (by omega), Go.IntWalk.i64_in _ (by omega)]
  have HN1 := hid fun (V : World) => narrow_at s 1 4 5 rfl (by omega) (by decide) V
  have HN5 := hid fun (V : World) => narrow_at s 5 2 7 rfl (by omega) (by decide) V
  have HN8 := hid fun (V : World) => narrow_at s 8 2 10 rfl (by omega) (by decide) V
  have HE := hid fun (V : World) => refenc_any 1 (getOr s.data.toList 1 4) (getOr s.data.toList 5 2) (getOr s.data.toList 7 1) (getOr s.data.toList 8 2) (s.extract 10 s.size) 0 0 V (by decide) (by decide)
  generalize getOr s.data.toList 1 4 = tx at *
  generalize getOr s.data.toList 5 2 = ix at *
  generalize getOr s.data.toList 7 1 = pk at *
  generalize getOr s.data.toList 8 2 = pn at *
  generalize encR 1 tx ix pk pn (s.extract 10 s.size) 0 0 = r at *
  obtain ⟨r1, r2⟩ := r
  dsimp only at HE hq
  obtain ⟨rfl, hq⟩ := hq
  have e8 : (r1.toList == s.toList) = true := by rw [hq]; simp
  clear hk hq
  go_enter Tryd.func17, Tryd.ntmps17
  go_wp2_with fail
  refine (HN1.out _).mono ?_
  rintro e w1 ⟨rfl, rfl⟩
  go_wp2_with fail
  refine (HN5.out _).mono ?_
  rintro e w1 ⟨rfl, rfl⟩
  have y0 : ((w.alloc (.cells (entC 0 0 0 0 0 ⟨#[]⟩ 0 0) 26)).alloc (.cells (entC 1 tx ix 0 0 ⟨#[]⟩ 0 0) 26)).cell? ⟨w.heap.size + 1, 0, none⟩ = some (.int .i64 1) := by rw [cell_of_row _ _ _ _ _ _ (second_at _ _ _)]; rfl
  go_wp2_with fail
  go_region_held3 (fun V => V.cell? ⟨w.heap.size + 1, 0, none⟩ = some (.int .i64 1)) (first | exact y0 | exact y1 | go_keep)
    (first
      | (go_at_call 31; with_reducible refine (HN8.out _).mono ?_; rintro e w1 ⟨rfl, rfl⟩; have y1 := y0)
      | fail)
  all_goals
    try rw [e7]
    clear e7 y0
    try clear y1
    have HXb := hid (show Below w.heap.size w (((w.alloc (.cells (entC 0 0 0 0 0 ⟨#[]⟩ 0 0) 26)).alloc (.cells (entC 1 tx ix pk pn (s.extract 10 s.size) 0 0) 26)).drew) from (((Below.refl w.heap.size w).alloc (Nat.le_refl _) _).alloc (by simp) _).drew)
    have HXs : w.heap.size + 1 < (((w.alloc (.cells (entC 0 0 0 0 0 ⟨#[]⟩ 0 0) 26)).alloc (.cells (entC 1 tx ix pk pn (s.extract 10 s.size) 0 0) 26)).drew).heap.size := by show _ < ((w.alloc _).alloc _).heap.size; simp
    have HX1 : (((w.alloc (.cells (entC 0 0 0 0 0 ⟨#[]⟩ 0 0) 26)).alloc (.cells (entC 1 tx ix pk pn (s.extract 10 s.size) 0 0) 26)).drew).heap[w.heap.size + 1]? = some (.cells (entC 1 tx ix pk pn (s.extract 10 s.size) 0 0) 26 (0, 0)) := second_at _ _ _
    have HX0 : (((w.alloc (.cells (entC 0 0 0 0 0 ⟨#[]⟩ 0 0) 26)).alloc (.cells (entC 1 tx ix pk pn (s.extract 10 s.size) 0 0) 26)).drew).heap[w.heap.size]? = some (.cells (entC 0 0 0 0 0 ⟨#[]⟩ 0 0) 26 (0, 0)) := (((Below.refl (w.alloc (.cells (entC 0 0 0 0 0 ⟨#[]⟩ 0 0) 26)).heap.size (w.alloc (.cells (entC 0 0 0 0 0 ⟨#[]⟩ 0 0) 26))).alloc (Nat.le_refl _) _).block w.heap.size (by simp)).trans (heap_alloc_new _ _)
    generalize (((w.alloc (.cells (entC 0 0 0 0 0 ⟨#[]⟩ 0 0) 26)).alloc (.cells (entC 1 tx ix pk pn (s.extract 10 s.size) 0 0) 26)).drew) = X at HXb HXs HX0 HX1 ⊢
    obtain ⟨d0, d1, d2, d3, d4, d5, d6, d7⟩ := ent_at HX1
    go_wp2_with fail
    refine (HE.out _).mono ?_
    rintro e w2 ⟨rfl, hb⟩
    have HB := hid (HXb.out.trans (hb.mono (by omega)))
    have HZ := hid (show w2.heap[w.heap.size]? = some (.cells (entC 0 0 0 0 0 ⟨#[]⟩ 0 0) 26 (0, 0)) from (hb.block w.heap.size (by omega)).trans HX0)
    obtain ⟨p0, p1, p2, p3, p4, p5, p6, p7⟩ := ent_at (show w2.heap[w.heap.size + 1]? = some (.cells (entC 1 tx ix pk pn (s.extract 10 s.size) 0 0) 26 (0, 0)) from (hb.block (w.heap.size + 1) HXs).trans HX1)
    clear hb d0 d1 d2 d3 d4 d5 d6 d7 HX0 HX1 HXs
    go_wp2_with (first | (refine wpList_store_whole rfl 26 (.tmp 2) (.tmp 75) (by with_reducible rfl) rfl w.heap.size (entC 1 tx ix pk pn (s.extract 10 s.size) 0 0) (by rfl) (by rfl) 26 (entC 0 0 0 0 0 ⟨#[]⟩ 0 0) HZ.out infoR (by rfl) (oneC _ _ _ _ _ _ _ _) ?_))
    obtain ⟨q0, q1, q2, q3, q4, q5, q6, q7⟩ := ent_at (setRow_heap _ _ _ (entC 1 tx ix pk pn (s.extract 10 s.size) 0 0) _ _ HZ.out)
    refine bodyPost_ret (v := .tuple #[.agg (entC 1 tx ix pk pn (s.extract 10 s.size) 0 0), .int .i64 0]) (by simp [results, Tryd.results17, go_sem, q0, q1, q2, q3, q4, q5, q6, q7]) rfl ⟨rfl, ?_⟩
    exact below_setRow HB.out (Nat.le_refl _) _
end Go.Proofs.YtigaddpjmgncmaaDoor.En
