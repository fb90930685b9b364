/- Decode of entry: what it answers to a text. -/
import Derived.Test.YtigaddpjmgncmaaDoorEnRead
import Derived.Test.YtigaddpjmgncmaaDoorEnAny
namespace Go.Proofs.YtigaddpjmgncmaaDoor.En
open Go.RowKit
open Go.Lib (hid)
open Go.Proofs.YtigaddpjmgncmaaDoor.Fd (be be_length num getAt putAt)
open Go.Proofs.YtigaddpjmgncmaaDoor.Sm (wpList_store_whole)

/-- what read makes of a text: in an entry's parts -/
def Rd (s : ByteArray) (kd tx ix pk pn : Int) (b : ByteArray) (ct sm : Int) : Prop :=
  tx = (getOr s.data.toList 1 4 : Nat) ∧ ix = (getOr s.data.toList 5 2 : Nat) ∧ kd = (getOr s.data.toList 0 1 : Nat) ∧
  ((kd = 1 ∧ 10 ≤ s.size ∧ pk = (getOr s.data.toList 7 1 : Nat) ∧ pn = (getOr s.data.toList 8 2 : Nat) ∧ b = ⟨(getAt s.data.toList 10 (s.size - 10)).toArray⟩ ∧ ct = 0 ∧ sm = 0) ∨
   (kd = 2 ∧ pk = 0 ∧ pn = 0 ∧ b = ⟨#[]⟩ ∧ ct = (getOr s.data.toList 7 2 : Nat) ∧ sm = (getOr s.data.toList 9 4 : Nat)) ∨
   (kd ≠ 1 ∧ kd ≠ 2 ∧ pk = 0 ∧ pn = 0 ∧ b = ⟨#[]⟩ ∧ ct = 0 ∧ sm = 0))
theorem read_any (s : ByteArray) (kd tx ix pk pn : Int) (b : ByteArray) (ct sm : Int) (w : World) (hs : s.size ≤ 4096) (h : Rd s kd tx ix pk pn b ct sm) :
    Calls Tryd.prog 30 #[.string s] w fun e w' => e = .returned (.agg (entC kd tx ix pk pn b ct sm)) ∧ Below w.heap.size w w' := by
  obtain ⟨rfl, rfl, rfl, ⟨h1, h10, rfl, rfl, rfl, rfl, rfl⟩ | ⟨h1, rfl, rfl, rfl, rfl, rfl⟩ | ⟨h1, h2, rfl, rfl, rfl, rfl, rfl⟩⟩ := h
  · rw [h1]; exact read_stage s w hs h10 (by omega)
  · rw [h1]; exact read_commit s w hs (by omega)
  · exact read_far s w hs (by omega) (by omega)
theorem Rd.fit {s : ByteArray} {kd tx ix pk pn : Int} {b : ByteArray} {ct sm : Int} (h : Rd s kd tx ix pk pn b ct sm) : tx ≤ 9223372036854775807 ∧ 0 ≤ sm ∧ sm < 4294967296 := by
  obtain ⟨h1, _, _, h2⟩ := h
  have := getOr_lt s.data.toList 1 4 (by decide)
  have := getOr_lt s.data.toList 9 4 (by decide)
  rcases h2 with h2 | h2 | h2
  · omega
  · omega
  · omega
theorem rd_ex (s : ByteArray) (h10 : getOr s.data.toList 0 1 = 1 → 10 ≤ s.size) : ∃ kd tx ix pk pn b ct sm, Rd s kd tx ix pk pn b ct sm := by
  by_cases h1 : getOr s.data.toList 0 1 = 1
  · exact ⟨_, _, _, _, _, _, _, _, rfl, rfl, rfl, .inl ⟨by omega, h10 h1, rfl, rfl, rfl, rfl, rfl⟩⟩
  · by_cases h2 : getOr s.data.toList 0 1 = 2
    · exact ⟨_, _, _, _, _, _, _, _, rfl, rfl, rfl, .inr (.inl ⟨by omega, rfl, rfl, rfl, rfl, rfl⟩)⟩
    · exact ⟨_, _, _, _, _, _, _, _, rfl, rfl, rfl, .inr (.inr ⟨by omega, by omega, rfl, rfl, rfl, rfl, rfl⟩)⟩
theorem Lst.next {w w' : World} (h : Lst w) (hp : 0 < w.heap.size) (hb : Below w.heap.size w w') : Lst w' :=
  ⟨(hb.cell (p := ⟨0, 0, none⟩) hp).trans h.c0, (hb.cell (p := ⟨0, 1, none⟩) hp).trans h.c1, (hb.cell (p := ⟨0, 2, none⟩) hp).trans h.c2, (hb.cell (p := ⟨0, 3, none⟩) hp).trans h.c3⟩
theorem Lst.pos {w : World} (h : Lst w) : 0 < w.heap.size := by
  rcases Nat.eq_zero_or_pos w.heap.size with h0 | h0
  · have hc := h.c0
    have hn : w.heap[0]? = none := by rw [Array.getElem?_eq_none]; omega
    simp [World.cell?, hn] at hc
  · exact h0
set_option maxRecDepth 100000 in
set_option maxHeartbeats 4000000 in
theorem decode_cut (s : ByteArray) (w : World) (hC : ∀ V : World, Lst V → Calls Tryd.prog 29 #[.string s] V fun e w' => e = .returned (.bool true) ∧ w' = V) (hL : Lst w) :
    Calls Tryd.prog 16 #[.string s] w fun e w' => e = .returned (.tuple #[.agg (entC 0 0 0 0 0 ⟨#[]⟩ 0 0), .int .i64 9]) ∧ Below w.heap.size w w' := by
  have HC := hid hC
  have HL := hid (hL.next hL.pos ((Below.refl _ _).alloc (Nat.le_refl _) (.cells (entC 0 0 0 0 0 ⟨#[]⟩ 0 0) 32)))
  clear hC hL
  go_enter Tryd.func16, Tryd.ntmps16
  go_wp2_with fail
  refine (HC.out _ HL.out).mono ?_
  rintro e w1 ⟨rfl, rfl⟩
  go_wp2_with fail
  refine bodyPost_ret (v := .tuple #[.agg (entC 0 0 0 0 0 ⟨#[]⟩ 0 0), .int .i64 9]) (by simp [results, Tryd.results16, go_sem]) rfl ⟨rfl, ?_⟩
  exact ((Below.refl _ _).alloc (Nat.le_refl _) _)
theorem ba_other {a b : ByteArray} (h : a ≠ b) : (a.toList == b.toList) = false := by
  rw [beq_eq_false_iff_ne]
  intro h2
  rw [Go.ByteArray.toList_eq, Go.ByteArray.toList_eq] at h2
  exact h (by apply ByteArray.ext; rw [← Array.toList_inj]; exact h2)
set_option maxRecDepth 100000 in
set_option maxHeartbeats 4000000 in
theorem decode_bad (s : ByteArray) (kd tx ix pk pn : Int) (b : ByteArray) (ct sm : Int) (w : World) (hs : s.size ≤ 4096) (hr : Rd s kd tx ix pk pn b ct sm) (hC : ∀ V : World, Lst V → Calls Tryd.prog 29 #[.string s] V fun e w' => e = .returned (.bool false) ∧ w' = V) (hL : Lst w) (hq : (encR kd tx ix pk pn b ct sm).1 ≠ s) :
    Calls Tryd.prog 16 #[.string s] w fun e w' => e = .returned (.tuple #[.agg (entC 0 0 0 0 0 ⟨#[]⟩ 0 0), .int .i64 6]) ∧ Below w.heap.size w w' := by
  have HC := hid hC
  have HR := hid fun (V : World) => read_any s kd tx ix pk pn b ct sm V hs hr
  have HE := hid fun (V : World) (hV : Lst V) => encode_any kd tx ix pk pn b ct sm V hV hr.fit.1 hr.fit.2.1 hr.fit.2.2
  have HL := hid (hL.next hL.pos ((Below.refl _ _).alloc (Nat.le_refl _) (.cells (entC 0 0 0 0 0 ⟨#[]⟩ 0 0) 32)))
  generalize encR kd tx ix pk pn b ct sm = r at *
  obtain ⟨r1, r2⟩ := r
  dsimp only at HE hq
  have e1 : (r1.toList == s.toList) = false := by exact ba_other hq
  clear hC hL hr hq
  go_enter Tryd.func16, Tryd.ntmps16
  go_wp2_with fail
  refine (HC.out _ HL.out).mono ?_
  rintro e w1 ⟨rfl, rfl⟩
  go_wp2_with fail
  refine (HR.out _).mono ?_
  rintro e w1 ⟨rfl, hb⟩
  have HB := hid (((Below.refl w.heap.size w).alloc (Nat.le_refl _) (.cells (entC 0 0 0 0 0 ⟨#[]⟩ 0 0) 32)).trans (hb.mono (by simp)))
  have HL1 := hid ((HL.out.next (by simp) hb).next (HL.out.next (by simp) hb).pos ((Below.refl _ _).alloc (Nat.le_refl _) (.cells (entC kd tx ix pk pn b ct sm) 32)))
  have HZ := hid fun (X : World) (hX : Below w1.heap.size w1 X) => (show X.heap[w.heap.size]? = some (.cells (entC 0 0 0 0 0 ⟨#[]⟩ 0 0) 32 (0, 0)) from (hX.block _ (by have := hb.size; simp at this; omega)).trans ((hb.block _ (by simp)).trans (heap_alloc_new _ _)))
  clear hb
  go_wp2_with fail
  refine (HE.out _ HL1.out).mono ?_
  rintro e w2 ⟨rfl, hb⟩
  have HB2 := hid (((Below.refl w1.heap.size w1).alloc (Nat.le_refl _) (.cells (entC kd tx ix pk pn b ct sm) 32)).trans (hb.mono (by simp)))
  have HZ2 := hid (HZ.out _ HB2.out)
  obtain ⟨p0, p1, p2, p3, p4, p5, p6, p7⟩ := ent_at ((hb.block w1.heap.size (by simp)).trans (heap_alloc_new _ _))
  clear hb
  go_wp2_with (first | (refine wpList_store_whole ?gd 32 (.tmp 2) (.tmp 20) (by with_reducible rfl) ?dd w.heap.size ?cs ?xx ?yy 32 ?old ?hz ?i ?o ?n ?_))
  case gd => rfl
  case dd => rfl
  case cs => exact (entC 0 0 0 0 0 ⟨#[]⟩ 0 0)
  case xx => rfl
  case yy => rfl
  case old => exact (entC 0 0 0 0 0 ⟨#[]⟩ 0 0)
  case hz => exact HZ2.out
  case i => exact infoC _ _ _ _ _ _ _ _
  case o => rfl
  case n => exact (oneC _ _ _ _ _ _ _ _)
  obtain ⟨q0, q1, q2, q3, q4, q5, q6, q7⟩ := ent_at (setRow_heap _ _ _ (entC 0 0 0 0 0 ⟨#[]⟩ 0 0) _ _ HZ2.out)
  go_wp2_with fail
  refine bodyPost_ret (v := .tuple #[.agg (entC 0 0 0 0 0 ⟨#[]⟩ 0 0), .int .i64 6]) (by simp [results, Tryd.results16, go_sem, q0, q1, q2, q3, q4, q5, q6, q7]) rfl ⟨rfl, ?_⟩
  exact below_setRow (HB.out.trans (HB2.out.mono HB.out.size)) (Nat.le_refl _) _
set_option maxRecDepth 100000 in
set_option maxHeartbeats 4000000 in
theorem decode_ok (s : ByteArray) (kd tx ix pk pn : Int) (b : ByteArray) (ct sm : Int) (w : World) (hs : s.size ≤ 4096) (hr : Rd s kd tx ix pk pn b ct sm) (hC : ∀ V : World, Lst V → Calls Tryd.prog 29 #[.string s] V fun e w' => e = .returned (.bool false) ∧ w' = V) (hL : Lst w) (hq : (encR kd tx ix pk pn b ct sm).1 = s) :
    Calls Tryd.prog 16 #[.string s] w fun e w' => e = .returned (.tuple #[.agg (entC kd tx ix pk pn b ct sm), .int .i64 0]) ∧ Below w.heap.size w w' := by
  have HC := hid hC
  have HR := hid fun (V : World) => read_any s kd tx ix pk pn b ct sm V hs hr
  have HE := hid fun (V : World) (hV : Lst V) => encode_any kd tx ix pk pn b ct sm V hV hr.fit.1 hr.fit.2.1 hr.fit.2.2
  have HL := hid (hL.next hL.pos ((Below.refl _ _).alloc (Nat.le_refl _) (.cells (entC 0 0 0 0 0 ⟨#[]⟩ 0 0) 32)))
  generalize encR kd tx ix pk pn b ct sm = r at *
  obtain ⟨r1, r2⟩ := r
  dsimp only at HE hq
  have e1 : (r1.toList == s.toList) = true := by rw [hq]; simp
  clear hC hL hr hq
  go_enter Tryd.func16, Tryd.ntmps16
  go_wp2_with fail
  refine (HC.out _ HL.out).mono ?_
  rintro e w1 ⟨rfl, rfl⟩
  go_wp2_with fail
  refine (HR.out _).mono ?_
  rintro e w1 ⟨rfl, hb⟩
  have HB := hid (((Below.refl w.heap.size w).alloc (Nat.le_refl _) (.cells (entC 0 0 0 0 0 ⟨#[]⟩ 0 0) 32)).trans (hb.mono (by simp)))
  have HL1 := hid ((HL.out.next (by simp) hb).next (HL.out.next (by simp) hb).pos ((Below.refl _ _).alloc (Nat.le_refl _) (.cells (entC kd tx ix pk pn b ct sm) 32)))
  have HZ := hid fun (X : World) (hX : Below w1.heap.size w1 X) => (show X.heap[w.heap.size]? = some (.cells (entC 0 0 0 0 0 ⟨#[]⟩ 0 0) 32 (0, 0)) from (hX.block _ (by have := hb.size; simp at this; omega)).trans ((hb.block _ (by simp)).trans (heap_alloc_new _ _)))
  clear hb
  go_wp2_with fail
  refine (HE.out _ HL1.out).mono ?_
  rintro e w2 ⟨rfl, hb⟩
  have HB2 := hid (((Below.refl w1.heap.size w1).alloc (Nat.le_refl _) (.cells (entC kd tx ix pk pn b ct sm) 32)).trans (hb.mono (by simp)))
  have HZ2 := hid (HZ.out _ HB2.out)
  obtain ⟨p0, p1, p2, p3, p4, p5, p6, p7⟩ := ent_at ((hb.block w1.heap.size (by simp)).trans (heap_alloc_new _ _))
  clear hb
  go_wp2_with (first | (refine wpList_store_whole ?gd 32 (.tmp 2) (.tmp 21) (by with_reducible rfl) ?dd w.heap.size ?cs ?xx ?yy 32 ?old ?hz ?i ?o ?n ?_))
  case gd => rfl
  case dd => rfl
  case cs => exact (entC kd tx ix pk pn b ct sm)
  case xx => rfl
  case yy => rfl
  case old => exact (entC 0 0 0 0 0 ⟨#[]⟩ 0 0)
  case hz => exact HZ2.out
  case i => exact infoC _ _ _ _ _ _ _ _
  case o => rfl
  case n => exact (oneC _ _ _ _ _ _ _ _)
  obtain ⟨q0, q1, q2, q3, q4, q5, q6, q7⟩ := ent_at (setRow_heap _ _ _ (entC kd tx ix pk pn b ct sm) _ _ HZ2.out)
  go_wp2_with fail
  refine bodyPost_ret (v := .tuple #[.agg (entC kd tx ix pk pn b ct sm), .int .i64 0]) (by simp [results, Tryd.results16, go_sem, q0, q1, q2, q3, q4, q5, q6, q7]) rfl ⟨rfl, ?_⟩
  exact below_setRow (HB.out.trans (HB2.out.mono HB.out.size)) (Nat.le_refl _) _
end Go.Proofs.YtigaddpjmgncmaaDoor.En
