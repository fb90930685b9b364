/- Merged out of JnRead, ApGen, EnApp. -/
import Derived.Test.YtaonifdfhlbaiaaGreatDoorS13
import Derived.Test.YtaonifdfhlbaiaaGreatDoorRows
import Derived.WalkKit
import Derived.WalkSmall
import Derived.Lib.Hide
import Derived.LoopTactic
import Derived.RegionTactic
import Derived.ChangeAlike
import Derived.Below
import Derived.Deep.AppendLies
import Derived.Deep.AppendSrc
import Derived.Test.YtaonifdfhlbaiaaGreatDoorS12
/- Read of a journal's page. -/
namespace Go.Proofs.YtaonifdfhlbaiaaGreatDoor.Jn
open Go.RowKit
open Go.Lib (hid)
open Go.Proofs.YtaonifdfhlbaiaaGreatDoor.Dk
open Go.Proofs.YtaonifdfhlbaiaaGreatDoor.En (Lst entC encR mayE PageT Pgs ent_at infoC oneC)
open Go.Proofs.YtaonifdfhlbaiaaGreatDoor.Pg (sealL openL mayP)
open Go.Proofs.YtaonifdfhlbaiaaGreatDoor.Sm (U sumB wpList_store_whole)
theorem KS.less {K K' : Nat → Prop} {w w' : World} (h : KS K' w w') (hk : ∀ j, K j → K' j) : KS K w w' := ⟨h.os, h.tape, h.output, h.size, fun k hl e => h.block k hl (hk k e)⟩
theorem KS.setRow {K : Nat → Prop} {w w' : World} (h : KS K w w') (g : Nat) (cs : Array Value) (hg : w.heap.size ≤ g) : KS K w (w'.setRow g cs) :=
  ⟨h.os, h.tape, h.output, by rw [setRow_size]; exact h.size, fun k hl e => by rw [setRow_other _ _ _ _ (by omega)]; exact h.block k hl e⟩
theorem Cd.setRow {K : Nat → Prop} {D : Nat} {w : World} {s : St} (h : Cd K D w s) (g : Nat) (cs : Array Value) (hg : K g) : Cd K D (w.setRow g cs) s :=
  h.turn (by rw [setRow_size]; exact Nat.le_refl _) fun k _ hk => setRow_other _ _ _ _ (fun e => hk (e ▸ hg))
/-- what a page's text is read as, of a place and a transaction -/
def IsJ (u : ByteArray) (m i t : Nat) (kd pk pn : Int) (bo : ByteArray) (ct sm : Int) : Prop :=
  ∃ S : ByteArray, openL u.data.toList = (5, m, S.data.toList, 0) ∧ 0 ≤ sm ∧ sm < 4294967296 ∧ mayE kd t i pk pn bo ct sm ∧ (encR kd t i pk pn bo ct sm).1 = S
/-- what read gives: the entry, or none -/
def RdP (u : ByteArray) (m i t : Nat) (e : Ending) : Prop :=
  (∃ kd pk pn bo ct sm, IsJ u m i t kd pk pn bo ct sm ∧ e = .returned (.tuple #[.agg (entC kd t i pk pn bo ct sm), .bool true])) ∨
  ((∀ kd pk pn bo ct sm, ¬ IsJ u m i t kd pk pn bo ct sm) ∧ e = .returned (.tuple #[.agg (entC 0 0 0 0 0 ⟨#[]⟩ 0 0), .bool false]))
theorem body_small {l : List UInt8} {k n : Nat} {b : List UInt8} (h : openL l = (k, n, b, 0)) (hk : k ≠ 0) : b.length ≤ 244 ∧ n < 1000 := by
  obtain ⟨_, h1 | ⟨k', n', b', hm, _, ho⟩⟩ := Pg.open_back l (by rw [h])
  · rw [h1.2] at h; cases h; exact absurd rfl hk
  · rw [ho] at h; cases h; exact ⟨by have := hm.2.2.2.2; omega, by have := hm.2.2.2.1; omega⟩
section
variable {K : Nat → Prop} {J D b n t : Nat} {wr : World} {s : St}
set_option maxRecDepth 100000 in
set_option maxHeartbeats 4000000 in
theorem jr_a1 (h : Jk K J D wr s b n t) {k : Nat} (hf : Few s k) (hk : k < 1000000) (i : Nat) (m : Nat) (hm : b + i = m) (hmm : m < 1000) (u : ByteArray) (hu : (rdU s (m : Int)).1 = u) (k5 n2 e5 : Nat) (bl : List UInt8) (ho : openL u.data.toList = (k5, n2, bl, e5)) (he : e5 ≠ 0) :
    Calls Tryz.prog 50 #[.pointer (some ⟨J, 0, none⟩), .int .i64 (i : Int)] wr fun e w' => e = .returned (.tuple #[.agg (entC 0 0 0 0 0 ⟨#[]⟩ 0 0), .bool false]) ∧ Cd K D w' (rdU s (m : Int)).2.2 ∧ KS K wr w' := by
  have x1 : (((e5 : Nat) : Int) != 0) = true := by simp; omega
  clear he
  have HJ := hid (show Jk (fun j => K j ∨ j = wr.heap.size) J D (wr.alloc (.cells (entC 0 0 0 0 0 ⟨#[]⟩ 0 0) 72)) s b n t from ⟨h.cd.more ((Below.refl wr.heap.size wr).alloc (Nat.le_refl _) _) (fun k hk => hk.imp id (fun e => by omega)) (fun k hk => by
      rcases hk with hk | hk
      · have := h.cd.lt k hk; simp; omega
      · subst hk; simp), .inl h.kJ, .inl h.k0, h.j.below ((Below.refl wr.heap.size wr).alloc (Nat.le_refl _) _), h.lst.next h.lst.pos ((Below.refl wr.heap.size wr).alloc (Nat.le_refl _) _)⟩)
  have HX := hid (heap_alloc_new wr (.cells (entC 0 0 0 0 0 ⟨#[]⟩ 0 0) 72))
  have HB0 := hid (KS.of (K := K) ((Below.refl wr.heap.size wr).alloc (Nat.le_refl _) (.cells (entC 0 0 0 0 0 ⟨#[]⟩ 0 0) 72)))
  have HR := hid fun (V : World) (c : Cd (fun j => K j ∨ j = wr.heap.size) D V s) => (show Calls Tryz.prog 65 #[.pointer (some ⟨D, 0, none⟩), .int .i64 (m : Int)] V fun e w' => e = .returned (.tuple #[.string u, .int .i64 (rdU s (m : Int)).2.1]) ∧ Cd (fun j => K j ∨ j = wr.heap.size) D w' (rdU s (m : Int)).2.2 ∧ KS (fun j => K j ∨ j = wr.heap.size) V w' by
    have h2 := c.read hf hk (m : Int)
    rw [hu] at h2; exact h2)
  have hw : wrap64 ((b : Int) + (i : Int)) = (m : Int) := by unfold wrap64; omega
  clear h hm hu
  obtain ⟨j0, j1, j2, j3⟩ := HJ.out.j.cells
  generalize (rdU s (m : Int)).2.2 = s' at *
  generalize (rdU s (m : Int)).2.1 = c0 at *
  go_enter Tryz.func50, Tryz.ntmps50
  go_wp2_with fail
  refine (HR.out _ HJ.out.cd).mono ?_
  rintro e w1 ⟨rfl, hc, hks⟩
  have HJ1 := hid (HJ.out.step hc hks)
  have HB1 := hid (HB0.out.trans (KS.less hks (fun j e => .inl e)))
  have HX1 := hid ((hks.block wr.heap.size (by simp) (.inr rfl)).trans HX.out)
  clear hc hks j0 j1 j2 j3 HB0 HX HJ
  go_wp2_with fail
  refine (Pg.open_at u _ ho).mono ?_
  rintro e w2 ⟨rfl, hb⟩
  have HJ2 := hid (HJ1.out.next hb)
  have HB2 := hid (HB1.out.trans (KS.of hb))
  have HX2 := hid ((hb.block wr.heap.size (Array.getElem?_eq_some_iff.1 HX1.out).1).trans HX1.out)
  clear hb HJ1 HB1 HX1
  have A3 := hid ((Below.refl w2.heap.size w2).alloc (Nat.le_refl _) (.cells #[.int .i64 (k5 : Int), .int .i64 (n2 : Int), .string ⟨bl.toArray⟩] 62))
  have HJ3 := hid (HJ2.out.next A3.out)
  have HB3 := hid (HB2.out.trans (KS.of A3.out))
  have HX3 := hid ((A3.out.block wr.heap.size (Array.getElem?_eq_some_iff.1 HX2.out).1).trans HX2.out)
  go_wp2_with (first | (refine wpList_store_whole ?gd 72 (.tmp 4) (.tmp 45) (by with_reducible rfl) ?dd wr.heap.size ?cs ?xx ?yy 72 ?old ?hz ?i ?o ?n ?_))
  case gd => rfl
  case dd => rfl
  case cs => exact (entC 0 0 0 0 0 ⟨#[]⟩ 0 0)
  case xx => rfl
  case yy => rfl
  case old => exact (entC 0 0 0 0 0 ⟨#[]⟩ 0 0)
  case hz => exact HX3.out
  case i => exact infoC _ _ _ _ _ _ _ _
  case o => rfl
  case n => exact (oneC _ _ _ _ _ _ _ _)
  obtain ⟨q0, q1, q2, q3, q4, q5, q6, q7⟩ := ent_at (setRow_heap _ _ _ (entC 0 0 0 0 0 ⟨#[]⟩ 0 0) _ _ HX3.out)
  go_wp2_with fail
  refine bodyPost_ret (v := .tuple #[.agg (entC 0 0 0 0 0 ⟨#[]⟩ 0 0), .bool false]) (by simp [results, Tryz.results50, go_sem, q0, q1, q2, q3, q4, q5, q6, q7]) rfl ⟨rfl, ?_, ?_⟩
  · exact (Cd.setRow HJ3.out.cd wr.heap.size _ (.inr rfl)).less (fun j e => .inl e)
  · exact KS.setRow HB3.out _ _ (Nat.le_refl _)
set_option maxRecDepth 100000 in
set_option maxHeartbeats 4000000 in
theorem jr_a2 (h : Jk K J D wr s b n t) {k : Nat} (hf : Few s k) (hk : k < 1000000) (i : Nat) (m : Nat) (hm : b + i = m) (hmm : m < 1000) (u : ByteArray) (hu : (rdU s (m : Int)).1 = u) (k5 n2 : Nat) (bl : List UInt8) (ho : openL u.data.toList = (k5, n2, bl, 0)) (he : k5 ≠ 5) :
    Calls Tryz.prog 50 #[.pointer (some ⟨J, 0, none⟩), .int .i64 (i : Int)] wr fun e w' => e = .returned (.tuple #[.agg (entC 0 0 0 0 0 ⟨#[]⟩ 0 0), .bool false]) ∧ Cd K D w' (rdU s (m : Int)).2.2 ∧ KS K wr w' := by
  have x1 : (((k5 : Nat) : Int) != 5) = true := by simp; omega
  clear he
  have HJ := hid (show Jk (fun j => K j ∨ j = wr.heap.size) J D (wr.alloc (.cells (entC 0 0 0 0 0 ⟨#[]⟩ 0 0) 72)) s b n t from ⟨h.cd.more ((Below.refl wr.heap.size wr).alloc (Nat.le_refl _) _) (fun k hk => hk.imp id (fun e => by omega)) (fun k hk => by
      rcases hk with hk | hk
      · have := h.cd.lt k hk; simp; omega
      · subst hk; simp), .inl h.kJ, .inl h.k0, h.j.below ((Below.refl wr.heap.size wr).alloc (Nat.le_refl _) _), h.lst.next h.lst.pos ((Below.refl wr.heap.size wr).alloc (Nat.le_refl _) _)⟩)
  have HX := hid (heap_alloc_new wr (.cells (entC 0 0 0 0 0 ⟨#[]⟩ 0 0) 72))
  have HB0 := hid (KS.of (K := K) ((Below.refl wr.heap.size wr).alloc (Nat.le_refl _) (.cells (entC 0 0 0 0 0 ⟨#[]⟩ 0 0) 72)))
  have HR := hid fun (V : World) (c : Cd (fun j => K j ∨ j = wr.heap.size) D V s) => (show Calls Tryz.prog 65 #[.pointer (some ⟨D, 0, none⟩), .int .i64 (m : Int)] V fun e w' => e = .returned (.tuple #[.string u, .int .i64 (rdU s (m : Int)).2.1]) ∧ Cd (fun j => K j ∨ j = wr.heap.size) D w' (rdU s (m : Int)).2.2 ∧ KS (fun j => K j ∨ j = wr.heap.size) V w' by
    have h2 := c.read hf hk (m : Int)
    rw [hu] at h2; exact h2)
  have hw : wrap64 ((b : Int) + (i : Int)) = (m : Int) := by unfold wrap64; omega
  clear h hm hu
  obtain ⟨j0, j1, j2, j3⟩ := HJ.out.j.cells
  generalize (rdU s (m : Int)).2.2 = s' at *
  generalize (rdU s (m : Int)).2.1 = c0 at *
  go_enter Tryz.func50, Tryz.ntmps50
  go_wp2_with fail
  refine (HR.out _ HJ.out.cd).mono ?_
  rintro e w1 ⟨rfl, hc, hks⟩
  have HJ1 := hid (HJ.out.step hc hks)
  have HB1 := hid (HB0.out.trans (KS.less hks (fun j e => .inl e)))
  have HX1 := hid ((hks.block wr.heap.size (by simp) (.inr rfl)).trans HX.out)
  clear hc hks j0 j1 j2 j3 HB0 HX HJ
  go_wp2_with fail
  refine (Pg.open_at u _ ho).mono ?_
  rintro e w2 ⟨rfl, hb⟩
  have HJ2 := hid (HJ1.out.next hb)
  have HB2 := hid (HB1.out.trans (KS.of hb))
  have HX2 := hid ((hb.block wr.heap.size (Array.getElem?_eq_some_iff.1 HX1.out).1).trans HX1.out)
  clear hb HJ1 HB1 HX1
  have A3 := hid ((Below.refl w2.heap.size w2).alloc (Nat.le_refl _) (.cells #[.int .i64 (k5 : Int), .int .i64 (n2 : Int), .string ⟨bl.toArray⟩] 62))
  have HJ3 := hid (HJ2.out.next A3.out)
  have HB3 := hid (HB2.out.trans (KS.of A3.out))
  have HX3 := hid ((A3.out.block wr.heap.size (Array.getElem?_eq_some_iff.1 HX2.out).1).trans HX2.out)
  go_wp2_with (first | (refine wpList_store_whole ?gd 72 (.tmp 4) (.tmp 45) (by with_reducible rfl) ?dd wr.heap.size ?cs ?xx ?yy 72 ?old ?hz ?i ?o ?n ?_))
  case gd => rfl
  case dd => rfl
  case cs => exact (entC 0 0 0 0 0 ⟨#[]⟩ 0 0)
  case xx => rfl
  case yy => rfl
  case old => exact (entC 0 0 0 0 0 ⟨#[]⟩ 0 0)
  case hz => exact HX3.out
  case i => exact infoC _ _ _ _ _ _ _ _
  case o => rfl
  case n => exact (oneC _ _ _ _ _ _ _ _)
  obtain ⟨q0, q1, q2, q3, q4, q5, q6, q7⟩ := ent_at (setRow_heap _ _ _ (entC 0 0 0 0 0 ⟨#[]⟩ 0 0) _ _ HX3.out)
  go_wp2_with fail
  refine bodyPost_ret (v := .tuple #[.agg (entC 0 0 0 0 0 ⟨#[]⟩ 0 0), .bool false]) (by simp [results, Tryz.results50, go_sem, q0, q1, q2, q3, q4, q5, q6, q7]) rfl ⟨rfl, ?_, ?_⟩
  · exact (Cd.setRow HJ3.out.cd wr.heap.size _ (.inr rfl)).less (fun j e => .inl e)
  · exact KS.setRow HB3.out _ _ (Nat.le_refl _)
set_option maxRecDepth 100000 in
set_option maxHeartbeats 4000000 in
theorem jr_a3 (h : Jk K J D wr s b n t) {k : Nat} (hf : Few s k) (hk : k < 1000000) (i : Nat) (m : Nat) (hm : b + i = m) (hmm : m < 1000) (u : ByteArray) (hu : (rdU s (m : Int)).1 = u) (n2 : Nat) (bl : List UInt8) (ho : openL u.data.toList = (5, n2, bl, 0)) (he : n2 ≠ m) :
    Calls Tryz.prog 50 #[.pointer (some ⟨J, 0, none⟩), .int .i64 (i : Int)] wr fun e w' => e = .returned (.tuple #[.agg (entC 0 0 0 0 0 ⟨#[]⟩ 0 0), .bool false]) ∧ Cd K D w' (rdU s (m : Int)).2.2 ∧ KS K wr w' := by
  have x1 : (((n2 : Nat) : Int) != (m : Int)) = true := by simp; omega
  clear he
  have HJ := hid (show Jk (fun j => K j ∨ j = wr.heap.size) J D (wr.alloc (.cells (entC 0 0 0 0 0 ⟨#[]⟩ 0 0) 72)) s b n t from ⟨h.cd.more ((Below.refl wr.heap.size wr).alloc (Nat.le_refl _) _) (fun k hk => hk.imp id (fun e => by omega)) (fun k hk => by
      rcases hk with hk | hk
      · have := h.cd.lt k hk; simp; omega
      · subst hk; simp), .inl h.kJ, .inl h.k0, h.j.below ((Below.refl wr.heap.size wr).alloc (Nat.le_refl _) _), h.lst.next h.lst.pos ((Below.refl wr.heap.size wr).alloc (Nat.le_refl _) _)⟩)
  have HX := hid (heap_alloc_new wr (.cells (entC 0 0 0 0 0 ⟨#[]⟩ 0 0) 72))
  have HB0 := hid (KS.of (K := K) ((Below.refl wr.heap.size wr).alloc (Nat.le_refl _) (.cells (entC 0 0 0 0 0 ⟨#[]⟩ 0 0) 72)))
  have HR := hid fun (V : World) (c : Cd (fun j => K j ∨ j = wr.heap.size) D V s) => (show Calls Tryz.prog 65 #[.pointer (some ⟨D, 0, none⟩), .int .i64 (m : Int)] V fun e w' => e = .returned (.tuple #[.string u, .int .i64 (rdU s (m : Int)).2.1]) ∧ Cd (fun j => K j ∨ j = wr.heap.size) D w' (rdU s (m : Int)).2.2 ∧ KS (fun j => K j ∨ j = wr.heap.size) V w' by
    have h2 := c.read hf hk (m : Int)
    rw [hu] at h2; exact h2)
  have hw : wrap64 ((b : Int) + (i : Int)) = (m : Int) := by unfold wrap64; omega
  clear h hm hu
  obtain ⟨j0, j1, j2, j3⟩ := HJ.out.j.cells
  generalize (rdU s (m : Int)).2.2 = s' at *
  generalize (rdU s (m : Int)).2.1 = c0 at *
  go_enter Tryz.func50, Tryz.ntmps50
  go_wp2_with fail
  refine (HR.out _ HJ.out.cd).mono ?_
  rintro e w1 ⟨rfl, hc, hks⟩
  have HJ1 := hid (HJ.out.step hc hks)
  have HB1 := hid (HB0.out.trans (KS.less hks (fun j e => .inl e)))
  have HX1 := hid ((hks.block wr.heap.size (by simp) (.inr rfl)).trans HX.out)
  clear hc hks j0 j1 j2 j3 HB0 HX HJ
  go_wp2_with fail
  refine (Pg.open_at u _ ho).mono ?_
  rintro e w2 ⟨rfl, hb⟩
  have HJ2 := hid (HJ1.out.next hb)
  have HB2 := hid (HB1.out.trans (KS.of hb))
  have HX2 := hid ((hb.block wr.heap.size (Array.getElem?_eq_some_iff.1 HX1.out).1).trans HX1.out)
  clear hb HJ1 HB1 HX1
  have A3 := hid ((Below.refl w2.heap.size w2).alloc (Nat.le_refl _) (.cells #[.int .i64 5, .int .i64 (n2 : Int), .string ⟨bl.toArray⟩] 62))
  have HJ3 := hid (HJ2.out.next A3.out)
  have HB3 := hid (HB2.out.trans (KS.of A3.out))
  have HX3 := hid ((A3.out.block wr.heap.size (Array.getElem?_eq_some_iff.1 HX2.out).1).trans HX2.out)
  go_wp2_with (first | (refine wpList_store_whole ?gd 72 (.tmp 4) (.tmp 45) (by with_reducible rfl) ?dd wr.heap.size ?cs ?xx ?yy 72 ?old ?hz ?i ?o ?n ?_))
  case gd => rfl
  case dd => rfl
  case cs => exact (entC 0 0 0 0 0 ⟨#[]⟩ 0 0)
  case xx => rfl
  case yy => rfl
  case old => exact (entC 0 0 0 0 0 ⟨#[]⟩ 0 0)
  case hz => exact HX3.out
  case i => exact infoC _ _ _ _ _ _ _ _
  case o => rfl
  case n => exact (oneC _ _ _ _ _ _ _ _)
  obtain ⟨q0, q1, q2, q3, q4, q5, q6, q7⟩ := ent_at (setRow_heap _ _ _ (entC 0 0 0 0 0 ⟨#[]⟩ 0 0) _ _ HX3.out)
  go_wp2_with fail
  refine bodyPost_ret (v := .tuple #[.agg (entC 0 0 0 0 0 ⟨#[]⟩ 0 0), .bool false]) (by simp [results, Tryz.results50, go_sem, q0, q1, q2, q3, q4, q5, q6, q7]) rfl ⟨rfl, ?_, ?_⟩
  · exact (Cd.setRow HJ3.out.cd wr.heap.size _ (.inr rfl)).less (fun j e => .inl e)
  · exact KS.setRow HB3.out _ _ (Nat.le_refl _)
set_option maxRecDepth 100000 in
set_option maxHeartbeats 4000000 in
theorem jr_b1 (h : Jk K J D wr s b n t) {k : Nat} (hf : Few s k) (hk : k < 1000000) (i : Nat) (m : Nat) (hm : b + i = m) (hmm : m < 1000) (u : ByteArray) (hu : (rdU s (m : Int)).1 = u) (bl : List UInt8) (c : Int) (ho : openL u.data.toList = (5, m, bl, 0)) (hc : c ≠ 0) (hD : ∀ V : World, Lst V → Calls Tryz.prog 67 #[.string ⟨bl.toArray⟩] V fun e w' => e = .returned (.tuple #[.agg (entC 0 0 0 0 0 ⟨#[]⟩ 0 0), .int .i64 c]) ∧ Below V.heap.size V w') :
    Calls Tryz.prog 50 #[.pointer (some ⟨J, 0, none⟩), .int .i64 (i : Int)] wr fun e w' => e = .returned (.tuple #[.agg (entC 0 0 0 0 0 ⟨#[]⟩ 0 0), .bool false]) ∧ Cd K D w' (rdU s (m : Int)).2.2 ∧ KS K wr w' := by
  have x1 : (c != 0) = true := by simpa using hc
  clear hc
  have HD := hid hD
  clear hD
  have HJ := hid (show Jk (fun j => K j ∨ j = wr.heap.size) J D (wr.alloc (.cells (entC 0 0 0 0 0 ⟨#[]⟩ 0 0) 72)) s b n t from ⟨h.cd.more ((Below.refl wr.heap.size wr).alloc (Nat.le_refl _) _) (fun k hk => hk.imp id (fun e => by omega)) (fun k hk => by
      rcases hk with hk | hk
      · have := h.cd.lt k hk; simp; omega
      · subst hk; simp), .inl h.kJ, .inl h.k0, h.j.below ((Below.refl wr.heap.size wr).alloc (Nat.le_refl _) _), h.lst.next h.lst.pos ((Below.refl wr.heap.size wr).alloc (Nat.le_refl _) _)⟩)
  have HX := hid (heap_alloc_new wr (.cells (entC 0 0 0 0 0 ⟨#[]⟩ 0 0) 72))
  have HB0 := hid (KS.of (K := K) ((Below.refl wr.heap.size wr).alloc (Nat.le_refl _) (.cells (entC 0 0 0 0 0 ⟨#[]⟩ 0 0) 72)))
  have HR := hid fun (V : World) (c : Cd (fun j => K j ∨ j = wr.heap.size) D V s) => (show Calls Tryz.prog 65 #[.pointer (some ⟨D, 0, none⟩), .int .i64 (m : Int)] V fun e w' => e = .returned (.tuple #[.string u, .int .i64 (rdU s (m : Int)).2.1]) ∧ Cd (fun j => K j ∨ j = wr.heap.size) D w' (rdU s (m : Int)).2.2 ∧ KS (fun j => K j ∨ j = wr.heap.size) V w' by
    have h2 := c.read hf hk (m : Int)
    rw [hu] at h2; exact h2)
  have hw : wrap64 ((b : Int) + (i : Int)) = (m : Int) := by unfold wrap64; omega
  clear h hm hu
  obtain ⟨j0, j1, j2, j3⟩ := HJ.out.j.cells
  generalize (rdU s (m : Int)).2.2 = s' at *
  generalize (rdU s (m : Int)).2.1 = c0 at *
  go_enter Tryz.func50, Tryz.ntmps50
  go_wp2_with fail
  refine (HR.out _ HJ.out.cd).mono ?_
  rintro e w1 ⟨rfl, hc, hks⟩
  have HJ1 := hid (HJ.out.step hc hks)
  have HB1 := hid (HB0.out.trans (KS.less hks (fun j e => .inl e)))
  have HX1 := hid ((hks.block wr.heap.size (by simp) (.inr rfl)).trans HX.out)
  clear hc hks j0 j1 j2 j3 HB0 HX HJ
  go_wp2_with fail
  refine (Pg.open_at u _ ho).mono ?_
  rintro e w2 ⟨rfl, hb⟩
  have HJ2 := hid (HJ1.out.next hb)
  have HB2 := hid (HB1.out.trans (KS.of hb))
  have HX2 := hid ((hb.block wr.heap.size (Array.getElem?_eq_some_iff.1 HX1.out).1).trans HX1.out)
  clear hb HJ1 HB1 HX1
  have A3 := hid ((Below.refl w2.heap.size w2).alloc (Nat.le_refl _) (.cells #[.int .i64 5, .int .i64 (m : Int), .string ⟨bl.toArray⟩] 62))
  have HJ3 := hid (HJ2.out.next A3.out)
  have HB3 := hid (HB2.out.trans (KS.of A3.out))
  have HX3 := hid ((A3.out.block wr.heap.size (Array.getElem?_eq_some_iff.1 HX2.out).1).trans HX2.out)
  go_wp2_with fail
  refine (HD.out _ HJ3.out.lst).mono ?_
  rintro e w4 ⟨rfl, hb⟩
  have HJ4 := hid (HJ3.out.next hb)
  have HB4 := hid (HB3.out.trans (KS.of hb))
  have HX4 := hid ((hb.block wr.heap.size (Array.getElem?_eq_some_iff.1 HX3.out).1).trans HX3.out)
  clear hb HJ3 HB3 HX3 HJ2 HB2 HX2 A3
  have A5 := hid ((Below.refl w4.heap.size w4).alloc (Nat.le_refl _) (.cells (entC 0 0 0 0 0 ⟨#[]⟩ 0 0) 72))
  have HJ5 := hid (HJ4.out.next A5.out)
  have HB5 := hid (HB4.out.trans (KS.of A5.out))
  have HX5 := hid ((A5.out.block wr.heap.size (Array.getElem?_eq_some_iff.1 HX4.out).1).trans HX4.out)
  have HE5 := hid (heap_alloc_new w4 (.cells (entC 0 0 0 0 0 ⟨#[]⟩ 0 0) 72))
  go_wp2_with fail
  generalize w4.alloc (.cells (entC 0 0 0 0 0 ⟨#[]⟩ 0 0) 72) = w5 at *
  obtain ⟨j0, j1, j2, j3⟩ := HJ5.out.j.cells
  obtain ⟨p0, p1, p2, p3, p4, p5, p6, p7⟩ := ent_at HE5.out
  clear j0 j1 j2
  go_quiet (fail)
  have HJ6 := hid (HJ5.out.next (below_drewN (Below.refl _ _) nq))
  have HB6 := hid (HB5.out.trans (KS.of (below_drewN (Below.refl _ _) nq)))
  have HX6 := hid (show (w5.drewN nq).heap[wr.heap.size]? = some (.cells (entC 0 0 0 0 0 ⟨#[]⟩ 0 0) 72) from HX5.out)
  go_wp2_with (first | (refine wpList_store_whole ?gd 72 (.tmp 4) (.tmp 69) (by with_reducible rfl) ?dd wr.heap.size ?cs ?xx ?yy 72 ?old ?hz ?i ?o ?n ?_))
  case gd => rfl
  case dd => rfl
  case cs => exact (entC 0 0 0 0 0 ⟨#[]⟩ 0 0)
  case xx => rfl
  case yy => rfl
  case old => exact (entC 0 0 0 0 0 ⟨#[]⟩ 0 0)
  case hz => exact HX6.out
  case i => exact infoC _ _ _ _ _ _ _ _
  case o => rfl
  case n => exact (oneC _ _ _ _ _ _ _ _)
  obtain ⟨q0, q1, q2, q3, q4, q5, q6, q7⟩ := ent_at (setRow_heap _ _ _ (entC 0 0 0 0 0 ⟨#[]⟩ 0 0) _ _ HX6.out)
  go_wp2_with fail
  refine bodyPost_ret (v := .tuple #[.agg (entC 0 0 0 0 0 ⟨#[]⟩ 0 0), .bool false]) (by simp [results, Tryz.results50, go_sem, q0, q1, q2, q3, q4, q5, q6, q7]) rfl ⟨rfl, ?_, ?_⟩
  · exact (Cd.setRow HJ6.out.cd wr.heap.size _ (.inr rfl)).less (fun j e => .inl e)
  · exact KS.setRow HB6.out _ _ (Nat.le_refl _)
set_option maxRecDepth 100000 in
set_option maxHeartbeats 4000000 in
theorem jr_b2 (h : Jk K J D wr s b n t) {k : Nat} (hf : Few s k) (hk : k < 1000000) (i : Nat) (m : Nat) (hm : b + i = m) (hmm : m < 1000) (u : ByteArray) (hu : (rdU s (m : Int)).1 = u) (bl : List UInt8) (kd tx ix pk pn : Int) (bo : ByteArray) (ct sm : Int) (ho : openL u.data.toList = (5, m, bl, 0)) (hc : tx ≠ t) (hD : ∀ V : World, Lst V → Calls Tryz.prog 67 #[.string ⟨bl.toArray⟩] V fun e w' => e = .returned (.tuple #[.agg (entC kd tx ix pk pn bo ct sm), .int .i64 0]) ∧ Below V.heap.size V w') :
    Calls Tryz.prog 50 #[.pointer (some ⟨J, 0, none⟩), .int .i64 (i : Int)] wr fun e w' => e = .returned (.tuple #[.agg (entC 0 0 0 0 0 ⟨#[]⟩ 0 0), .bool false]) ∧ Cd K D w' (rdU s (m : Int)).2.2 ∧ KS K wr w' := by
  have x1 : (tx != (t : Int)) = true := by simpa using hc
  clear hc
  have HD := hid hD
  clear hD
  have HJ := hid (show Jk (fun j => K j ∨ j = wr.heap.size) J D (wr.alloc (.cells (entC 0 0 0 0 0 ⟨#[]⟩ 0 0) 72)) s b n t from ⟨h.cd.more ((Below.refl wr.heap.size wr).alloc (Nat.le_refl _) _) (fun k hk => hk.imp id (fun e => by omega)) (fun k hk => by
      rcases hk with hk | hk
      · have := h.cd.lt k hk; simp; omega
      · subst hk; simp), .inl h.kJ, .inl h.k0, h.j.below ((Below.refl wr.heap.size wr).alloc (Nat.le_refl _) _), h.lst.next h.lst.pos ((Below.refl wr.heap.size wr).alloc (Nat.le_refl _) _)⟩)
  have HX := hid (heap_alloc_new wr (.cells (entC 0 0 0 0 0 ⟨#[]⟩ 0 0) 72))
  have HB0 := hid (KS.of (K := K) ((Below.refl wr.heap.size wr).alloc (Nat.le_refl _) (.cells (entC 0 0 0 0 0 ⟨#[]⟩ 0 0) 72)))
  have HR := hid fun (V : World) (c : Cd (fun j => K j ∨ j = wr.heap.size) D V s) => (show Calls Tryz.prog 65 #[.pointer (some ⟨D, 0, none⟩), .int .i64 (m : Int)] V fun e w' => e = .returned (.tuple #[.string u, .int .i64 (rdU s (m : Int)).2.1]) ∧ Cd (fun j => K j ∨ j = wr.heap.size) D w' (rdU s (m : Int)).2.2 ∧ KS (fun j => K j ∨ j = wr.heap.size) V w' by
    have h2 := c.read hf hk (m : Int)
    rw [hu] at h2; exact h2)
  have hw : wrap64 ((b : Int) + (i : Int)) = (m : Int) := by unfold wrap64; omega
  clear h hm hu
  obtain ⟨j0, j1, j2, j3⟩ := HJ.out.j.cells
  generalize (rdU s (m : Int)).2.2 = s' at *
  generalize (rdU s (m : Int)).2.1 = c0 at *
  go_enter Tryz.func50, Tryz.ntmps50
  go_wp2_with fail
  refine (HR.out _ HJ.out.cd).mono ?_
  rintro e w1 ⟨rfl, hc, hks⟩
  have HJ1 := hid (HJ.out.step hc hks)
  have HB1 := hid (HB0.out.trans (KS.less hks (fun j e => .inl e)))
  have HX1 := hid ((hks.block wr.heap.size (by simp) (.inr rfl)).trans HX.out)
  clear hc hks j0 j1 j2 j3 HB0 HX HJ
  go_wp2_with fail
  refine (Pg.open_at u _ ho).mono ?_
  rintro e w2 ⟨rfl, hb⟩
  have HJ2 := hid (HJ1.out.next hb)
  have HB2 := hid (HB1.out.trans (KS.of hb))
  have HX2 := hid ((hb.block wr.heap.size (Array.getElem?_eq_some_iff.1 HX1.out).1).trans HX1.out)
  clear hb HJ1 HB1 HX1
  have A3 := hid ((Below.refl w2.heap.size w2).alloc (Nat.le_refl _) (.cells #[.int .i64 5, .int .i64 (m : Int), .string ⟨bl.toArray⟩] 62))
  have HJ3 := hid (HJ2.out.next A3.out)
  have HB3 := hid (HB2.out.trans (KS.of A3.out))
  have HX3 := hid ((A3.out.block wr.heap.size (Array.getElem?_eq_some_iff.1 HX2.out).1).trans HX2.out)
  go_wp2_with fail
  refine (HD.out _ HJ3.out.lst).mono ?_
  rintro e w4 ⟨rfl, hb⟩
  have HJ4 := hid (HJ3.out.next hb)
  have HB4 := hid (HB3.out.trans (KS.of hb))
  have HX4 := hid ((hb.block wr.heap.size (Array.getElem?_eq_some_iff.1 HX3.out).1).trans HX3.out)
  clear hb HJ3 HB3 HX3 HJ2 HB2 HX2 A3
  have A5 := hid ((Below.refl w4.heap.size w4).alloc (Nat.le_refl _) (.cells (entC kd tx ix pk pn bo ct sm) 72))
  have HJ5 := hid (HJ4.out.next A5.out)
  have HB5 := hid (HB4.out.trans (KS.of A5.out))
  have HX5 := hid ((A5.out.block wr.heap.size (Array.getElem?_eq_some_iff.1 HX4.out).1).trans HX4.out)
  have HE5 := hid (heap_alloc_new w4 (.cells (entC kd tx ix pk pn bo ct sm) 72))
  go_wp2_with fail
  generalize w4.alloc (.cells (entC kd tx ix pk pn bo ct sm) 72) = w5 at *
  obtain ⟨j0, j1, j2, j3⟩ := HJ5.out.j.cells
  obtain ⟨p0, p1, p2, p3, p4, p5, p6, p7⟩ := ent_at HE5.out
  clear j0 j1 j2
  go_quiet (fail)
  have HJ6 := hid (HJ5.out.next (below_drewN (Below.refl _ _) nq))
  have HB6 := hid (HB5.out.trans (KS.of (below_drewN (Below.refl _ _) nq)))
  have HX6 := hid (show (w5.drewN nq).heap[wr.heap.size]? = some (.cells (entC 0 0 0 0 0 ⟨#[]⟩ 0 0) 72) from HX5.out)
  go_wp2_with (first | (refine wpList_store_whole ?gd 72 (.tmp 4) (.tmp 69) (by with_reducible rfl) ?dd wr.heap.size ?cs ?xx ?yy 72 ?old ?hz ?i ?o ?n ?_))
  case gd => rfl
  case dd => rfl
  case cs => exact (entC 0 0 0 0 0 ⟨#[]⟩ 0 0)
  case xx => rfl
  case yy => rfl
  case old => exact (entC 0 0 0 0 0 ⟨#[]⟩ 0 0)
  case hz => exact HX6.out
  case i => exact infoC _ _ _ _ _ _ _ _
  case o => rfl
  case n => exact (oneC _ _ _ _ _ _ _ _)
  obtain ⟨q0, q1, q2, q3, q4, q5, q6, q7⟩ := ent_at (setRow_heap _ _ _ (entC 0 0 0 0 0 ⟨#[]⟩ 0 0) _ _ HX6.out)
  go_wp2_with fail
  refine bodyPost_ret (v := .tuple #[.agg (entC 0 0 0 0 0 ⟨#[]⟩ 0 0), .bool false]) (by simp [results, Tryz.results50, go_sem, q0, q1, q2, q3, q4, q5, q6, q7]) rfl ⟨rfl, ?_, ?_⟩
  · exact (Cd.setRow HJ6.out.cd wr.heap.size _ (.inr rfl)).less (fun j e => .inl e)
  · exact KS.setRow HB6.out _ _ (Nat.le_refl _)
set_option maxRecDepth 100000 in
set_option maxHeartbeats 4000000 in
theorem jr_b3 (h : Jk K J D wr s b n t) {k : Nat} (hf : Few s k) (hk : k < 1000000) (i : Nat) (m : Nat) (hm : b + i = m) (hmm : m < 1000) (u : ByteArray) (hu : (rdU s (m : Int)).1 = u) (bl : List UInt8) (kd ix pk pn : Int) (bo : ByteArray) (ct sm : Int) (ho : openL u.data.toList = (5, m, bl, 0)) (hc : ix ≠ i) (hD : ∀ V : World, Lst V → Calls Tryz.prog 67 #[.string ⟨bl.toArray⟩] V fun e w' => e = .returned (.tuple #[.agg (entC kd t ix pk pn bo ct sm), .int .i64 0]) ∧ Below V.heap.size V w') :
    Calls Tryz.prog 50 #[.pointer (some ⟨J, 0, none⟩), .int .i64 (i : Int)] wr fun e w' => e = .returned (.tuple #[.agg (entC 0 0 0 0 0 ⟨#[]⟩ 0 0), .bool false]) ∧ Cd K D w' (rdU s (m : Int)).2.2 ∧ KS K wr w' := by
  have x1 : (ix != (i : Int)) = true := by simpa using hc
  clear hc
  have HD := hid hD
  clear hD
  have HJ := hid (show Jk (fun j => K j ∨ j = wr.heap.size) J D (wr.alloc (.cells (entC 0 0 0 0 0 ⟨#[]⟩ 0 0) 72)) s b n t from ⟨h.cd.more ((Below.refl wr.heap.size wr).alloc (Nat.le_refl _) _) (fun k hk => hk.imp id (fun e => by omega)) (fun k hk => by
      rcases hk with hk | hk
      · have := h.cd.lt k hk; simp; omega
      · subst hk; simp), .inl h.kJ, .inl h.k0, h.j.below ((Below.refl wr.heap.size wr).alloc (Nat.le_refl _) _), h.lst.next h.lst.pos ((Below.refl wr.heap.size wr).alloc (Nat.le_refl _) _)⟩)
  have HX := hid (heap_alloc_new wr (.cells (entC 0 0 0 0 0 ⟨#[]⟩ 0 0) 72))
  have HB0 := hid (KS.of (K := K) ((Below.refl wr.heap.size wr).alloc (Nat.le_refl _) (.cells (entC 0 0 0 0 0 ⟨#[]⟩ 0 0) 72)))
  have HR := hid fun (V : World) (c : Cd (fun j => K j ∨ j = wr.heap.size) D V s) => (show Calls Tryz.prog 65 #[.pointer (some ⟨D, 0, none⟩), .int .i64 (m : Int)] V fun e w' => e = .returned (.tuple #[.string u, .int .i64 (rdU s (m : Int)).2.1]) ∧ Cd (fun j => K j ∨ j = wr.heap.size) D w' (rdU s (m : Int)).2.2 ∧ KS (fun j => K j ∨ j = wr.heap.size) V w' by
    have h2 := c.read hf hk (m : Int)
    rw [hu] at h2; exact h2)
  have hw : wrap64 ((b : Int) + (i : Int)) = (m : Int) := by unfold wrap64; omega
  clear h hm hu
  obtain ⟨j0, j1, j2, j3⟩ := HJ.out.j.cells
  generalize (rdU s (m : Int)).2.2 = s' at *
  generalize (rdU s (m : Int)).2.1 = c0 at *
  go_enter Tryz.func50, Tryz.ntmps50
  go_wp2_with fail
  refine (HR.out _ HJ.out.cd).mono ?_
  rintro e w1 ⟨rfl, hc, hks⟩
  have HJ1 := hid (HJ.out.step hc hks)
  have HB1 := hid (HB0.out.trans (KS.less hks (fun j e => .inl e)))
  have HX1 := hid ((hks.block wr.heap.size (by simp) (.inr rfl)).trans HX.out)
  clear hc hks j0 j1 j2 j3 HB0 HX HJ
  go_wp2_with fail
  refine (Pg.open_at u _ ho).mono ?_
  rintro e w2 ⟨rfl, hb⟩
  have HJ2 := hid (HJ1.out.next hb)
  have HB2 := hid (HB1.out.trans (KS.of hb))
  have HX2 := hid ((hb.block wr.heap.size (Array.getElem?_eq_some_iff.1 HX1.out).1).trans HX1.out)
  clear hb HJ1 HB1 HX1
  have A3 := hid ((Below.refl w2.heap.size w2).alloc (Nat.le_refl _) (.cells #[.int .i64 5, .int .i64 (m : Int), .string ⟨bl.toArray⟩] 62))
  have HJ3 := hid (HJ2.out.next A3.out)
  have HB3 := hid (HB2.out.trans (KS.of A3.out))
  have HX3 := hid ((A3.out.block wr.heap.size (Array.getElem?_eq_some_iff.1 HX2.out).1).trans HX2.out)
  go_wp2_with fail
  refine (HD.out _ HJ3.out.lst).mono ?_
  rintro e w4 ⟨rfl, hb⟩
  have HJ4 := hid (HJ3.out.next hb)
  have HB4 := hid (HB3.out.trans (KS.of hb))
  have HX4 := hid ((hb.block wr.heap.size (Array.getElem?_eq_some_iff.1 HX3.out).1).trans HX3.out)
  clear hb HJ3 HB3 HX3 HJ2 HB2 HX2 A3
  have A5 := hid ((Below.refl w4.heap.size w4).alloc (Nat.le_refl _) (.cells (entC kd t ix pk pn bo ct sm) 72))
  have HJ5 := hid (HJ4.out.next A5.out)
  have HB5 := hid (HB4.out.trans (KS.of A5.out))
  have HX5 := hid ((A5.out.block wr.heap.size (Array.getElem?_eq_some_iff.1 HX4.out).1).trans HX4.out)
  have HE5 := hid (heap_alloc_new w4 (.cells (entC kd t ix pk pn bo ct sm) 72))
  go_wp2_with fail
  generalize w4.alloc (.cells (entC kd t ix pk pn bo ct sm) 72) = w5 at *
  obtain ⟨j0, j1, j2, j3⟩ := HJ5.out.j.cells
  obtain ⟨p0, p1, p2, p3, p4, p5, p6, p7⟩ := ent_at HE5.out
  clear j0 j1 j2
  go_quiet (fail)
  have HJ6 := hid (HJ5.out.next (below_drewN (Below.refl _ _) nq))
  have HB6 := hid (HB5.out.trans (KS.of (below_drewN (Below.refl _ _) nq)))
  have HX6 := hid (show (w5.drewN nq).heap[wr.heap.size]? = some (.cells (entC 0 0 0 0 0 ⟨#[]⟩ 0 0) 72) from HX5.out)
  go_wp2_with (first | (refine wpList_store_whole ?gd 72 (.tmp 4) (.tmp 69) (by with_reducible rfl) ?dd wr.heap.size ?cs ?xx ?yy 72 ?old ?hz ?i ?o ?n ?_))
  case gd => rfl
  case dd => rfl
  case cs => exact (entC 0 0 0 0 0 ⟨#[]⟩ 0 0)
  case xx => rfl
  case yy => rfl
  case old => exact (entC 0 0 0 0 0 ⟨#[]⟩ 0 0)
  case hz => exact HX6.out
  case i => exact infoC _ _ _ _ _ _ _ _
  case o => rfl
  case n => exact (oneC _ _ _ _ _ _ _ _)
  obtain ⟨q0, q1, q2, q3, q4, q5, q6, q7⟩ := ent_at (setRow_heap _ _ _ (entC 0 0 0 0 0 ⟨#[]⟩ 0 0) _ _ HX6.out)
  go_wp2_with fail
  refine bodyPost_ret (v := .tuple #[.agg (entC 0 0 0 0 0 ⟨#[]⟩ 0 0), .bool false]) (by simp [results, Tryz.results50, go_sem, q0, q1, q2, q3, q4, q5, q6, q7]) rfl ⟨rfl, ?_, ?_⟩
  · exact (Cd.setRow HJ6.out.cd wr.heap.size _ (.inr rfl)).less (fun j e => .inl e)
  · exact KS.setRow HB6.out _ _ (Nat.le_refl _)
set_option maxRecDepth 100000 in
set_option maxHeartbeats 4000000 in
theorem jr_ok (h : Jk K J D wr s b n t) {k : Nat} (hf : Few s k) (hk : k < 1000000) (i : Nat) (m : Nat) (hm : b + i = m) (hmm : m < 1000) (u : ByteArray) (hu : (rdU s (m : Int)).1 = u) (bl : List UInt8) (kd pk pn : Int) (bo : ByteArray) (ct sm : Int) (ho : openL u.data.toList = (5, m, bl, 0))  (hD : ∀ V : World, Lst V → Calls Tryz.prog 67 #[.string ⟨bl.toArray⟩] V fun e w' => e = .returned (.tuple #[.agg (entC kd t i pk pn bo ct sm), .int .i64 0]) ∧ Below V.heap.size V w') :
    Calls Tryz.prog 50 #[.pointer (some ⟨J, 0, none⟩), .int .i64 (i : Int)] wr fun e w' => e = .returned (.tuple #[.agg (entC kd t i pk pn bo ct sm), .bool true]) ∧ Cd K D w' (rdU s (m : Int)).2.2 ∧ KS K wr w' := by
  have HD := hid hD
  clear hD
  have HJ := hid (show Jk (fun j => K j ∨ j = wr.heap.size) J D (wr.alloc (.cells (entC 0 0 0 0 0 ⟨#[]⟩ 0 0) 72)) s b n t from ⟨h.cd.more ((Below.refl wr.heap.size wr).alloc (Nat.le_refl _) _) (fun k hk => hk.imp id (fun e => by omega)) (fun k hk => by
      rcases hk with hk | hk
      · have := h.cd.lt k hk; simp; omega
      · subst hk; simp), .inl h.kJ, .inl h.k0, h.j.below ((Below.refl wr.heap.size wr).alloc (Nat.le_refl _) _), h.lst.next h.lst.pos ((Below.refl wr.heap.size wr).alloc (Nat.le_refl _) _)⟩)
  have HX := hid (heap_alloc_new wr (.cells (entC 0 0 0 0 0 ⟨#[]⟩ 0 0) 72))
  have HB0 := hid (KS.of (K := K) ((Below.refl wr.heap.size wr).alloc (Nat.le_refl _) (.cells (entC 0 0 0 0 0 ⟨#[]⟩ 0 0) 72)))
  have HR := hid fun (V : World) (c : Cd (fun j => K j ∨ j = wr.heap.size) D V s) => (show Calls Tryz.prog 65 #[.pointer (some ⟨D, 0, none⟩), .int .i64 (m : Int)] V fun e w' => e = .returned (.tuple #[.string u, .int .i64 (rdU s (m : Int)).2.1]) ∧ Cd (fun j => K j ∨ j = wr.heap.size) D w' (rdU s (m : Int)).2.2 ∧ KS (fun j => K j ∨ j = wr.heap.size) V w' by
    have h2 := c.read hf hk (m : Int)
    rw [hu] at h2; exact h2)
  have hw : wrap64 ((b : Int) + (i : Int)) = (m : Int) := by unfold wrap64; omega
  clear h hm hu
  obtain ⟨j0, j1, j2, j3⟩ := HJ.out.j.cells
  generalize (rdU s (m : Int)).2.2 = s' at *
  generalize (rdU s (m : Int)).2.1 = c0 at *
  go_enter Tryz.func50, Tryz.ntmps50
  go_wp2_with fail
  refine (HR.out _ HJ.out.cd).mono ?_
  rintro e w1 ⟨rfl, hc, hks⟩
  have HJ1 := hid (HJ.out.step hc hks)
  have HB1 := hid (HB0.out.trans (KS.less hks (fun j e => .inl e)))
  have HX1 := hid ((hks.block wr.heap.size (by simp) (.inr rfl)).trans HX.out)
  clear hc hks j0 j1 j2 j3 HB0 HX HJ
  go_wp2_with fail
  refine (Pg.open_at u _ ho).mono ?_
  rintro e w2 ⟨rfl, hb⟩
  have HJ2 := hid (HJ1.out.next hb)
  have HB2 := hid (HB1.out.trans (KS.of hb))
  have HX2 := hid ((hb.block wr.heap.size (Array.getElem?_eq_some_iff.1 HX1.out).1).trans HX1.out)
  clear hb HJ1 HB1 HX1
  have A3 := hid ((Below.refl w2.heap.size w2).alloc (Nat.le_refl _) (.cells #[.int .i64 5, .int .i64 (m : Int), .string ⟨bl.toArray⟩] 62))
  have HJ3 := hid (HJ2.out.next A3.out)
  have HB3 := hid (HB2.out.trans (KS.of A3.out))
  have HX3 := hid ((A3.out.block wr.heap.size (Array.getElem?_eq_some_iff.1 HX2.out).1).trans HX2.out)
  go_wp2_with fail
  refine (HD.out _ HJ3.out.lst).mono ?_
  rintro e w4 ⟨rfl, hb⟩
  have HJ4 := hid (HJ3.out.next hb)
  have HB4 := hid (HB3.out.trans (KS.of hb))
  have HX4 := hid ((hb.block wr.heap.size (Array.getElem?_eq_some_iff.1 HX3.out).1).trans HX3.out)
  clear hb HJ3 HB3 HX3 HJ2 HB2 HX2 A3
  have A5 := hid ((Below.refl w4.heap.size w4).alloc (Nat.le_refl _) (.cells (entC kd t i pk pn bo ct sm) 72))
  have HJ5 := hid (HJ4.out.next A5.out)
  have HB5 := hid (HB4.out.trans (KS.of A5.out))
  have HX5 := hid ((A5.out.block wr.heap.size (Array.getElem?_eq_some_iff.1 HX4.out).1).trans HX4.out)
  have HE5 := hid (heap_alloc_new w4 (.cells (entC kd t i pk pn bo ct sm) 72))
  go_wp2_with fail
  generalize w4.alloc (.cells (entC kd t i pk pn bo ct sm) 72) = w5 at *
  obtain ⟨j0, j1, j2, j3⟩ := HJ5.out.j.cells
  obtain ⟨p0, p1, p2, p3, p4, p5, p6, p7⟩ := ent_at HE5.out
  clear j0 j1 j2
  go_quiet (fail)
  have HJ6 := hid (HJ5.out.next (below_drewN (Below.refl _ _) nq))
  have HB6 := hid (HB5.out.trans (KS.of (below_drewN (Below.refl _ _) nq)))
  have HX6 := hid (show (w5.drewN nq).heap[wr.heap.size]? = some (.cells (entC 0 0 0 0 0 ⟨#[]⟩ 0 0) 72) from HX5.out)
  go_wp2_with (first | (refine wpList_store_whole ?gd 72 (.tmp 4) (.tmp 70) (by with_reducible rfl) ?dd wr.heap.size ?cs ?xx ?yy 72 ?old ?hz ?i ?o ?n ?_))
  case gd => rfl
  case dd => rfl
  case cs => exact (entC kd t i pk pn bo ct sm)
  case xx => rfl
  case yy => rfl
  case old => exact (entC 0 0 0 0 0 ⟨#[]⟩ 0 0)
  case hz => exact HX6.out
  case i => exact infoC _ _ _ _ _ _ _ _
  case o => rfl
  case n => exact (oneC _ _ _ _ _ _ _ _)
  obtain ⟨q0, q1, q2, q3, q4, q5, q6, q7⟩ := ent_at (setRow_heap _ _ _ (entC kd t i pk pn bo ct sm) _ _ HX6.out)
  go_wp2_with fail
  refine bodyPost_ret (v := .tuple #[.agg (entC kd t i pk pn bo ct sm), .bool true]) (by simp [results, Tryz.results50, go_sem, q0, q1, q2, q3, q4, q5, q6, q7]) rfl ⟨rfl, ?_, ?_⟩
  · exact (Cd.setRow HJ6.out.cd wr.heap.size _ (.inr rfl)).less (fun j e => .inl e)
  · exact KS.setRow HB6.out _ _ (Nat.le_refl _)
theorem jread (h : Jk K J D wr s b n t) {k : Nat} (hf : Few s k) (hk : k < 1000000) (i : Nat) (hmm : b + i < 1000) :
    Calls Tryz.prog 50 #[.pointer (some ⟨J, 0, none⟩), .int .i64 (i : Int)] wr fun e w' => RdP (rdU s ((b + i : Nat) : Int)).1 (b + i) i t e ∧ Cd K D w' (rdU s ((b + i : Nat) : Int)).2.2 ∧ KS K wr w' := by
  obtain ⟨u, hu⟩ : ∃ u, (rdU s ((b + i : Nat) : Int)).1 = u := ⟨_, rfl⟩
  rw [hu]
  obtain ⟨⟨k5, n2, bl, e5⟩, ho⟩ : ∃ r, openL u.data.toList = r := ⟨_, rfl⟩
  have no : ∀ (P : Prop), (∀ S : ByteArray, openL u.data.toList = (5, b + i, S.data.toList, 0) → P → False) → P → ∀ kd pk pn bo ct sm, ¬ IsJ u (b + i) i t kd pk pn bo ct sm := fun P h1 hP kd pk pn bo ct sm ⟨S, h2, _⟩ => h1 S h2 hP
  by_cases he : e5 = 0
  · subst he
    by_cases h5 : k5 = 5
    · subst h5
      by_cases hn : n2 = b + i
      · subst hn
        have hsm := body_small ho (by decide)
        have hS : (⟨bl.toArray⟩ : ByteArray).data.toList = bl := by simp
        rcases En.dec_any2 ⟨bl.toArray⟩ (by show bl.toArray.size ≤ _; rw [List.size_toArray]; omega) with ⟨c, hc, hno, hD⟩ | ⟨kd, tx, ix, pk, pn, bo, ct, sm, g0, g1, g2, gm, gq, hD⟩
        · refine (jr_b1 h hf hk i _ rfl hmm u hu bl c ho hc hD).mono fun e w' ⟨h1, h2⟩ => ⟨.inr ⟨fun kd pk pn bo ct sm ⟨S, a1, a2, a3, a4, a5⟩ => ?_, h1⟩, h2⟩
          rw [ho] at a1
          have e1 : S = ⟨bl.toArray⟩ := by
            apply ByteArray.ext
            apply Array.toList_inj.1
            injection a1 with _ a1; injection a1 with _ a1; injection a1 with a1 _
            rw [← a1]
          exact hno _ _ _ _ _ _ _ _ a2 a3 a4 (a5.trans e1)
        · by_cases hx : tx = t
          · subst hx
            by_cases hi : ix = i
            · subst hi
              exact (jr_ok h hf hk i _ rfl hmm u hu bl kd pk pn bo ct sm ho hD).mono fun e w' ⟨h1, h2⟩ => ⟨.inl ⟨kd, pk, pn, bo, ct, sm, ⟨_, by rw [hS]; exact ho, g0, g1, gm, gq⟩, h1⟩, h2⟩
            · refine (jr_b3 h hf hk i _ rfl hmm u hu bl kd ix pk pn bo ct sm ho hi hD).mono fun e w' ⟨h1, h2⟩ => ⟨.inr ⟨fun kd' pk' pn' bo' ct' sm' ⟨S, a1, a2, a3, a4, a5⟩ => ?_, h1⟩, h2⟩
              rw [ho] at a1
              have e1 : S = ⟨bl.toArray⟩ := by
                apply ByteArray.ext
                apply Array.toList_inj.1
                injection a1 with _ a1; injection a1 with _ a1; injection a1 with a1 _
                rw [← a1]
              have r1 := En.rd_enc a2 a3 a4
              have r2 := En.rd_enc g0 g1 gm
              rw [a5, e1] at r1
              rw [gq] at r2
              exact hi (r2.same r1).2.2.1
          · refine (jr_b2 h hf hk i _ rfl hmm u hu bl kd tx ix pk pn bo ct sm ho hx hD).mono fun e w' ⟨h1, h2⟩ => ⟨.inr ⟨fun kd' pk' pn' bo' ct' sm' ⟨S, a1, a2, a3, a4, a5⟩ => ?_, h1⟩, h2⟩
            rw [ho] at a1
            have e1 : S = ⟨bl.toArray⟩ := by
              apply ByteArray.ext
              apply Array.toList_inj.1
              injection a1 with _ a1; injection a1 with _ a1; injection a1 with a1 _
              rw [← a1]
            have r1 := En.rd_enc a2 a3 a4
            have r2 := En.rd_enc g0 g1 gm
            rw [a5, e1] at r1
            rw [gq] at r2
            exact hx (r2.same r1).2.1
      · exact (jr_a3 h hf hk i _ rfl hmm u hu n2 bl ho hn).mono fun e w' ⟨h1, h2⟩ => ⟨.inr ⟨no True (fun S h2 _ => by rw [ho] at h2; injection h2 with _ h2; injection h2 with h2 _; exact hn h2) trivial, h1⟩, h2⟩
    · exact (jr_a2 h hf hk i _ rfl hmm u hu k5 n2 bl ho h5).mono fun e w' ⟨h1, h2⟩ => ⟨.inr ⟨no True (fun S h2 _ => by rw [ho] at h2; injection h2 with h2 _; exact h5 h2) trivial, h1⟩, h2⟩
  · exact (jr_a1 h hf hk i _ rfl hmm u hu k5 n2 e5 bl ho he).mono fun e w' ⟨h1, h2⟩ => ⟨.inr ⟨no True (fun S h2 _ => by rw [ho] at h2; injection h2 with _ h2; injection h2 with _ h2; injection h2 with _ h2; exact he h2) trivial, h1⟩, h2⟩
end
end Go.Proofs.YtaonifdfhlbaiaaGreatDoor.Jn

/- Appends of whatever to whatever: onto a slice without room, and onto a row of the call's own (of no package: out of BkApp). -/
namespace Go.Proofs.YtaonifdfhlbaiaaGreatDoor.Ap
open Go.RowKit
open Go.Lib (hid)
theorem addr_add (b o i : Nat) : (⟨b, o, none⟩ : Addr).add i = ⟨b, o + i, none⟩ := by unfold Addr.add; split <;> simp_all
/-- cells that are read from a place on -/
def ReadAt (w : World) (p : Option Addr) (xs : List Value) : Prop := ∀ j u, xs[j]? = some u → ∃ b off, p = some ⟨b, off, none⟩ ∧ b < w.heap.size ∧ w.cell? ⟨b, off + j, none⟩ = some u
theorem ReadAt.below {w w' : World} {p : Option Addr} {xs : List Value} (h : ReadAt w p xs) (hb : Below w.heap.size w w') : ReadAt w' p xs := fun j u hj => by
  obtain ⟨b, off, e, hl, hc⟩ := h j u hj
  exact ⟨b, off, e, Nat.lt_of_lt_of_le hl hb.size, (hb.cell (p := ⟨b, _, none⟩) hl).trans hc⟩
theorem ReadAt.nil (w : World) (p : Option Addr) : ReadAt w p [] := fun j u hj => absurd hj (by simp)
theorem ReadAt.some_at {w : World} {p : Option Addr} {xs : List Value} (h : ReadAt w p xs) (h0 : 0 < xs.length) : ∃ b off, p = some ⟨b, off, none⟩ ∧ ∀ j u, xs[j]? = some u → w.cell? ((⟨b, off, none⟩ : Addr).add j) = some u := by
  obtain ⟨b, off, e, _, _⟩ := h 0 _ (List.getElem?_eq_getElem h0)
  refine ⟨b, off, e, fun j u hj => ?_⟩
  obtain ⟨b', off', e', _, hc⟩ := h j u hj
  rw [e] at e'
  cases e'
  rw [addr_add]; exact hc
theorem ReadAt.src {w : World} {p : Option Addr} {news : List Value} {P : Program} {t e : TypeId} {size m : Nat} (ht : P.underlying t = some (.slice e)) (h : ReadAt w p news) (hl : news.length = m * size) (hz : 0 < size) (h1 : ∀ u ∈ news, u.oneCell' = true) (c : Nat) : Src P size t (.slice p m c) m news w := by
  by_cases hm : m = 0
  · subst hm
    have hn : news = [] := List.length_eq_zero_iff.1 (by omega)
    subst hn
    cases p with
    | none => exact Src.ofNil w ht c
    | some a => exact Src.ofSlice w ht a 0 c [] (by simp) (fun j u hj => absurd hj (by simp)) (fun u hu => absurd hu (by simp))
  · obtain ⟨b, off, rfl, hc⟩ := h.some_at (by rw [hl]; exact Nat.mul_pos (by omega) hz)
    exact Src.ofSlice w ht _ m c news hl hc h1
/-- onto a slice that has no room -/
theorem run_app_full {P : Program} {w : World} {t e : TypeId} {i : TypeInfo} {z : Value} {size bytes : Nat} (ht : P.underlying t = some (.slice e)) (hi : P.info? e = some i) (hz : i.zero = some z)
    (hsize : i.size = size) (hby : i.bytes = bytes) (hzs : z.cells.size = size) (hsz : 0 < size) (ty : TypeId) (x : Option Addr) (n : Nat) (xs : List Value) (hx : ReadAt w x xs) (hxl : xs.length = n * size)
    (y : Value) (m : Nat) (news : List Value) (hs : Src P size t y m news w) (h63 : n + m ≤ maxLen) (hbytes : (n + m) * bytes ≤ 140737488355328) :
    ∃ p' c' w', (Builtin.append_ #[t, t] ty #[.slice x n n, y]).run P w = .ok (.slice p' (n + m) c') w' ∧ ReadAt w' p' (xs ++ news) ∧ Below w.heap.size w w' ∧ n + m ≤ c' ∧ (0 < m → w'.ownsRow w.heap.size e size (.slice p' (n + m) c') (n + m) (xs ++ news) ∧ p' = some ⟨w.heap.size, 0, none⟩) := by
  subst hsize
  subst hby
  by_cases hm : m = 0
  · subst hm
    have hn : news = [] := List.length_eq_zero_iff.1 (by have := hs.newsLen; omega)
    subst hn
    have hr : (Builtin.append_ #[t, t] ty #[.slice x n n, y]).run P w = .ok (.slice x (n + 0) n) w := by
      have hl := hs.len
      have hc := hs.cells
      rcases hs.kind with ⟨_, _⟩ | hk
      · cases x with
        | none =>
          have : n = 0 := by
            by_cases h0 : 0 < xs.length
            · obtain ⟨b, off, e1, _⟩ := hx.some_at h0; cases e1
            · rcases Nat.eq_zero_or_pos n with h | h
              · exact h
              · exact absurd (Nat.mul_pos h hsz) (by omega)
          subst this
          simp [Builtin.append_, run_underlying ht, sizeOf, typeInfo, hi, hl, hc]
        | some a =>
          simp [Builtin.append_, run_underlying ht, sizeOf, typeInfo, hi, hl, hc, storeCells]
      · rw [ht] at hk; cases hk
    refine ⟨x, n, w, hr, by rw [List.append_nil]; exact hx, Below.refl _ _, Nat.le_refl _, fun h => absurd h (by omega)⟩
  · have hold : (Builtin.firstCells i.size n (.slice x n n)).run P w.drew = .ok xs.toArray w.drew := by
      by_cases h0 : 0 < xs.length
      · obtain ⟨b, off, rfl, hc⟩ := hx.some_at h0
        exact run_firstCells_some w.drew i.size n _ n n xs hxl (by simpa using hc)
      · have hxn : xs = [] := List.length_eq_zero_iff.1 (by omega)
        subst hxn
        have hn0 : n = 0 := by
          rcases Nat.eq_zero_or_pos n with h | h
          · exact h
          · have := Nat.mul_pos h hsz; simp at hxl; omega
        subst hn0
        cases x with
        | none => exact run_firstCells_none w.drew i.size 0 0 0
        | some a => exact run_firstCells_some w.drew i.size 0 a 0 0 [] (by simp) (fun j u hj => absurd hj (by simp))
    have hr := run_append_grow_src (P := P) w t t ty e i z ht hi hz x n n xs hold y m news hs (by omega) (by unfold maxLen at h63; omega) (growslice_fits (by omega) hbytes)
    have hge := grownCap_ge w (n + m) n e
    have hcm := grownCap_le_maxLen w (n + m) n e h63
    generalize grownCap w (n + m) n e = cap at hr hge hcm
    have hsize : ((xs ++ news).toArray ++ Builtin.zeroCells z.cells (cap - (n + m))).size = cap * i.size := by
      have h1 := hs.newsLen
      have h2 : (Builtin.zeroCells z.cells (cap - (n + m))).size = (cap - (n + m)) * i.size := by
        rw [← hzs]
        simp [Builtin.zeroCells]
      rw [Array.size_append, h2, List.size_toArray, List.length_append, hxl, h1, ← Nat.add_mul, ← Nat.add_mul]
      congr 1; omega
    have htake : ((xs ++ news).toArray ++ Builtin.zeroCells z.cells (cap - (n + m))).toList.take ((n + m) * i.size) = xs ++ news := by
      rw [Array.toList_append]
      have hl : (xs ++ news).length = (n + m) * i.size := by rw [List.length_append, hxl, hs.newsLen, Nat.add_mul]
      rw [← hl]
      exact List.take_left
    have hheap : (w.drew.alloc (.cells ((xs ++ news).toArray ++ Builtin.zeroCells z.cells (cap - (n + m))) e)).heap[w.heap.size]? = some (.cells ((xs ++ news).toArray ++ Builtin.zeroCells z.cells (cap - (n + m))) e (0, 0)) := heap_alloc_new w.drew _
    refine ⟨_, _, _, hr, fun j u hj => ⟨w.heap.size, 0, rfl, by simp, ?_⟩, ((Below.refl _ _).drew.alloc (Nat.le_refl _) _), hge, fun _ => ⟨⟨by rw [List.length_append, hxl, hs.newsLen, Nat.add_mul], .inr ⟨w.heap.size, cap, _, rfl, Nat.le_refl _, hheap, hge, hcm, hsize, htake⟩⟩, rfl⟩⟩
    rw [cell_of_row _ _ _ _ _ _ hheap, Nat.zero_add]
    have hjl : j < (n + m) * i.size := by
      have := (List.getElem?_eq_some_iff.1 hj).1
      rw [List.length_append, hxl, hs.newsLen, ← Nat.add_mul] at this
      exact this
    rw [← htake, List.getElem?_take, if_pos hjl, Array.getElem?_toList] at hj
    exact hj
/-- onto a row of the call's own -/
theorem run_app_own {P : Program} {w : World} {t e : TypeId} {i : TypeInfo} {z : Value} {size bytes : Nat} (ht : P.underlying t = some (.slice e)) (hi : P.info? e = some i) (hz : i.zero = some z)
    (hsize : i.size = size) (hby : i.bytes = bytes) (hzs : z.cells.size = size) (hsz : 0 < size) (ty : TypeId) {base : Nat} (v : Value) (n : Nat) (xs : List Value) (hown : w.ownsRow base e size v n xs)
    (q : Option Addr) (m c : Nat) (news : List Value) (hq : ReadAt w q news) (hl : news.length = m * size) (h1 : ∀ u ∈ news, u.oneCell' = true) (h63 : n + m ≤ maxLen) (hbytes : (n + m) * bytes ≤ 140737488355328) (hbase : base ≤ w.heap.size) :
    ∃ v' w', (Builtin.append_ #[t, t] ty #[v, .slice q m c]).run P w = .ok v' w' ∧ w'.ownsRow base e size v' (n + m) (xs ++ news) ∧ w.grownBy w' v.ownBlock ∧ (v'.ownBlock = v.ownBlock ∨ v'.ownBlock = some w.heap.size) := by
  by_cases hm : m = 0
  · subst hm
    have hn : news = [] := List.length_eq_zero_iff.1 (by omega)
    subst hn
    have hr : (Builtin.append_ #[t, t] ty #[v, .slice q 0 c]).run P w = .ok v w := by
      subst hsize
      rcases hown.2 with ⟨rfl, rfl⟩ | ⟨g, cap, cur, rfl, _, _, hle, _⟩
      · cases q <;> simp [Builtin.append_, run_underlying ht, sizeOf, typeInfo, hi, Builtin.lenOf, Builtin.firstCells, loadCells, loadCellsFrom]
      · cases q <;> simp [Builtin.append_, run_underlying ht, sizeOf, typeInfo, hi, Builtin.lenOf, Builtin.firstCells, loadCells, loadCellsFrom, storeCells, hle]
    refine ⟨v, w, hr, by rw [List.append_nil]; exact hown, ⟨rfl, rfl, rfl, Nat.le_refl _, fun _ _ _ => rfl⟩, .inl rfl⟩
  · obtain ⟨b, off, rfl, hc⟩ := hq.some_at (by rw [hl]; exact Nat.mul_pos (by omega) hsz)
    obtain ⟨g, cap, w', hr, h2, h3, h4, _⟩ := run_append_lies (P := P) w t ty base e i z size bytes ht hi hz hsize hby hzs hsz v n xs hown ⟨b, off, none⟩ m c news hl hc h1 (by omega) h63 hbytes hbase w.heap.size rfl
    refine ⟨_, w', hr, h2, h3, ?_⟩
    rcases h4 with h4 | h4
    · exact .inl h4.symm
    · right; rw [h4]; rfl
section
variable {P : Program} {w : World} {ops : Array Oper} {o : Oper} {a : Act} {Q : Exit → Act → World → Prop}
theorem wp_app_run {K : Act → World → Prop} (s x : Operand) (t : TypeId) (ho : o.op = .call { callee := .builtin .append, args := #[s, x], argTypes := #[t, t] }) {v y v' : Value} {w' : World} (hs : a.eval s = v) (hx : a.eval x = y)
    (hr : (Builtin.append_ #[t, t] o.type #[v, y]).run P w = .ok v' w') (h : K (a.put o.dst v') w') : o.wp P a w K Q := by
  unfold Oper.wp execOp
  simp only [ho, resolve, invoke, builtin, Sem.run_bind, Sem.run_pure, Result.andThen_ok, List.map_toArray, List.map_cons, List.map_nil, hs, hx, hr]
  exact h
/-- an append at the walk: what it gives is told by 'F' -/
theorem wpList_app {rest : List Oper} (hgd : o.guard = none) (s x : Operand) (t : TypeId) (ho : o.op = .call { callee := .builtin .append, args := #[s, x], argTypes := #[t, t] }) {v y : Value} (hs : a.eval s = v) (hx : a.eval x = y) {F : Value → World → Prop}
    (hr : ∃ v' w', (Builtin.append_ #[t, t] o.type #[v, y]).run P w = .ok v' w' ∧ F v' w') (h : ∀ v' w', F v' w' → wpList P ops Q rest (a.put o.dst v') w') : wpList P ops Q (o :: rest) a w := by
  obtain ⟨v', w', hr, hf⟩ := hr
  exact wpList_plain hgd fun _ hK => wp_app_run s x t ho hs hx hr (hK _ _ (h v' w' hf))
theorem step_app {K : Act → World → Prop} {E : Prop} (hgd : o.guard = none) (s x : Operand) (t : TypeId) (ho : o.op = .call { callee := .builtin .append, args := #[s, x], argTypes := #[t, t] }) {v y : Value} (hs : a.eval s = v) (hx : a.eval x = y) {F : Value → World → Prop}
    (hr : ∃ v' w', (Builtin.append_ #[t, t] o.type #[v, y]).run P w = .ok v' w' ∧ F v' w') (h : ∀ v' w', F v' w' → K (a.put o.dst v') w') :
    if Region.wanted o (yielded ops a.tmps) = true then Oper.wp P o a w K Q else E := by
  have hw : Region.wanted o (yielded ops a.tmps) = true := by simp [Region.wanted, hgd]
  rw [if_pos hw]
  obtain ⟨v', w', hr, hf⟩ := hr
  exact wp_app_run s x t ho hs hx hr (h v' w' hf)
end
/-- what an append onto a slice without room gives -/
def Full (w : World) (e : TypeId) (size n m : Nat) (ys : List Value) (v' : Value) (w' : World) : Prop :=
  ∃ p' c', v' = .slice p' (n + m) c' ∧ ReadAt w' p' ys ∧ Below w.heap.size w w' ∧ n + m ≤ c' ∧ (0 < m → w'.ownsRow w.heap.size e size (.slice p' (n + m) c') (n + m) ys ∧ p' = some ⟨w.heap.size, 0, none⟩)
/-- what an append onto a row of the call's own gives -/
def Owns (w : World) (base : Nat) (e : TypeId) (size : Nat) (v : Value) (n : Nat) (ys : List Value) (v' : Value) (w' : World) : Prop :=
  w'.ownsRow base e size v' n ys ∧ w.grownBy w' v.ownBlock ∧ (v'.ownBlock = v.ownBlock ∨ v'.ownBlock = some w.heap.size)
theorem info_parts {P : Program} {e : TypeId} {z : Value} {s n : Nat} (h : (P.info? e).map (fun i => (i.zero, i.size, i.bytes)) = some (some z, s, n)) : ∃ i, P.info? e = some i ∧ i.zero = some z ∧ i.size = s ∧ i.bytes = n := by
  obtain ⟨i, h1, h2⟩ := Option.map_eq_some_iff.1 h
  simp only [Prod.mk.injEq] at h2
  exact ⟨i, h1, h2.1, h2.2.1, h2.2.2⟩
end Go.Proofs.YtaonifdfhlbaiaaGreatDoor.Ap

/- A list of pages, copied by an append into new memory; one body of it stored. -/
namespace Go.Proofs.YtaonifdfhlbaiaaGreatDoor.En
open Go.RowKit
open Go.Lib (hid)
open Go.Proofs.YtaonifdfhlbaiaaGreatDoor.Ap

def flatP (L : List PageT) : List Value := L.flatMap fun p => [.int .i64 p.1, .int .i64 p.2.1, .string p.2.2]
theorem flatP_cons (p : PageT) (L : List PageT) : flatP (p :: L) = .int .i64 p.1 :: .int .i64 p.2.1 :: .string p.2.2 :: flatP L := rfl
theorem flatP_length (L : List PageT) : (flatP L).length = L.length * 3 := by
  induction L with
  | nil => rfl
  | cons p L ih => rw [flatP_cons, List.length_cons, List.length_cons, List.length_cons, ih, List.length_cons]; omega
theorem flatP_one (L : List PageT) : ∀ u ∈ flatP L, u.oneCell' = true := fun u hu => by
  obtain ⟨p, _, h⟩ := List.mem_flatMap.1 hu
  simp only [List.mem_cons, List.not_mem_nil, or_false] at h
  rcases h with rfl | rfl | rfl <;> rfl
theorem flatP_at (L : List PageT) : ∀ i (h : i < L.length), (flatP L)[i * 3]? = some (.int .i64 L[i].1) ∧ (flatP L)[i * 3 + 1]? = some (.int .i64 L[i].2.1) ∧ (flatP L)[i * 3 + 2]? = some (.string L[i].2.2) := by
  induction L with
  | nil => intro i h; simp at h
  | cons p L ih =>
    intro i h
    rw [flatP_cons]
    cases i with
    | zero => exact ⟨rfl, rfl, rfl⟩
    | succ i =>
      have := ih i (by simpa using h)
      rw [show (i + 1) * 3 = i * 3 + 1 + 1 + 1 by omega]
      simpa using this
theorem Pgs.read {w : World} {p : Option Addr} {L : List PageT} (h : Pgs w p L) : ReadAt w p (flatP L) := fun j u hj => by
  have hjl : j < L.length * 3 := by rw [← flatP_length]; exact (List.getElem?_eq_some_iff.1 hj).1
  obtain ⟨i, r, rfl, hr⟩ : ∃ i r, j = i * 3 + r ∧ r < 3 := ⟨j / 3, j % 3, by omega, Nat.mod_lt _ (by decide)⟩
  have hi : i < L.length := by omega
  obtain ⟨b, off, e, hb, c0, c1, c2⟩ := h i hi
  obtain ⟨a0, a1, a2⟩ := flatP_at L i hi
  refine ⟨b, off, e, hb, ?_⟩
  rcases (by omega : r = 0 ∨ r = 1 ∨ r = 2) with rfl | rfl | rfl
  · rw [Nat.add_zero] at hj ⊢; rw [a0] at hj; cases hj; exact c0
  · rw [a1] at hj; cases hj; rw [← Nat.add_assoc]; exact c1
  · rw [a2] at hj; cases hj; rw [← Nat.add_assoc]; exact c2
theorem pinfo : (Tryz.prog.info? 62).map (fun i => (i.zero, i.size, i.bytes)) = some (some (.agg #[.int .i64 0, .int .i64 0, .string ⟨#[]⟩]), 3, 32) := by kernel_rfl
/-- pages in a block of the call's own, that may be written -/
structure Mine (w : World) (g : Nat) (M : List PageT) : Prop where
  cell : ∀ i (_ : i < M.length), w.cell? ⟨g, i * 3, none⟩ = some (.int .i64 M[i].1) ∧ w.cell? ⟨g, i * 3 + 1, none⟩ = some (.int .i64 M[i].2.1) ∧ w.cell? ⟨g, i * 3 + 2, none⟩ = some (.string M[i].2.2)
  free : ∀ j, w.frozen? ⟨g, j, none⟩ = false
  lt : g < w.heap.size
theorem Mine.below {w w' : World} {g : Nat} {M : List PageT} (h : Mine w g M) (hb : Below w.heap.size w w') : Mine w' g M :=
  ⟨fun i hi => by
    obtain ⟨c0, c1, c2⟩ := h.cell i hi
    exact ⟨(hb.cell (p := ⟨g, i * 3, none⟩) h.lt).trans c0, (hb.cell (p := ⟨g, i * 3 + 1, none⟩) h.lt).trans c1, (hb.cell (p := ⟨g, i * 3 + 2, none⟩) h.lt).trans c2⟩,
   fun j => (hb.frozen (p := ⟨g, j, none⟩) h.lt).trans (h.free j), Nat.lt_of_lt_of_le h.lt hb.size⟩
theorem Mine.pgs {w : World} {g : Nat} {M : List PageT} (h : Mine w g M) : Pgs w (some ⟨g, 0, none⟩) M := fun i hi => by
  obtain ⟨c0, c1, c2⟩ := h.cell i hi
  exact ⟨g, 0, rfl, h.lt, by rw [Nat.zero_add]; exact c0, by rw [Nat.zero_add]; exact c1, by rw [Nat.zero_add]; exact c2⟩
theorem Mine.set {w : World} {g : Nat} {M : List PageT} (h : Mine w g M) (k : Nat) (hk : k < M.length) (b : ByteArray) : Mine (w.setCell ⟨g, k * 3 + 2, none⟩ (.string b)) g (M.set k (M[k].1, M[k].2.1, b)) := by
  refine ⟨fun i hi => ?_, fun j => by rw [World.frozen?_setCell]; exact h.free j, by rw [World.size_setCell]; exact h.lt⟩
  have hi' : i < M.length := by simpa using hi
  obtain ⟨c0, c1, c2⟩ := h.cell i hi'
  by_cases e : k = i
  · subst e
    refine ⟨?_, ?_, ?_⟩
    · rw [World.cell?_setCell_other _ _ _ _ (by intro e2; injection e2; omega), c0]; simp
    · rw [World.cell?_setCell_other _ _ _ _ (by intro e2; injection e2; omega), c1]; simp
    · rw [World.cell?_setCell_same' _ _ _ (by rw [c2]; rfl)]; simp
  · refine ⟨?_, ?_, ?_⟩
    · rw [World.cell?_setCell_other _ _ _ _ (by intro e2; injection e2; omega), c0]; simp [e]
    · rw [World.cell?_setCell_other _ _ _ _ (by intro e2; injection e2; omega), c1]; simp [e]
    · rw [World.cell?_setCell_other _ _ _ _ (by intro e2; injection e2; omega), c2]; simp [e]
/-- what an append of pages onto no slice gives -/
def MineNew (w : World) (L : List PageT) (v' : Value) (w' : World) : Prop := ∃ c', v' = .slice (some ⟨w.heap.size, 0, none⟩) L.length c' ∧ Mine w' w.heap.size L ∧ Below w.heap.size w w'
theorem pages_new {w : World} (ty : TypeId) (q : Option Addr) (L : List PageT) (c n : Nat) (hn : L.length = n) (hq : Pgs w q L) (h0 : 0 < n) (hb : n ≤ 100000) :
    ∃ v' w', (Builtin.append_ #[39, 39] ty #[.slice none 0 0, .slice q n c]).run Tryz.prog w = .ok v' w' ∧ MineNew w L v' w' := by
  subst hn
  obtain ⟨i, hi, hz0, hz1, hz2⟩ := Ap.info_parts pinfo
  obtain ⟨p', c', w', hr, h1, h2, h3, h4⟩ := run_app_full (P := Tryz.prog) Tryz.underlying39 hi hz0 hz1 hz2 rfl (by decide) ty none 0 [] (ReadAt.nil w none) (by simp) (.slice q L.length c) L.length (flatP L) (hq.read.src Tryz.underlying39 (flatP_length L) (by decide) (flatP_one L) c) (by unfold maxLen; omega) (by omega)
  obtain ⟨h5, rfl⟩ := h4 h0
  rw [Nat.zero_add] at hr h5
  refine ⟨_, w', hr, c', rfl, ⟨fun i hi => ?_, fun j => ?_, ?_⟩, h2⟩
  · obtain ⟨a0, a1, a2⟩ := flatP_at L i hi
    have hc : ∀ j u, (flatP L)[j]? = some u → w'.cell? ⟨w.heap.size, j, none⟩ = some u := fun j u hj => by
      obtain ⟨b, off, e, _, hc⟩ := h1 j u (by simpa using hj)
      cases e
      rw [Nat.zero_add] at hc; exact hc
    exact ⟨hc _ _ a0, hc _ _ a1, hc _ _ a2⟩
  · rcases h5.2 with ⟨h6, h7⟩ | ⟨g, cap, cur, e, _, hh, _⟩
    · cases h6
    · cases e
      exact frozen_of_row _ _ _ _ _ hh
  · rcases h5.2 with ⟨h6, h7⟩ | ⟨g, cap, cur, e, _, hh, _⟩
    · cases h6
    · cases e
      exact (Array.getElem?_eq_some_iff.1 hh).1
end Go.Proofs.YtaonifdfhlbaiaaGreatDoor.En
