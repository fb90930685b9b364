/- Box of a scale: its refusals. -/
import Derived.Test.YtmhjoeegghnlhaaScBox2
namespace Go.Proofs.Ytmhjoeegghnlhaa.Sc
open Go.RowKit
open Go.Lib (hid)
open Go.Proofs.Ytmhjoeegghnlhaa.Ky Go.Proofs.Ytmhjoeegghnlhaa.Bk

/-- the world behind the four boxes of Box's arguments and result -/
theorem box_world (w : World) (u1 u2 u3 : Value) : ∃ W, (((w.alloc (.cells #[u1] 23)).alloc (.cells #[u2] 35)).alloc (.cells #[u3] 35)).alloc (.cells #[.slice none 0 0, .slice none 0 0] 34) = W ∧
    Below w.heap.size w W ∧ (w.heap.size ≤ w.heap.size + 1 + 1 + 1 ∧ w.heap.size + 1 + 1 + 1 < W.heap.size) ∧ ∀ V : World, Below W.heap.size W V → V.cell? ⟨w.heap.size, 0, none⟩ = some u1 ∧ V.cell? ⟨w.heap.size + 1, 0, none⟩ = some u2 ∧ V.cell? ⟨w.heap.size + 1 + 1, 0, none⟩ = some u3 ∧ V.heap[w.heap.size + 1 + 1 + 1]? = some (.cells #[.slice none 0 0, .slice none 0 0] 34 (0, 0)) := by
  have t := three_new w (.cells #[u1] 23) (.cells #[u2] 35) (.cells #[u3] 35)
  obtain ⟨W, hW⟩ : ∃ W, (((w.alloc (.cells #[u1] 23)).alloc (.cells #[u2] 35)).alloc (.cells #[u3] 35)).alloc (.cells #[.slice none 0 0, .slice none 0 0] 34) = W := ⟨_, rfl⟩
  have a1 : W.heap[w.heap.size]? = some (.cells #[u1] 23 (0, 0)) := by rw [← hW]; exact (Below.heap_alloc _ _ _ (by rw [t.2.2.2]; omega)).trans t.1
  have a2 : W.heap[w.heap.size + 1]? = some (.cells #[u2] 35 (0, 0)) := by rw [← hW]; exact (Below.heap_alloc _ _ _ (by rw [t.2.2.2]; omega)).trans t.2.1
  have a3 : W.heap[w.heap.size + 1 + 1]? = some (.cells #[u3] 35 (0, 0)) := by rw [← hW]; exact (Below.heap_alloc _ _ _ (by rw [t.2.2.2]; omega)).trans t.2.2.1
  have a4 : W.heap[w.heap.size + 1 + 1 + 1]? = some (.cells #[.slice none 0 0, .slice none 0 0] 34 (0, 0)) := by
    rw [← hW, show w.heap.size + 1 + 1 + 1 = w.heap.size + 3 from rfl, ← t.2.2.2]; exact heap_alloc_new _ _
  refine ⟨W, hW, by rw [← hW]; exact (((below_alloc _ _).alloc (Nat.le_trans (Nat.le_refl _) (below_alloc _ _).size) _).alloc (by simp; omega) _).alloc (by simp; omega) _, ⟨by omega, lt_of a4⟩, fun V hV => ?_⟩
  have b1 := (hV.block _ (lt_of a1)).trans a1
  have b2 := (hV.block _ (lt_of a2)).trans a2
  have b3 := (hV.block _ (lt_of a3)).trans a3
  exact ⟨by rw [cell_of_row _ _ _ _ _ _ b1]; rfl, by rw [cell_of_row _ _ _ _ _ _ b2]; rfl, by rw [cell_of_row _ _ _ _ _ _ b3]; rfl, (hV.block _ (lt_of a4)).trans a4⟩
theorem box_no_post {w V : World} {k3 : Nat} (hb : Below w.heap.size w V) (hge : w.heap.size ≤ k3) :
    NewBox w [] [] (.int .i64 1) (.returned (.tuple #[.agg #[.slice none 0 0, .slice none 0 0], .int .i64 1])) ((V.setCell ⟨k3, 0, none⟩ (.slice none 0 0)).setCell ⟨k3, 1, none⟩ (.slice none 0 0)) :=
  ⟨none, 0, none, 0, rfl, Pt.nil _ _, Pt.nil _ _, (hb.setCell (p := ⟨k3, 0, none⟩) hge _).setCell (p := ⟨k3, 1, none⟩) hge _⟩
set_option maxRecDepth 100000 in
set_option maxHeartbeats 4000000 in
theorem box_few (P : Option Addr) (n n1 n2 : Nat) (p q : Option Addr) (c c' : Nat) (w : World) (hc : ∀ V : World, Below w.heap.size w V → Calls Try.prog 45 #[.pointer P] V fun e w' => e = .returned (.int .i64 (n : Int)) ∧ V = w')
    (hbad : n = 0 ∨ n1 ≠ n ∨ n2 ≠ n) :
    Calls Try.prog 22 #[.pointer P, .slice p n1 c, .slice q n2 c'] w (NewBox w [] [] (.int .i64 1)) := by
  obtain ⟨W, hW, hBW, hK, hST⟩ := box_world w (.pointer P) (.slice p n1 c) (.slice q n2 c')
  have HBW := hid hBW; have HK := hid hK; have HST := hid hST
  have HCO := hid (hc W hBW)
  obtain ⟨y1, y2, y3, y4⟩ := hST W (Below.refl _ _)
  obtain ⟨z0, z1, z2, z3⟩ := zero_cells y4
  have HP := hid (box_no_post (k3 := w.heap.size + 1 + 1 + 1) HBW.out HK.out.1)
  have HSO := hid (store_out (lo := []) (hi := []) (A := none) (A' := none) HBW.out HK.out.1 y4 (Pt.nil _ _) (Pt.nil _ _) (.slice none 0 0) (.slice none 0 0) (by simp))
  clear hBW hK hST hc y4
  by_cases b0 : n = 0
  · have e1 : ((n : Int) == 0) = true := by simp [b0]
    clear b0 hbad
    go_enter Try.func22, Try.ntmps22
    go_wp2_with fail
    refine HCO.out.mono ?_
    rintro e w1 ⟨rfl, rfl⟩
    clear hW
    generalize w.heap.size + 1 + 1 + 1 = k3 at *
    go_wp2_with fail
    have zz := HSO.out.2.2.2
    refine bodyPost_ret (v := .tuple #[.agg #[.slice none 0 0, .slice none 0 0], .int .i64 1]) (by simp [results, Try.results22, go_sem, zz]) rfl ?_
    exact HP.out
  · have e1 : ((n : Int) == 0) = false := by simp [b0]
    by_cases b1 : n1 = n
    · have e2 : ((n1 : Int) != (n : Int)) = false := by simp [b1]
      have e3 : ((n2 : Int) != (n : Int)) = true := by simp; omega
      clear b0 hbad b1
      go_enter Try.func22, Try.ntmps22
      go_wp2_with fail
      refine HCO.out.mono ?_
      rintro e w1 ⟨rfl, rfl⟩
      clear hW
      generalize w.heap.size + 1 + 1 + 1 = k3 at *
      go_wp2_with fail
      have zz := HSO.out.2.2.2
      refine bodyPost_ret (v := .tuple #[.agg #[.slice none 0 0, .slice none 0 0], .int .i64 1]) (by simp [results, Try.results22, go_sem, zz]) rfl ?_
      exact HP.out
    · have e2 : ((n1 : Int) != (n : Int)) = true := by simp; omega
      clear b0 hbad b1
      go_enter Try.func22, Try.ntmps22
      go_wp2_with fail
      refine HCO.out.mono ?_
      rintro e w1 ⟨rfl, rfl⟩
      clear hW
      generalize w.heap.size + 1 + 1 + 1 = k3 at *
      go_wp2_with fail
      have zz := HSO.out.2.2.2
      refine bodyPost_ret (v := .tuple #[.agg #[.slice none 0 0, .slice none 0 0], .int .i64 1]) (by simp [results, Try.results22, go_sem, zz]) rfl ?_
      exact HP.out
set_option maxRecDepth 100000 in
set_option maxHeartbeats 4000000 in
theorem box_fall (N b R : Nat) (vs : List Value) (bs : List (List Nat)) (lo hi : List Int) (p q : Option Addr) (c c' n : Nat) (w : World) (h : Sc N w b R vs bs) (hlo : Is w p lo) (hhi : Is w q hi) (hl : lo.length = n) (hh : hi.length = n) (hn : bs.length = n)
    (hr : (List.range n).all (riseS bs lo hi) = false) :
    Calls Try.prog 22 #[.pointer (some ⟨b, 0, none⟩), .slice p n c, .slice q n c'] w (NewBox w [] [] (.int .i64 1)) := by
  obtain ⟨W, hW, hBW, hK, hST⟩ := box_world w (.pointer (some ⟨b, 0, none⟩)) (.slice p n c) (.slice q n c')
  have HBW := hid hBW; have HK := hid hK; have HST := hid hST
  have hsc := h.next HBW.out
  have hlo1 := hlo.below HBW.out
  have hhi1 := hhi.below HBW.out
  have HCO := hid (coords_ok W hsc.cell.1)
  have hd := h.dim
  rw [hn] at hd HCO
  have HRI := hid fun (m i : Nat) (hin : i < n) => rise_ok N b R vs bs lo hi p q c c' n (w.heap.size + 1) (w.heap.size + 1 + 1) w.heap.size i (W.drewN m) (hsc.next (below_drewN (Below.refl _ _) m)) (hlo1.below (below_drewN (Below.refl _ _) m)) (hhi1.below (below_drewN (Below.refl _ _) m)) hl hh hn hin (HST.out _ (below_drewN (Below.refl _ _) m)).2.1 (HST.out _ (below_drewN (Below.refl _ _) m)).2.2.1 (HST.out _ (below_drewN (Below.refl _ _) m)).1
  have HAL := hid (allBox_ok n (riseS bs lo hi) (.pointer (some ⟨w.heap.size + 1, 0, none⟩)) (.pointer (some ⟨w.heap.size + 1 + 1, 0, none⟩)) (.pointer (some ⟨w.heap.size, 0, none⟩)) W (by omega) HRI.out)
  rw [hr] at HAL
  have e1 : ((n : Int) == 0) = false := by simp; omega
  obtain ⟨y1, y2, y3, y4⟩ := hST W (Below.refl _ _)
  clear h hlo hhi hl hh hr hn hsc hlo1 hhi1 hd HRI y4 hBW hK hST
  go_enter Try.func22, Try.ntmps22
  go_wp2_with fail
  refine HCO.out.mono ?_
  rintro e w1 ⟨rfl, rfl⟩
  clear hW
  generalize w.heap.size + 1 + 1 + 1 = k3 at *
  generalize w.heap.size + 1 + 1 = k2 at *
  generalize w.heap.size + 1 = k1 at *
  go_wp2_with fail
  refine HAL.out.mono ?_
  rintro e w1 ⟨rfl, nq, hw1⟩
  have HB1 := hid (show Below W.heap.size W w1 by rw [hw1]; exact below_drewN (Below.refl _ _) _)
  clear hw1 y1 y2 y3 e1 HCO HAL
  obtain ⟨y1, y2, y3, y4⟩ := HST.out _ HB1.out
  have HB2 := hid (HBW.out.trans (HB1.out.mono HBW.out.size))
  obtain ⟨z0, z1, z2, z3⟩ := zero_cells y4
  have HP := hid (box_no_post (k3 := k3) HB2.out HK.out.1)
  have HSO := hid (store_out (lo := []) (hi := []) (A := none) (A' := none) HB2.out HK.out.1 y4 (Pt.nil _ _) (Pt.nil _ _) (.slice none 0 0) (.slice none 0 0) (by simp))
  clear y4
  go_wp2_with fail
  have zz := HSO.out.2.2.2
  refine bodyPost_ret (v := .tuple #[.agg #[.slice none 0 0, .slice none 0 0], .int .i64 1]) (by simp [results, Try.results22, go_sem, zz]) rfl ?_
  exact HP.out
end Go.Proofs.Ytmhjoeegghnlhaa.Sc
