/- EntrySums walked. -/
import Derived.Test.YtigaddpjmgncmaaDoorEnApp
import Derived.Test.YtigaddpjmgncmaaDoorEnByt
import Derived.Test.YtigaddpjmgncmaaDoorEnSmM
import Derived.Test.YtigaddpjmgncmaaDoorEnPgs
namespace Go.Proofs.YtigaddpjmgncmaaDoor.En
open Go.RowKit
open Go.Lib (hid)
open Go.Proofs.YtigaddpjmgncmaaDoor.Sm (U sumB)
open Go.Proofs.YtigaddpjmgncmaaDoor.Ap
theorem below_drewN {B : Nat} {w w' : World} (h : Below B w w') (n : Nat) : Below B w (w'.drewN n) := ⟨h.os, h.tape, h.output, h.size, h.block⟩
set_option maxRecDepth 100000 in
set_option maxHeartbeats 4000000 in
theorem sms_bad1
    (p : Option Addr) (L : List PageT) (n cap : Nat) (kk aa rr : Int) (w : World) (hL : Lst w) (hp : Pgs w p L) (hn : L.length = n) (h : 60 < n) :
    Calls Tryd.prog 6 #[.agg #[.slice p n cap, .int .i64 (kk : Int), .int .i64 (aa : Int), .int .i64 (rr : Int)]] w fun e w' => e = .returned (.bool true) ∧ Below w.heap.size w w' := by
  have HL := hid hL
  have HP := hid hL.pos
  have HG := hid hp
  have HN := hid hn
  clear hL hp hn
  obtain ⟨W, hW⟩ : ∃ W, w.alloc (.cells #[.slice p n cap, .int .i64 (kk : Int), .int .i64 (aa : Int), .int .i64 (rr : Int)] 47) = W := ⟨_, rfl⟩
  have HB := hid (show Below w.heap.size w W by rw [← hW]; exact (Below.refl w.heap.size w).alloc (Nat.le_refl _) _)
  have hg : W.heap[w.heap.size]? = some (.cells #[.slice p n cap, .int .i64 (kk : Int), .int .i64 (aa : Int), .int .i64 (rr : Int)] 47) := by rw [← hW]; exact heap_alloc_new _ _
  have x0 : W.cell? ⟨w.heap.size, 0, none⟩ = some (.slice p n cap) := by rw [cell_of_row _ _ _ _ _ _ hg]; rfl
  have x1 : W.cell? ⟨w.heap.size, 1, none⟩ = some (.int .i64 (kk : Int)) := by rw [cell_of_row _ _ _ _ _ _ hg]; rfl
  have x2 : W.cell? ⟨w.heap.size, 2, none⟩ = some (.int .i64 (aa : Int)) := by rw [cell_of_row _ _ _ _ _ _ hg]; rfl
  have x3 : W.cell? ⟨w.heap.size, 3, none⟩ = some (.int .i64 (rr : Int)) := by rw [cell_of_row _ _ _ _ _ _ hg]; rfl
  clear hg
  have t10 : decide ((60 : Int) < (n : Int)) = true := by first | (simp; done) | (simp; omega)
  have t11 : decide (60 < n) = true := by first | (simp; done) | (simp; omega)
  go_enter Tryd.func6, Tryd.ntmps6
  go_wp2_with fail
  go_quiet (fail)
  go_wp2_with fail
  refine (live_any _ (HL.out.next HP.out (below_drewN HB.out _))).mono ?_
  rintro e w2 ⟨rfl, hb⟩
  have H1 := hid (HB.out.trans (((below_drewN (Below.refl W.heap.size W) _).trans hb).mono HB.out.size))
  clear hb
  go_wp2_with fail
  go_ret
  exact ⟨rfl, H1.out⟩
set_option maxRecDepth 100000 in
set_option maxHeartbeats 4000000 in
theorem sms_bad2
    (p : Option Addr) (L : List PageT) (n cap : Nat) (kk aa rr : Int) (w : World) (hL : Lst w) (hp : Pgs w p L) (hn : L.length = n) (h1 : n ≤ 60) (h : kk < 0) :
    Calls Tryd.prog 6 #[.agg #[.slice p n cap, .int .i64 (kk : Int), .int .i64 (aa : Int), .int .i64 (rr : Int)]] w fun e w' => e = .returned (.bool true) ∧ Below w.heap.size w w' := by
  have HL := hid hL
  have HP := hid hL.pos
  have HG := hid hp
  have HN := hid hn
  clear hL hp hn
  obtain ⟨W, hW⟩ : ∃ W, w.alloc (.cells #[.slice p n cap, .int .i64 (kk : Int), .int .i64 (aa : Int), .int .i64 (rr : Int)] 47) = W := ⟨_, rfl⟩
  have HB := hid (show Below w.heap.size w W by rw [← hW]; exact (Below.refl w.heap.size w).alloc (Nat.le_refl _) _)
  have hg : W.heap[w.heap.size]? = some (.cells #[.slice p n cap, .int .i64 (kk : Int), .int .i64 (aa : Int), .int .i64 (rr : Int)] 47) := by rw [← hW]; exact heap_alloc_new _ _
  have x0 : W.cell? ⟨w.heap.size, 0, none⟩ = some (.slice p n cap) := by rw [cell_of_row _ _ _ _ _ _ hg]; rfl
  have x1 : W.cell? ⟨w.heap.size, 1, none⟩ = some (.int .i64 (kk : Int)) := by rw [cell_of_row _ _ _ _ _ _ hg]; rfl
  have x2 : W.cell? ⟨w.heap.size, 2, none⟩ = some (.int .i64 (aa : Int)) := by rw [cell_of_row _ _ _ _ _ _ hg]; rfl
  have x3 : W.cell? ⟨w.heap.size, 3, none⟩ = some (.int .i64 (rr : Int)) := by rw [cell_of_row _ _ _ _ _ _ hg]; rfl
  clear hg
  have t10 : decide ((60 : Int) < (n : Int)) = false := by first | (simp; done) | (simp; omega)
  have t11 : decide (60 < n) = false := by first | (simp; done) | (simp; omega)
  have t20 : decide ((kk : Int) < 0) = true := by first | (simp; done) | (simp; omega)
  go_enter Tryd.func6, Tryd.ntmps6
  go_wp2_with fail
  go_quiet (fail)
  go_wp2_with fail
  refine (live_any _ (HL.out.next HP.out (below_drewN HB.out _))).mono ?_
  rintro e w2 ⟨rfl, hb⟩
  have H1 := hid (HB.out.trans (((below_drewN (Below.refl W.heap.size W) _).trans hb).mono HB.out.size))
  clear hb
  go_wp2_with fail
  go_ret
  exact ⟨rfl, H1.out⟩
set_option maxRecDepth 100000 in
set_option maxHeartbeats 4000000 in
theorem sms_bad3
    (p : Option Addr) (L : List PageT) (n cap : Nat) (kk : Nat) (aa rr : Int) (w : World) (hL : Lst w) (hp : Pgs w p L) (hn : L.length = n) (h1 : n ≤ 60) (h : n ≤ kk) :
    Calls Tryd.prog 6 #[.agg #[.slice p n cap, .int .i64 (kk : Int), .int .i64 (aa : Int), .int .i64 (rr : Int)]] w fun e w' => e = .returned (.bool true) ∧ Below w.heap.size w w' := by
  have HL := hid hL
  have HP := hid hL.pos
  have HG := hid hp
  have HN := hid hn
  clear hL hp hn
  obtain ⟨W, hW⟩ : ∃ W, w.alloc (.cells #[.slice p n cap, .int .i64 (kk : Int), .int .i64 (aa : Int), .int .i64 (rr : Int)] 47) = W := ⟨_, rfl⟩
  have HB := hid (show Below w.heap.size w W by rw [← hW]; exact (Below.refl w.heap.size w).alloc (Nat.le_refl _) _)
  have hg : W.heap[w.heap.size]? = some (.cells #[.slice p n cap, .int .i64 (kk : Int), .int .i64 (aa : Int), .int .i64 (rr : Int)] 47) := by rw [← hW]; exact heap_alloc_new _ _
  have x0 : W.cell? ⟨w.heap.size, 0, none⟩ = some (.slice p n cap) := by rw [cell_of_row _ _ _ _ _ _ hg]; rfl
  have x1 : W.cell? ⟨w.heap.size, 1, none⟩ = some (.int .i64 (kk : Int)) := by rw [cell_of_row _ _ _ _ _ _ hg]; rfl
  have x2 : W.cell? ⟨w.heap.size, 2, none⟩ = some (.int .i64 (aa : Int)) := by rw [cell_of_row _ _ _ _ _ _ hg]; rfl
  have x3 : W.cell? ⟨w.heap.size, 3, none⟩ = some (.int .i64 (rr : Int)) := by rw [cell_of_row _ _ _ _ _ _ hg]; rfl
  clear hg
  have t10 : decide ((60 : Int) < (n : Int)) = false := by first | (simp; done) | (simp; omega)
  have t11 : decide (60 < n) = false := by first | (simp; done) | (simp; omega)
  have t20 : decide ((kk : Int) < 0) = false := by first | (simp; done) | (simp; omega)
  have t30 : decide ((n : Int) ≤ (kk : Int)) = true := by first | (simp; done) | (simp; omega)
  have t31 : decide (n ≤ kk) = true := by first | (simp; done) | (simp; omega)
  go_enter Tryd.func6, Tryd.ntmps6
  go_wp2_with fail
  go_quiet (fail)
  go_wp2_with fail
  refine (live_any _ (HL.out.next HP.out (below_drewN HB.out _))).mono ?_
  rintro e w2 ⟨rfl, hb⟩
  have H1 := hid (HB.out.trans (((below_drewN (Below.refl W.heap.size W) _).trans hb).mono HB.out.size))
  clear hb
  go_wp2_with fail
  go_ret
  exact ⟨rfl, H1.out⟩
set_option maxRecDepth 100000 in
set_option maxHeartbeats 4000000 in
theorem sms_bad4
    (p : Option Addr) (L : List PageT) (n cap : Nat) (kk : Nat) (aa rr : Int) (w : World) (hL : Lst w) (hp : Pgs w p L) (hn : L.length = n) (h1 : n ≤ 60) (h2 : kk < n) (h : aa < 0) :
    Calls Tryd.prog 6 #[.agg #[.slice p n cap, .int .i64 (kk : Int), .int .i64 (aa : Int), .int .i64 (rr : Int)]] w fun e w' => e = .returned (.bool true) ∧ Below w.heap.size w w' := by
  have HL := hid hL
  have HP := hid hL.pos
  have HG := hid hp
  have HN := hid hn
  clear hL hp hn
  obtain ⟨W, hW⟩ : ∃ W, w.alloc (.cells #[.slice p n cap, .int .i64 (kk : Int), .int .i64 (aa : Int), .int .i64 (rr : Int)] 47) = W := ⟨_, rfl⟩
  have HB := hid (show Below w.heap.size w W by rw [← hW]; exact (Below.refl w.heap.size w).alloc (Nat.le_refl _) _)
  have hg : W.heap[w.heap.size]? = some (.cells #[.slice p n cap, .int .i64 (kk : Int), .int .i64 (aa : Int), .int .i64 (rr : Int)] 47) := by rw [← hW]; exact heap_alloc_new _ _
  have x0 : W.cell? ⟨w.heap.size, 0, none⟩ = some (.slice p n cap) := by rw [cell_of_row _ _ _ _ _ _ hg]; rfl
  have x1 : W.cell? ⟨w.heap.size, 1, none⟩ = some (.int .i64 (kk : Int)) := by rw [cell_of_row _ _ _ _ _ _ hg]; rfl
  have x2 : W.cell? ⟨w.heap.size, 2, none⟩ = some (.int .i64 (aa : Int)) := by rw [cell_of_row _ _ _ _ _ _ hg]; rfl
  have x3 : W.cell? ⟨w.heap.size, 3, none⟩ = some (.int .i64 (rr : Int)) := by rw [cell_of_row _ _ _ _ _ _ hg]; rfl
  clear hg
  have t10 : decide ((60 : Int) < (n : Int)) = false := by first | (simp; done) | (simp; omega)
  have t11 : decide (60 < n) = false := by first | (simp; done) | (simp; omega)
  have t20 : decide ((kk : Int) < 0) = false := by first | (simp; done) | (simp; omega)
  have t30 : decide ((n : Int) ≤ (kk : Int)) = false := by first | (simp; done) | (simp; omega)
  have t31 : decide (n ≤ kk) = false := by first | (simp; done) | (simp; omega)
  have t40 : decide ((aa : Int) < 0) = true := by first | (simp; done) | (simp; omega)
  go_enter Tryd.func6, Tryd.ntmps6
  go_wp2_with fail
  go_quiet (fail)
  go_wp2_with fail
  refine (live_any _ (HL.out.next HP.out (below_drewN HB.out _))).mono ?_
  rintro e w2 ⟨rfl, hb⟩
  have H1 := hid (HB.out.trans (((below_drewN (Below.refl W.heap.size W) _).trans hb).mono HB.out.size))
  clear hb
  go_wp2_with fail
  go_ret
  exact ⟨rfl, H1.out⟩
set_option maxRecDepth 100000 in
set_option maxHeartbeats 4000000 in
theorem sms_bad5
    (p : Option Addr) (L : List PageT) (n cap : Nat) (kk aa : Nat) (rr : Int) (w : World) (hL : Lst w) (hp : Pgs w p L) (hn : L.length = n) (h1 : n ≤ 60) (h2 : kk < n) (h : (L[kk]'(by omega)).2.2.size ≤ aa) :
    Calls Tryd.prog 6 #[.agg #[.slice p n cap, .int .i64 (kk : Int), .int .i64 (aa : Int), .int .i64 (rr : Int)]] w fun e w' => e = .returned (.bool true) ∧ Below w.heap.size w w' := by
  obtain ⟨g, off, rfl, hbl, d0, d1, d2⟩ := hp kk (by omega)
  clear d0 d1
  generalize (L[kk]'(by omega)).2.2 = bb at *
  have HL := hid hL
  have HP := hid hL.pos
  have HG := hid hp
  have HN := hid hn
  clear hL hp hn
  obtain ⟨W, hW⟩ : ∃ W, w.alloc (.cells #[.slice (some ⟨g, off, none⟩) n cap, .int .i64 (kk : Int), .int .i64 (aa : Int), .int .i64 (rr : Int)] 47) = W := ⟨_, rfl⟩
  have HB := hid (show Below w.heap.size w W by rw [← hW]; exact (Below.refl w.heap.size w).alloc (Nat.le_refl _) _)
  have hg : W.heap[w.heap.size]? = some (.cells #[.slice (some ⟨g, off, none⟩) n cap, .int .i64 (kk : Int), .int .i64 (aa : Int), .int .i64 (rr : Int)] 47) := by rw [← hW]; exact heap_alloc_new _ _
  have x0 : W.cell? ⟨w.heap.size, 0, none⟩ = some (.slice (some ⟨g, off, none⟩) n cap) := by rw [cell_of_row _ _ _ _ _ _ hg]; rfl
  have x1 : W.cell? ⟨w.heap.size, 1, none⟩ = some (.int .i64 (kk : Int)) := by rw [cell_of_row _ _ _ _ _ _ hg]; rfl
  have x2 : W.cell? ⟨w.heap.size, 2, none⟩ = some (.int .i64 (aa : Int)) := by rw [cell_of_row _ _ _ _ _ _ hg]; rfl
  have x3 : W.cell? ⟨w.heap.size, 3, none⟩ = some (.int .i64 (rr : Int)) := by rw [cell_of_row _ _ _ _ _ _ hg]; rfl
  clear hg
  have z2 : W.cell? ⟨g, off + kk * 3 + 2, none⟩ = some (.string bb) := by rw [← hW, ← d2]; exact ((Below.refl w.heap.size w).alloc (Nat.le_refl _) _).cell (p := ⟨g, off + kk * 3 + 2, none⟩) hbl
  clear d2
  have t10 : decide ((60 : Int) < (n : Int)) = false := by first | (simp; done) | (simp; omega)
  have t11 : decide (60 < n) = false := by first | (simp; done) | (simp; omega)
  have t20 : decide ((kk : Int) < 0) = false := by first | (simp; done) | (simp; omega)
  have t30 : decide ((n : Int) ≤ (kk : Int)) = false := by first | (simp; done) | (simp; omega)
  have t31 : decide (n ≤ kk) = false := by first | (simp; done) | (simp; omega)
  have t40 : decide ((aa : Int) < 0) = false := by first | (simp; done) | (simp; omega)
  have t50 : decide ((bb.size : Int) ≤ (aa : Int)) = true := by first | (simp; done) | (simp; omega)
  have t51 : decide (bb.size ≤ aa) = true := by first | (simp; done) | (simp; omega)
  go_enter Tryd.func6, Tryd.ntmps6
  go_wp2_with fail
  go_quiet (fail)
  go_wp2_with fail
  refine (live_any _ (HL.out.next HP.out (below_drewN HB.out _))).mono ?_
  rintro e w2 ⟨rfl, hb⟩
  have H1 := hid (HB.out.trans (((below_drewN (Below.refl W.heap.size W) _).trans hb).mono HB.out.size))
  clear hb
  go_wp2_with fail
  go_ret
  exact ⟨rfl, H1.out⟩
set_option maxRecDepth 100000 in
set_option maxHeartbeats 4000000 in
theorem sms_bad6
    (p : Option Addr) (L : List PageT) (n cap : Nat) (kk aa : Nat) (rr : Int) (w : World) (hL : Lst w) (hp : Pgs w p L) (hn : L.length = n) (h1 : n ≤ 60) (h2 : kk < n) (h3 : aa < (L[kk]'(by omega)).2.2.size) (h : rr < 0) :
    Calls Tryd.prog 6 #[.agg #[.slice p n cap, .int .i64 (kk : Int), .int .i64 (aa : Int), .int .i64 (rr : Int)]] w fun e w' => e = .returned (.bool true) ∧ Below w.heap.size w w' := by
  obtain ⟨g, off, rfl, hbl, d0, d1, d2⟩ := hp kk (by omega)
  clear d0 d1
  generalize (L[kk]'(by omega)).2.2 = bb at *
  have HL := hid hL
  have HP := hid hL.pos
  have HG := hid hp
  have HN := hid hn
  clear hL hp hn
  obtain ⟨W, hW⟩ : ∃ W, w.alloc (.cells #[.slice (some ⟨g, off, none⟩) n cap, .int .i64 (kk : Int), .int .i64 (aa : Int), .int .i64 (rr : Int)] 47) = W := ⟨_, rfl⟩
  have HB := hid (show Below w.heap.size w W by rw [← hW]; exact (Below.refl w.heap.size w).alloc (Nat.le_refl _) _)
  have hg : W.heap[w.heap.size]? = some (.cells #[.slice (some ⟨g, off, none⟩) n cap, .int .i64 (kk : Int), .int .i64 (aa : Int), .int .i64 (rr : Int)] 47) := by rw [← hW]; exact heap_alloc_new _ _
  have x0 : W.cell? ⟨w.heap.size, 0, none⟩ = some (.slice (some ⟨g, off, none⟩) n cap) := by rw [cell_of_row _ _ _ _ _ _ hg]; rfl
  have x1 : W.cell? ⟨w.heap.size, 1, none⟩ = some (.int .i64 (kk : Int)) := by rw [cell_of_row _ _ _ _ _ _ hg]; rfl
  have x2 : W.cell? ⟨w.heap.size, 2, none⟩ = some (.int .i64 (aa : Int)) := by rw [cell_of_row _ _ _ _ _ _ hg]; rfl
  have x3 : W.cell? ⟨w.heap.size, 3, none⟩ = some (.int .i64 (rr : Int)) := by rw [cell_of_row _ _ _ _ _ _ hg]; rfl
  clear hg
  have z2 : W.cell? ⟨g, off + kk * 3 + 2, none⟩ = some (.string bb) := by rw [← hW, ← d2]; exact ((Below.refl w.heap.size w).alloc (Nat.le_refl _) _).cell (p := ⟨g, off + kk * 3 + 2, none⟩) hbl
  clear d2
  have t10 : decide ((60 : Int) < (n : Int)) = false := by first | (simp; done) | (simp; omega)
  have t11 : decide (60 < n) = false := by first | (simp; done) | (simp; omega)
  have t20 : decide ((kk : Int) < 0) = false := by first | (simp; done) | (simp; omega)
  have t30 : decide ((n : Int) ≤ (kk : Int)) = false := by first | (simp; done) | (simp; omega)
  have t31 : decide (n ≤ kk) = false := by first | (simp; done) | (simp; omega)
  have t40 : decide ((aa : Int) < 0) = false := by first | (simp; done) | (simp; omega)
  have t50 : decide ((bb.size : Int) ≤ (aa : Int)) = false := by first | (simp; done) | (simp; omega)
  have t51 : decide (bb.size ≤ aa) = false := by first | (simp; done) | (simp; omega)
  have t60 : decide ((rr : Int) < 0) = true := by first | (simp; done) | (simp; omega)
  go_enter Tryd.func6, Tryd.ntmps6
  go_wp2_with fail
  go_quiet (fail)
  go_wp2_with fail
  refine (live_any _ (HL.out.next HP.out (below_drewN HB.out _))).mono ?_
  rintro e w2 ⟨rfl, hb⟩
  have H1 := hid (HB.out.trans (((below_drewN (Below.refl W.heap.size W) _).trans hb).mono HB.out.size))
  clear hb
  go_wp2_with fail
  go_ret
  exact ⟨rfl, H1.out⟩
set_option maxRecDepth 100000 in
set_option maxHeartbeats 4000000 in
theorem sms_bad7
    (p : Option Addr) (L : List PageT) (n cap : Nat) (kk aa rr : Nat) (w : World) (hL : Lst w) (hp : Pgs w p L) (hn : L.length = n) (h1 : n ≤ 60) (h2 : kk < n) (h3 : aa < (L[kk]'(by omega)).2.2.size) (h : 7 < rr) :
    Calls Tryd.prog 6 #[.agg #[.slice p n cap, .int .i64 (kk : Int), .int .i64 (aa : Int), .int .i64 (rr : Int)]] w fun e w' => e = .returned (.bool true) ∧ Below w.heap.size w w' := by
  obtain ⟨g, off, rfl, hbl, d0, d1, d2⟩ := hp kk (by omega)
  clear d0 d1
  generalize (L[kk]'(by omega)).2.2 = bb at *
  have HL := hid hL
  have HP := hid hL.pos
  have HG := hid hp
  have HN := hid hn
  clear hL hp hn
  obtain ⟨W, hW⟩ : ∃ W, w.alloc (.cells #[.slice (some ⟨g, off, none⟩) n cap, .int .i64 (kk : Int), .int .i64 (aa : Int), .int .i64 (rr : Int)] 47) = W := ⟨_, rfl⟩
  have HB := hid (show Below w.heap.size w W by rw [← hW]; exact (Below.refl w.heap.size w).alloc (Nat.le_refl _) _)
  have hg : W.heap[w.heap.size]? = some (.cells #[.slice (some ⟨g, off, none⟩) n cap, .int .i64 (kk : Int), .int .i64 (aa : Int), .int .i64 (rr : Int)] 47) := by rw [← hW]; exact heap_alloc_new _ _
  have x0 : W.cell? ⟨w.heap.size, 0, none⟩ = some (.slice (some ⟨g, off, none⟩) n cap) := by rw [cell_of_row _ _ _ _ _ _ hg]; rfl
  have x1 : W.cell? ⟨w.heap.size, 1, none⟩ = some (.int .i64 (kk : Int)) := by rw [cell_of_row _ _ _ _ _ _ hg]; rfl
  have x2 : W.cell? ⟨w.heap.size, 2, none⟩ = some (.int .i64 (aa : Int)) := by rw [cell_of_row _ _ _ _ _ _ hg]; rfl
  have x3 : W.cell? ⟨w.heap.size, 3, none⟩ = some (.int .i64 (rr : Int)) := by rw [cell_of_row _ _ _ _ _ _ hg]; rfl
  clear hg
  have z2 : W.cell? ⟨g, off + kk * 3 + 2, none⟩ = some (.string bb) := by rw [← hW, ← d2]; exact ((Below.refl w.heap.size w).alloc (Nat.le_refl _) _).cell (p := ⟨g, off + kk * 3 + 2, none⟩) hbl
  clear d2
  have t10 : decide ((60 : Int) < (n : Int)) = false := by first | (simp; done) | (simp; omega)
  have t11 : decide (60 < n) = false := by first | (simp; done) | (simp; omega)
  have t20 : decide ((kk : Int) < 0) = false := by first | (simp; done) | (simp; omega)
  have t30 : decide ((n : Int) ≤ (kk : Int)) = false := by first | (simp; done) | (simp; omega)
  have t31 : decide (n ≤ kk) = false := by first | (simp; done) | (simp; omega)
  have t40 : decide ((aa : Int) < 0) = false := by first | (simp; done) | (simp; omega)
  have t50 : decide ((bb.size : Int) ≤ (aa : Int)) = false := by first | (simp; done) | (simp; omega)
  have t51 : decide (bb.size ≤ aa) = false := by first | (simp; done) | (simp; omega)
  have t60 : decide ((rr : Int) < 0) = false := by first | (simp; done) | (simp; omega)
  have t70 : decide ((7 : Int) < (rr : Int)) = true := by first | (simp; done) | (simp; omega)
  have t71 : decide (7 < rr) = true := by first | (simp; done) | (simp; omega)
  go_enter Tryd.func6, Tryd.ntmps6
  go_wp2_with fail
  go_quiet (fail)
  go_wp2_with fail
  refine (live_any _ (HL.out.next HP.out (below_drewN HB.out _))).mono ?_
  rintro e w2 ⟨rfl, hb⟩
  have H1 := hid (HB.out.trans (((below_drewN (Below.refl W.heap.size W) _).trans hb).mono HB.out.size))
  clear hb
  go_wp2_with fail
  go_ret
  exact ⟨rfl, H1.out⟩
end Go.Proofs.YtigaddpjmgncmaaDoor.En
