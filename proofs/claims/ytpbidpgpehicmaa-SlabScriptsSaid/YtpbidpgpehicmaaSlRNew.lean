/- New of the document's slab. -/
import Derived.Test.YtpbidpgpehicmaaSlRMake
import Derived.Test.YtpbidpgpehicmaaSlGrow
import Derived.Test.YtpbidpgpehicmaaSlLive
namespace Go.Proofs.Ytpbidpgpehicmaa.Sl
open Go.RowKit
open Go.Lib (hid)

theorem own_keep {W W' : World} {base : Nat} {e : TypeId} {size : Nat} {v : Value} {n : Nat} {xs : List Value} (h : W.ownsRow base e size v n xs) (hk : ∀ g, base ≤ g → g < W.heap.size → W'.heap[g]? = W.heap[g]?) : W'.ownsRow base e size v n xs := by
  refine ⟨h.1, ?_⟩
  rcases h.2 with h | ⟨g, cap, cur, e, h1, h2, h3⟩
  · exact .inl h
  · exact .inr ⟨g, cap, cur, e, h1, (hk g h1 (Array.getElem?_eq_some_iff.1 h2).1).trans h2, h3⟩
theorem own_below {W W' : World} {base : Nat} {e : TypeId} {size : Nat} {v : Value} {n : Nat} {xs : List Value} (h : W.ownsRow base e size v n xs) (hb : Below W.heap.size W W') : W'.ownsRow base e size v n xs := own_keep h fun g _ hg => hb.block g hg
/-- what an append onto a row of the call's own leaves -/
theorem owns_below {W w' : World} {base n n' : Nat} {v v' : Value} {xs ys : List Value} (hbase : base ≤ W.heap.size) (h : W.ownsRow base 3 1 v n xs) (ho : Owns W base 3 1 v n' ys v' w') : Below base W w' := by
  obtain ⟨_, hg, _⟩ := ho
  refine ⟨hg.os, hg.tape, hg.output, hg.size, fun k hk => ?_⟩
  rcases h.2 with ⟨rfl, _⟩ | ⟨g, cap, cur, rfl, hb, hgb, _⟩
  · exact hg.block k (by omega) (by simp [Value.ownBlock])
  · exact hg.block k (by omega) (by simp [Value.ownBlock]; omega)
/-- one number more at the end of a row of the call's own -/
theorem app_lit {W : World} (ty : TypeId) {base n : Nat} {v : Value} {A : List Int} (x : Int) (hown : W.ownsRow base 3 1 v n (iv A)) (hn : n + 1 ≤ 100000000) (hbase : base ≤ W.heap.size) :
    ∃ v' w', (Builtin.append_ #[30, 30] ty #[v, .slice (some ⟨W.heap.size, 0, none⟩) 1 1]).run Try.prog (W.alloc (.cells #[.int .i64 x] 3)) = .ok v' w' ∧ (w'.ownsRow base 3 1 v' (n + 1) (iv (A ++ [x])) ∧ Below base W w') := by
  have hb := below_alloc W (.cells #[.int .i64 x] 3)
  have hr : Row (W.alloc (.cells #[.int .i64 x] 3)) W.heap.size [x] := ⟨[], heap_alloc_new _ _⟩
  have ho := own_below hown hb
  obtain ⟨v', w', h1, h2⟩ := int_own ty v n (iv A) ho (some ⟨W.heap.size, 0, none⟩) 1 1 (iv [x]) hr.cells.read rfl (iv_one _) hn (Nat.le_trans hbase hb.size)
  rw [← iv_append] at h2
  exact ⟨v', w', h1, h2.1, (hb.mono hbase).trans (owns_below (Nat.le_trans hbase hb.size) ho h2)⟩
set_option maxRecDepth 100000 in
set_option maxHeartbeats 2000000 in
theorem rnew_bad (dim n : Int) (w : World) (h : ¬ (1 ≤ dim ∧ dim ≤ 6)) :
    Calls Try.prog 10 #[.int .i64 dim, .int .i64 n] w fun e w' => e = .returned (.tuple #[.pointer none, .int .i64 1]) ∧ w' = w := by
  by_cases h1 : dim < 1
  · have e1 : decide (dim < 1) = true := decide_eq_true h1
    clear h h1
    go_enter Try.func10, Try.ntmps10
    go_wp2_with fail
    go_ret2
    exact ⟨rfl, rfl⟩
  · have e1 : decide (dim < 1) = false := decide_eq_false h1
    have e2 : decide ((6 : Int) < dim) = true := decide_eq_true (by omega)
    clear h h1
    go_enter Try.func10, Try.ntmps10
    go_wp2_with fail
    go_ret2
    exact ⟨rfl, rfl⟩
set_option maxRecDepth 100000 in
set_option maxHeartbeats 2000000 in
theorem rnew_ok (dim n : Int) (w : World) (h1 : 1 ≤ dim) (h2 : dim ≤ 6) :
    Calls Try.prog 10 #[.int .i64 dim, .int .i64 n] w (RNewSlab w (zs (List.replicate dim.toNat 1)) [n]) := by
  obtain ⟨D, rfl⟩ : ∃ D : Nat, dim = (D : Int) := ⟨dim.toNat, by omega⟩
  have e1 : decide ((D : Int) < 1) = false := decide_eq_false (by omega)
  have e2 : decide ((6 : Int) < (D : Int)) = false := decide_eq_false (by omega)
  have HD := hid (And.intro h1 h2)
  rw [Int.toNat_natCast]
  clear h1 h2
  obtain ⟨V, hV⟩ : ∃ V, (w.alloc (.cells #[.int .i64 n] 3)).alloc (.cells #[.slice none 0 0, .slice (some ⟨w.heap.size, 0, none⟩) 1 1] 32) = V := ⟨_, rfl⟩
  go_enter Try.func10, Try.ntmps10
  go_wp2_with fail
  go_loopw [7] (fun i wr => ∃ (k : Nat) (v : Value), k ≤ D ∧ i = .int .i64 k ∧ Row wr w.heap.size [n] ∧ wr.heap[w.heap.size + 1]? = some (.cells #[v, .slice (some ⟨w.heap.size, 0, none⟩) 1 1] 32 (0, 0)) ∧ wr.ownsRow (w.heap.size + 2) 3 1 v k (iv (List.replicate k 1)) ∧ Below w.heap.size w wr) (fun i _ => D - (intOf i).toNat)
  case atStart =>
    refine ⟨0, .slice none 0 0, by omega, rfl, ?_, ?_, World.ownsRow_nil _ _ _ _, ?_⟩
    · rw [← hV]; exact (row_obj w [n]).below (below_alloc _ _)
    · rw [← hV]; have := heap_alloc_new (w.alloc (.cells #[.int .i64 n] 3)) (.cells #[.slice none 0 0, .slice (some ⟨w.heap.size, 0, none⟩) 1 1] 32); rw [World.size_alloc] at this; exact this
    · rw [← hV]; exact below_two _ _ _
  case round =>
    obtain ⟨k, v, hk, rfl, hr, hh, ho, hb⟩ := hrel
    have HR := hid hr; have HO := hid ho; have HB := hid hb
    have hlt2 : w.heap.size + 1 < wr.heap.size := (Array.getElem?_eq_some_iff.1 hh).1
    have HSZ := hid (show w.heap.size + 2 ≤ wr.heap.size by omega)
    by_cases hlt : k < D
    · have e3 : decide ((k : Int) < (D : Int)) = true := by simpa using hlt
      have e3' : decide (k < D) = true := by simpa using hlt
      have HK := hid (And.intro hlt HD.out)
      have HW := hid (show wrap64 ((k : Int) + 1) = ((k + 1 : Nat) : Int) from Go.IntWalk.wrap64_in _ (by have := HD.out; omega))
      have HH := hid hh
      have d0 : wr.cell? ⟨w.heap.size + 1, 0, none⟩ = some v := by rw [cell_of_row _ _ _ _ _ _ hh]; rfl
      have z0 : (0 : Int) ≤ (k : Int) := by omega
      clear hr ho hb hh hlt hk hV hlt2
      go_wp2_with (at_builtin; refine wpList_app rfl _ _ _ rfl rfl rfl (app_lit _ 1 HO.out (by have := HK.out; omega) HSZ.out) ?_)
      intro v' w2 ho2 hb2
      obtain ⟨p', c', rfl⟩ := own_shape ho2
      have hh2 := (hb2.block (w.heap.size + 1) (by omega)).trans HH.out
      have d2 : w2.cell? ⟨w.heap.size + 1, 0, none⟩ = some v := by rw [cell_of_row _ _ _ _ _ _ hh2]; rfl
      have f2 : w2.frozen? ⟨w.heap.size + 1, 0, none⟩ = false := frozen_of_row _ _ _ _ _ hh2
      have HH2 := hid hh2; have HO2 := hid ho2; have HB2 := hid hb2
      clear ho2 hb2 hh2 d0
      go_wp2_with fail
      go_roundw
      case rel =>
        refine ⟨k + 1, .slice p' (k + 1) c', HK.out.1, by rw [HW.out], ?_, ?_, ?_, ?_⟩
        · exact (HR.out.keep (HB2.out.block _ (by omega))).far _ _ (by simp)
        · rw [heap_setCell_same w2 (w.heap.size + 1) 0 _ _ _ HH2.out]; rfl
        · have := HO2.out
          rw [show List.replicate k 1 ++ [(1 : Int)] = List.replicate (k + 1) 1 by rw [List.replicate_succ']] at this
          exact own_keep this fun g hg _ => heap_setCell_other _ _ _ _ (by show g ≠ w.heap.size + 1; omega)
        · exact (HB.out.trans (HB2.out.mono (by omega))).setCell (p := ⟨w.heap.size + 1, 0, none⟩) (by simp) _
      case measure => have := HK.out; rw [HW.out]; simp [intOf]; omega
    · obtain rfl : k = D := by omega
      have e3 : decide ((k : Int) < (k : Int)) = false := by simp
      have HH := hid hh
      clear hr ho hb hh hlt hk hV hlt2
      go_wp2_with fail
      go_ret2
      have ho : wr.ownsRow (w.heap.size + 2) 3 1 v (zs (List.replicate k 1)).length (iv (zs (List.replicate k 1))) := by
        have e : zs (List.replicate k 1) = List.replicate k 1 := by simp [zs]
        rw [e, List.length_replicate]; exact HO.out
      obtain ⟨g, c', rfl, hg, hrow, hcc⟩ := row_of_owns ho (by have := HD.out; rw [zs_len, List.length_replicate]; omega)
      refine ⟨w.heap.size + 1, g, w.heap.size, rfl, ⟨⟨c', 1, hcc, by simp, HH.out⟩, hrow, HR.out, ?_⟩, ?_, HB.out⟩
      · refine ⟨?_, ?_, ?_⟩
        all_goals omega
      · intro j hj
        rcases hj with rfl | rfl | rfl
        · omega
        · omega
        · omega
end Go.Proofs.Ytpbidpgpehicmaa.Sl
