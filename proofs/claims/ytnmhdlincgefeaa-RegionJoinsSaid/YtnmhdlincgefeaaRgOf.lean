/- Of of region: where a number stands. -/
import Derived.Test.YtnmhdlincgefeaaRgFill
import Derived.Test.YtnmhdlincgefeaaSlLvR
namespace Go.Proofs.Ytnmhdlincgefeaa.Rg
open Go.RowKit Go.Shelf
open Go.Lib (hid)
open Go.Proofs.Ytnmhdlincgefeaa.Sl

theorem own_keep {W W' : World} {base : Nat} {e : TypeId} {size : Nat} {v : Value} {n : Nat} {xs : List Value} (h : W.ownsRow base e size v n xs) (hk : ∀ g, base ≤ g → g < W.heap.size → W'.heap[g]? = W.heap[g]?) : W'.ownsRow base e size v n xs := by
  refine ⟨h.1, ?_⟩
  rcases h.2 with h | ⟨g, cap, cur, e, h1, h2, h3⟩
  · exact .inl h
  · exact .inr ⟨g, cap, cur, e, h1, (hk g h1 (Array.getElem?_eq_some_iff.1 h2).1).trans h2, h3⟩
theorem own_below {W W' : World} {base : Nat} {e : TypeId} {size : Nat} {v : Value} {n : Nat} {xs : List Value} (h : W.ownsRow base e size v n xs) (hb : Below W.heap.size W W') : W'.ownsRow base e size v n xs := own_keep h fun g _ hg => hb.block g hg
/-- what an append onto a row of the call's own leaves -/
theorem owns_below {W w' : World} {base n n' : Nat} {v v' : Value} {xs ys : List Value} (hbase : base ≤ W.heap.size) (h : W.ownsRow base 3 1 v n xs) (ho : Owns W base 3 1 v n' ys v' w') : Below base W w' := by
  obtain ⟨_, hg, _⟩ := ho
  refine ⟨hg.os, hg.tape, hg.output, hg.size, fun k hk => ?_⟩
  rcases h.2 with ⟨rfl, _⟩ | ⟨g, cap, cur, rfl, hb, hgb, _⟩
  · exact hg.block k (by omega) (by simp [Value.ownBlock])
  · exact hg.block k (by omega) (by simp [Value.ownBlock]; omega)
/-- one number more at the end of a row of the call's own -/
theorem app_lit {W : World} (ty : TypeId) {base n : Nat} {v : Value} {A : List Int} (x : Int) (hown : W.ownsRow base 3 1 v n (iv A)) (hn : n + 1 ≤ 100000000) (hbase : base ≤ W.heap.size) :
    ∃ v' w', (Builtin.append_ #[22, 22] ty #[v, .slice (some ⟨W.heap.size, 0, none⟩) 1 1]).run Try.prog (W.alloc (.cells #[.int .i64 x] 3)) = .ok v' w' ∧ (w'.ownsRow base 3 1 v' (n + 1) (iv (A ++ [x])) ∧ Below base W w') := by
  have hb := below_alloc W (.cells #[.int .i64 x] 3)
  have hr : Row (W.alloc (.cells #[.int .i64 x] 3)) W.heap.size [x] := ⟨[], heap_alloc_new _ _⟩
  have ho := own_below hown hb
  obtain ⟨v', w', h1, h2⟩ := int_own ty v n (iv A) ho (some ⟨W.heap.size, 0, none⟩) 1 1 (iv [x]) hr.cells.read rfl (iv_one _) hn (Nat.le_trans hbase hb.size)
  rw [← iv_append] at h2
  exact ⟨v', w', h1, h2.1, (hb.mono hbase).trans (owns_below (Nat.le_trans hbase hb.size) ho h2)⟩
/-- a row of the call's own, read -/
theorem own_cells {w : World} {base : Nat} {v : Value} {l : List Int} (h : w.ownsRow base 3 1 v l.length (iv l)) : ∃ p c, v = .slice p l.length c ∧ l.length ≤ c ∧ CellsAt w p (iv l) := by
  rcases h.2 with ⟨rfl, h0⟩ | ⟨g, cap, cur, rfl, h1, h2, h3, h4, h5, h6⟩
  · have hl := List.length_eq_zero_iff.1 h0
    subst hl
    exact ⟨none, 0, rfl, Nat.le_refl _, fun j hj => absurd hj (by simp [iv])⟩
  · by_cases h0 : 0 < l.length
    · obtain ⟨g', c, e, _, hr, hc⟩ := row_of_owns h h0
      injection e with e1 e2 e3
      subst e3
      injection e1 with e1; injection e1 with e1
      subst e1
      exact ⟨_, _, rfl, hc, hr.cells⟩
    · have hl : l = [] := List.length_eq_zero_iff.1 (by omega)
      subst hl
      exact ⟨_, _, rfl, Nat.zero_le _, fun j hj => absurd hj (by simp [iv])⟩
theorem zs_length' (l : List Nat) : (zs l).length = l.length := zs_len l
set_option maxRecDepth 100000 in
set_option maxHeartbeats 4000000 in
theorem of_ok {w : World} {b g h : Nat} {S : List Nat} {C : List Int} (H : Slb w b g h (zs S) C) (F : Fits S C) (n : Int) :
    Calls Try.prog 11 #[.pointer (some ⟨b, 0, none⟩), .int .i64 n] w (FRet w (filledL S (plc C C.length n))) := by
  have hcl : C.length ≤ 4096 := by rw [F.len]; exact F.most
  have hsl : S.length ≤ 6 := F.few
  have HCELLS := hid (cells_ok H (by omega))
  have HSIZES := hid fun (V : World) (hV : Below w.heap.size w V) => sizes_ok (H.below hV) (by rw [zs_len]; omega)
  have HF := hid F
  have HN := hid hcl; have HSL := hid hsl
  clear H F hsl
  go_enter Try.func11, Try.ntmps11
  go_wp2_with fail
  refine HCELLS.out.mono ?_
  rintro e w1 ⟨p1, c1, rfl, -, hc1, hb1, -⟩
  have HC1 := hid hc1; have HB1 := hid hb1
  clear hc1 hb1 HCELLS
  go_wp2_with fail
  go_loopw [7, 13] (fun v i wr => ∃ k : Nat, k ≤ C.length ∧ i = .int .i64 (k : Int) ∧ wr.ownsRow w1.heap.size 3 1 v (plc C k n).length (iv (zs (plc C k n))) ∧ Below w1.heap.size w1 wr) (fun _ i _ => C.length - (intOf i).toNat)
  case atStart => exact ⟨0, Nat.zero_le _, rfl, World.ownsRow_nil _ _ _ _, Below.refl _ _⟩
  case round =>
    obtain ⟨k, hk, rfl, ho, hb⟩ := hrel
    have HO := hid ho; have HB := hid hb
    by_cases hlt : k < C.length
    · obtain ⟨b1, o1, rfl, lt1, d1⟩ := HC1.out k (by rw [iv_length]; exact hlt)
      rw [iv_at C k hlt] at d1
      have d1 := (hb.cell (p := ⟨b1, o1 + k, none⟩) lt1).trans d1
      have hg : C.getD k 0 = C[k] := by rw [List.getD_eq_getElem?_getD, List.getElem?_eq_getElem hlt]; rfl
      by_cases hx : C[k] = n
      · have HP := hid (plc_yes C k n (hg.trans hx))
        rw [hx] at d1
        have hle := plc_len C k n
        clear ho hb hg hx
        go_wp2_with (first
          | (at_builtin; refine wpList_app rfl _ _ _ rfl rfl rfl (app_lit _ (k : Int) HO.out (by omega) HB.out.size) ?_; rintro v' w2 ⟨ho2, hb2⟩)
          | go_in)
        go_roundw
        case rel => exact ⟨k + 1, by omega, by go_num, by rw [HP.out]; simpa [zs] using ho2, HB.out.trans hb2⟩
        case measure => simp [intOf]; omega
      · have HP := hid (plc_no C k n (fun e => hx (hg.symm.trans e)))
        have e1 : (C[k] == n) = false := beq_eq_false_iff_ne.2 hx
        generalize C[k] = x at d1 e1 hx
        clear ho hb hg
        go_wp2_with fail
        go_roundw
        case rel => exact ⟨k + 1, by omega, by go_num, by rw [HP.out]; exact HO.out, HB.out⟩
        case measure => simp [intOf]; omega
    · obtain rfl : k = C.length := by omega
      obtain ⟨pv, cv, rfl, hcv, hrd⟩ := own_cells (l := zs (plc C C.length n)) (by rw [zs_len]; exact ho)
      have hbw := HB1.out.trans (hb.mono HB1.out.size)
      have HRD := hid hrd; have HCV := hid hcv; have HBW := hid hbw
      have HSZ := hid (HSIZES.out _ hbw)
      clear ho hb hrd hcv hbw
      rw [zs_len]
      go_wp2_with fail
      refine HSZ.out.mono ?_
      rintro e w3 ⟨p3, c3, rfl, -, hc3, hb3, -⟩
      have HFL := hid (filled_ok S (plc C C.length n) p3 pv c3 cv w3 hc3 (HRD.out.below hb3) HF.out.pos HSL.out (List.length_pos_iff.2 HF.out.some) HF.out.most (fun x hx => by have := plc_lt hx; have := HN.out; omega) (by have := plc_len C C.length n; have := HN.out; omega) (by have := HCV.out; rwa [zs_len] at this))
      have HB3 := hid (HBW.out.trans (hb3.mono HBW.out.size))
      clear hc3 hb3
      rw [zs_len]
      go_wp2_with fail
      refine HFL.out.mono ?_
      rintro e w4 ⟨q1, q2, k1, k2, rfl, hq1, hq2, hb4⟩
      have HQ1 := hid hq1; have HQ2 := hid hq2
      have HB4 := hid (HB3.out.trans (hb4.mono HB3.out.size))
      clear hq1 hq2 hb4
      go_wp2_with fail
      go_ret3
      exact ⟨q1, q2, k1, k2, rfl, HQ1.out, HQ2.out, HB4.out⟩
end Go.Proofs.Ytnmhdlincgefeaa.Rg
