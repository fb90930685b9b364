/- The document's Fill and Seen, whatever is asked. -/
import Derived.Test.YtpbidpgpehicmaaSlRv
namespace Go.Proofs.Ytpbidpgpehicmaa.Sl
open Go.RowKit Go.Shelf
open Go.Lib (hid)

/-- what the document's Seen has found so far -/
def sstep (S L H : List Nat) (C : List Int) (k : Nat) : List Int := firstsA (atL C ((List.range k).filter fun p => withinL (cellL S p) L H))
theorem sstep_succ (S L H : List Nat) (C : List Int) (k : Nat) (hk : k < C.length) : sstep S L H C (k + 1) = if withinL (cellL S k) L H = true then addI (sstep S L H C k) C[k] else sstep S L H C k := by
  unfold sstep
  rw [List.range_succ, List.filter_append]
  split
  · rename_i h
    rw [List.filter_cons_of_pos (p := fun p => withinL (cellL S p) L H) h, List.filter_nil]
    unfold atL
    rw [List.map_append, List.map_singleton, firstsA_snoc, List.getD_eq_getElem?_getD, List.getElem?_eq_getElem hk]; rfl
  · rename_i h
    rw [List.filter_cons_of_neg (p := fun p => withinL (cellL S p) L H) h, List.filter_nil, List.append_nil]
theorem sstep_len (S L H : List Nat) (C : List Int) (k : Nat) : (sstep S L H C k).length ≤ k := by
  unfold sstep
  refine Nat.le_trans (firstsA_len _) ?_
  unfold atL
  rw [List.length_map]
  exact Nat.le_trans (List.length_filter_le _ _) (by simp)
theorem sstep_all {S L H : List Nat} {C : List Int} (F : Fits S C) (h1 : okC S L = true) (h2 : okC S H = true) : sstep S L H C C.length = firstsA (atL C (plcs S L H)) := by
  unfold sstep plcs
  rw [places_eq S L H h1 h2 F.pos, ← F.len]
theorem has_take (A : List Int) (x : Int) (i : Nat) (hi : i < A.length) : (A.take (i + 1)).contains x = ((A.take i).contains x || (A[i] == x)) := by
  rw [List.take_succ_eq_append_getElem hi]
  have : ∀ (l : List Int) (y : Int), (l ++ [y]).contains x = (l.contains x || (y == x)) := fun l y => by
    rw [List.contains_eq_any_beq, List.any_append, ← List.contains_eq_any_beq]
    simp only [List.any_cons, List.any_nil, Bool.or_false]
    rw [show (x == y) = (y == x) from BEq.comm]
  exact this _ _
theorem own_cells {W : World} {base : Nat} {p : Option Addr} {c : Nat} {A : List Int} (h : W.ownsRow base 3 1 (.slice p A.length c) A.length (iv A)) : CellsAt W p (iv A) := by
  by_cases h0 : 0 < A.length
  · obtain ⟨g, c', e, _, hr, _⟩ := row_of_owns h h0
    injection e with e1 e2 e3
    subst e1
    exact hr.cells
  · intro j hj; rw [iv_length] at hj; omega
theorem own_drewN {W : World} {base : Nat} {v : Value} {n : Nat} {xs : List Value} (h : W.ownsRow base 3 1 v n xs) (k : Nat) : (W.drewN k).ownsRow base 3 1 v n xs := own_below h (below_drewN (Below.refl _ _) k)
set_option maxRecDepth 100000 in
set_option maxHeartbeats 4000000 in
theorem rseen_ok {K : Nat → Prop} {w : World} {b g h k m : Nat} {S : List Nat} {C : List Int} (H0 : RF w K b g h k m S C w) (F : Fits S C) (L H : List Nat) (p q : Option Addr) (c1 c2 : Nat) (hp : CellsAt w p (iv (zs L))) (hq : CellsAt w q (iv (zs H))) (hL : okC S L = true) (hH : okC S H = true)
    (HM : Calls Try.prog 38 #[.pointer (some ⟨b, 0, none⟩), .slice p L.length c1, .slice q H.length c2] w fun e V' => e = .returned (.bool true) ∧ ∃ n, V' = w.drewN n) :
    Calls Try.prog 23 #[.pointer (some ⟨b, 0, none⟩), .slice p L.length c1, .slice q H.length c2] w fun e V' => ∃ r c, e = .returned (.tuple #[.slice r (firstsA (atL C (plcs S L H))).length c, .int .i64 0]) ∧ CellsAt V' r (iv (firstsA (atL C (plcs S L H)))) ∧ Below w.heap.size w V' := by
  have HMY := hid HM
  have HF := hid F
  have HP := hid hp
  have HQ := hid hq
  have HLL := hid (And.intro (okC_length S L hL) (okC_length S H hH))
  have HALL := hid (sstep_all F hL hH)
  have HI := hid fun (X : World) (hX : Below w.heap.size w X) => H0.below hX
  have HCL := hid (show C.length ≤ 4096 by rw [F.len]; exact F.most)
  clear HM H0 F hp hq hL hH
  go_enter Try.func23, Try.ntmps23
  go_wp2_with fail
  refine HMY.out.mono ?_
  rintro e w1 ⟨rfl, n1, rfl⟩
  go_wp2_with fail
  go_loopw [8, 9] (fun o i wr => ∃ j : Nat, j ≤ C.length ∧ i = .int .i64 j ∧ Below w.heap.size w wr ∧ ∃ po co, o = .slice po (sstep S L H C j).length co ∧ wr.ownsRow w.heap.size 3 1 o (sstep S L H C j).length (iv (sstep S L H C j))) (fun _ i _ => C.length - (intOf i).toNat)
  case atStart => exact ⟨0, by omega, rfl, below_drewN (Below.refl _ _) n1, none, 0, rfl, World.ownsRow_nil _ _ _ _⟩
  case round =>
    obtain ⟨j, hj, rfl, hbr, po, co, rfl, ho⟩ := hrel
    have HBR := hid hbr
    have HO := hid ho
    obtain ⟨d0, d1⟩ := (HI.out _ hbr).cells
    clear ho
    by_cases hlt : j < C.length
    · have e1 : decide ((j : Int) < (C.length : Int)) = true := by simpa using hlt
      have e1' : decide (j < C.length) = true := by simpa using hlt
      have HLT := hid hlt
      have HW := hid (show wrap64 ((j : Int) + 1) = ((j + 1 : Nat) : Int) from Go.IntWalk.wrap64_in _ (by have := HCL.out; omega))
      have HCE := hid (rcell_ok S j (some ⟨g, 0, none⟩) k wr (HI.out _ hbr).sz.cells HF.out.pos HF.out.few (by have := HCL.out; omega))
      have HS := hid (sstep_succ S L H C j HLT.out)
      have HAL := hid (Nat.le_trans (sstep_len S L H C j) hj)
      clear hlt hj hbr
      go_wp2_with fail
      refine HCE.out.mono ?_
      rintro e w2 ⟨rfl, hrow, hb⟩
      have HB2 := hid (HBR.out.trans (hb.mono HBR.out.size))
      have HO2 := hid (own_below HO.out hb)
      have hcl : (zs (cellL S j)).length = S.length := by rw [zs_len, cellL_length]
      have HWI := hid (within_ok w2 (zs (cellL S j)) (zs L) (zs H) (some ⟨wr.heap.size, 0, none⟩) p q S.length c1 c2 hrow.cells (HP.out.below HB2.out) (HQ.out.below HB2.out) (by rw [hcl]; have := HF.out.few; omega) (by rw [hcl, zs_len]; exact HLL.out.1) (by rw [hcl, zs_len]; exact HLL.out.2))
      rw [with_nat _ _ _ (by rw [cellL_length]; exact HLL.out.1) (by rw [cellL_length]; exact HLL.out.2), hcl, zs_len, zs_len] at HWI
      clear hrow hb d0 d1 HCE HO HBR
      cases hw : withinL (cellL S j) L H with
      | false =>
        rw [hw] at HWI
        rw [if_neg (by rw [hw]; simp)] at HS
        clear hw
        go_wp2_with fail
        refine HWI.out.mono ?_
        rintro e w3 ⟨rfl, n3, rfl⟩
        go_wp2_with fail
        go_roundw
        case rel => exact ⟨j + 1, HLT.out, by rw [HW.out], below_drewN HB2.out n3, po, co, by rw [HS.out], by rw [HS.out]; exact own_drewN HO2.out n3⟩
        case measure => have := HLT.out; rw [HW.out]; simp [intOf]; omega
      | true =>
        rw [hw] at HWI
        rw [if_pos hw] at HS
        clear hw
        go_wp2_with fail
        refine HWI.out.mono ?_
        rintro e w3 ⟨rfl, n3, rfl⟩
        have HB3 := hid (below_drewN HB2.out n3)
        have HO3 := hid (own_drewN HO2.out n3)
        clear HB2 HO2 HWI
        generalize w2.drewN n3 = w3 at *
        generalize hA : sstep S L H C j = A at *
        go_wp2_with fail
        go_loopw [10, 11] (fun d i wr => ∃ y : Nat, y ≤ A.length ∧ i = .int .i64 y ∧ d = .bool ((A.take y).contains (C[j]'HLT.out)) ∧ ∃ n, wr = w3.drewN n) (fun _ i _ => A.length - (intOf i).toNat)
        case atStart => exact ⟨0, by omega, rfl, by simp, 0, rfl⟩
        case round =>
          obtain ⟨y, hy, rfl, rfl, n4, rfl⟩ := hrel
          by_cases hlt : y < A.length
          · have HY := hid hlt
            have HW2 := hid (show wrap64 ((y : Int) + 1) = ((y + 1 : Nat) : Int) from Go.IntWalk.wrap64_in _ (by have := HCL.out; have := HAL.out; omega))
            have HT := hid (has_take A (C[j]'HLT.out) y hlt)
            obtain ⟨go, oo, rfl, lto, ro⟩ := own_cells HO3.out y (by rw [iv_length]; exact hlt)
            have d3 : w3.cell? ⟨go, oo + y, none⟩ = some (.int .i64 A[y]) := by have := ro; simp [iv] at this; exact this
            have HR4 := HI.out _ HB3.out
            obtain ⟨d0, d1⟩ := HR4.cells
            have d2 := HR4.co.cell j HLT.out
            have z0 : (0 : Int) ≤ (j : Int) := by omega
            have z1 : (j : Int) < (C.length : Int) := by have := HLT.out; omega
            have e1 : decide ((y : Int) < (A.length : Int)) = true := by simpa using hlt
            have e1' : decide (y < A.length) = true := by simpa using hlt
            cases hc : (A.take y).contains (C[j]'HLT.out) with
            | true =>
              rw [hc, Bool.true_or] at HT
              clear ro HR4 lto d0 d1 d2 d3
              go_wp2_with fail
              go_quiet (fail)
              go_wp2_with fail
              go_roundw
              case rel => exact ⟨y + 1, HY.out, by rw [HW2.out], by rw [HT.out], _, rfl⟩
              case measure => have := HY.out; rw [HW2.out]; simp [intOf]; omega
            | false =>
              rw [hc, Bool.false_or] at HT
              clear ro HR4 lto
              generalize A[y] = av at d3 HT
              generalize hcv : C[j]'HLT.out = cv at *
              go_wp2_with fail
              go_quiet (fail)
              go_wp2_with fail
              go_roundw
              case rel => exact ⟨y + 1, HY.out, by rw [HW2.out], by rw [HT.out], _, rfl⟩
              case measure => have := HY.out; rw [HW2.out]; simp [intOf]; omega
          · obtain rfl : y = A.length := by omega
            rw [List.take_length]
            have HB4 := hid (below_drewN HB3.out n4)
            have HO4 := hid (own_drewN HO3.out n4)
            have HR4 := HI.out _ HB4.out
            obtain ⟨d0, d1⟩ := HR4.cells
            have d2 := HR4.co.cell j HLT.out
            have z0 : (0 : Int) ≤ (j : Int) := by omega
            have z1 : (j : Int) < (C.length : Int) := by have := HLT.out; omega
            clear HB3 HO3 HR4 hy hlt
            generalize w3.drewN n4 = w4 at *
            generalize hcv : C[j]'HLT.out = cv at *
            cases hc : A.contains cv with
            | true =>
              have HS2 := hid (show sstep S L H C (j + 1) = A by rw [HS.out]; unfold addI; rw [if_pos hc])
              clear hc
              go_wp2_with fail
              go_roundw
              case rel => exact ⟨j + 1, HLT.out, by rw [HW.out], HB4.out, po, co, by rw [HS2.out], by rw [HS2.out]; exact HO4.out⟩
              case measure => have := HLT.out; rw [HW.out]; simp [intOf]; omega
            | false =>
              have HS2 := hid (show sstep S L H C (j + 1) = A ++ [cv] by rw [HS.out]; unfold addI; rw [if_neg (by rw [hc]; simp)])
              clear hc
              go_wp2_with (at_builtin; refine wpList_app rfl _ _ _ rfl rfl rfl (app_lit _ cv HO4.out (by have := HAL.out; have := HCL.out; omega) HB4.out.size) ?_)
              intro v' w5 ho5 hb5
              obtain ⟨p', c', rfl⟩ := own_shape ho5
              have HO5 := hid ho5
              have HB5 := hid (HB4.out.trans hb5)
              clear ho5 hb5
              go_wp2_with fail
              go_roundw
              case rel => exact ⟨j + 1, HLT.out, by rw [HW.out], HB5.out, p', c', by rw [HS2.out, List.length_append]; rfl, by rw [HS2.out, List.length_append]; exact HO5.out⟩
              case measure => have := HLT.out; rw [HW.out]; simp [intOf]; omega
    · obtain rfl : j = C.length := by omega
      rw [HALL.out] at *
      go_wp2_with fail
      go_ret2
      exact ⟨po, ⟨co, rfl⟩, own_cells HO.out, HBR.out⟩
end Go.Proofs.Ytpbidpgpehicmaa.Sl
