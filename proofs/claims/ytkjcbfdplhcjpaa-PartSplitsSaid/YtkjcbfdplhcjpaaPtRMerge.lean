/- Merge of the reference. -/
import Derived.Test.YtkjcbfdplhcjpaaPtSorted
namespace Go.Proofs.Ytkjcbfdplhcjpaa.Pt
open Go.RowKit
open Go.Lib (hid)
open Go.Proofs.Ytkjcbfdplhcjpaa.Ky
open Go.Proofs.Ytkjcbfdplhcjpaa.Bk

theorem big_rest {A B : List Rec} (ha : bigR A) (hb : bigR B) (hab : A.length + B.length ≤ 1000) : bigR (restR A B ++ B) :=
  ⟨by rw [List.length_append]; have := rest_len A B; omega, fun r hr => (List.mem_append.1 hr).elim (fun h => ha.2 r (List.mem_filter.1 h).1) (hb.2 r)⟩
theorem Out1.below {N : Nat} {w w' : World} {v : Value} {M : List Rec} {xs : List Value} (h : Out1 N w v M xs) (hb : Below w.heap.size w w') : Out1 N w' v M xs := ⟨own_below h.own hb, h.rc.below hb⟩
set_option maxRecDepth 100000 in
set_option maxHeartbeats 2000000 in
theorem refMerge_ok {D D' : Nat → Prop} (A B : List Rec) (p q : Option Addr) (c c' : Nat) (w : World) (hp : Rs D w p A) (hq : Rs D' w q B) (ha : bigR A) (hb : bigR B) (hab : A.length + B.length ≤ 1000) :
    Calls Try.prog 56 #[.slice p A.length c, .slice q B.length c'] w fun e w' => ∃ p' c', e = .returned (.slice p' (sortR (restR A B ++ B)).length c') ∧ Rs (fun _ => False) w' p' (sortR (restR A B ++ B)) ∧ Below w.heap.size w w' := by
  have HP := hid (hp.less (D' := fun b => w.heap.size ≤ b) fun b h1 h2 => absurd h1 (by omega))
  have HQ := hid (hq.less (D' := fun b => w.heap.size ≤ b) fun b h1 h2 => absurd h1 (by omega))
  have HA := hid ha; have HAB := hid hab; have HBR := hid (big_rest ha hb hab)
  have hla : A.length ≤ 1000 := by omega
  have hlb : B.length ≤ 1000 := by omega
  clear hp hq ha hb hab
  go_enter Try.func56, Try.ntmps56
  go_wp2_with fail
  go_loopw [5, 6] (fun v i wr => ∃ (k : Nat) (xs : List Value), k ≤ A.length ∧ i = .int .i64 (k : Int) ∧ Out1 w.heap.size wr v (restR (A.take k) B) xs ∧ Below w.heap.size w wr) (fun _ i _ => A.length - (intOf i).toNat)
  case atStart => exact ⟨0, [], by omega, rfl, ⟨World.ownsRow_nil _ _ _ _, RC.nil⟩, Below.refl _ _⟩
  case round =>
    rename World => w0
    obtain ⟨k, xs, hk, rfl, ho, hb⟩ := hrel
    have HB := hid hb; have HO := hid ho; clear hb ho
    by_cases hlt : k < A.length
    · have HSN := hid (rest_snoc A B k hlt)
      obtain ⟨b, off, q1, c1, rfl, hbl, e1, e2, hq1⟩ := (HP.out.below HB.out).at k hlt
      have hbg := HA.out.2 _ (List.getElem_mem hlt)
      obtain ⟨x, hx⟩ : ∃ x, A[k].1 = x := ⟨_, rfl⟩
      obtain ⟨t, htt⟩ : ∃ t, A[k].2 = t := ⟨_, rfl⟩
      have hr : A[k] = (x, t) := by rw [← hx, ← htt]
      rw [hr] at HSN
      rw [hx] at e1 hq1 hbg
      rw [htt] at e2
      have HXL := hid (show x.length ≤ 1000000 by omega)
      have HD := hid fun (V : World) (hv : Below w0.heap.size w0 V) => (show V.cell? ⟨b, off + k * 2, none⟩ = some (.slice q1 x.length c1) ∧ V.cell? ⟨b, off + k * 2 + 1, none⟩ = some (.string t) from ⟨(hv.cell (p := ⟨b, _, none⟩) hbl).trans e1, (hv.cell (p := ⟨b, _, none⟩) hbl).trans e2⟩)
      have HQ0 := hid hq1
      have HOL := hid (show (restR (A.take k) B).length ≤ 1000 by have h1 := rest_len (A.take k) B; have h2 := List.length_take_le k A; omega)
      obtain ⟨O, hO⟩ : ∃ O, restR (A.take k) B = O := ⟨_, rfl⟩
      rw [hO] at HSN HO HOL
      clear hq1 hx htt hr e1 e2 hbl hO hbg
      go_wp2_with fail
      go_loopw [7, 8] (fun y i wz => ∃ j : Nat, j ≤ B.length ∧ i = .int .i64 (j : Int) ∧ y = .bool (twiceB (x, t) (B.take j)) ∧ ∃ n, wz = w0.drewN n) (fun _ i _ => B.length - (intOf i).toNat)
      case atStart => exact ⟨0, by omega, rfl, by simp [twiceB], 0, rfl⟩
      case round =>
        obtain ⟨j, hj, rfl, rfl, n, hwz⟩ := hrel
        have HZ := hid (show Below w0.heap.size w0 wr by rw [hwz]; exact below_drewN (Below.refl _ _) n)
        have HW := hid hwz; clear hwz
        have HBZ := hid (HB.out.trans (HZ.out.mono HB.out.size))
        obtain ⟨d1, d2⟩ := HD.out _ HZ.out
        by_cases hj2 : j < B.length
        · obtain ⟨b2, o2, q2, c2, rfl, hb2, d3, d4, hq2⟩ := (HQ.out.below HBZ.out).at j hj2
          have HTS := hid (twice_snoc (x, t) B j hj2)
          have HS := hid fun (m : Nat) => same_ok x B[j].1 q1 q2 c1 c2 (wr.drewN m) (((HQ0.out.keep (.below HZ.out)).pt).drewN m) (hq2.pt.drewN m) HXL.out
          obtain ⟨tw, htw⟩ : ∃ tw, twiceB (x, t) (B.take j) = tw := ⟨_, rfl⟩
          rw [htw] at HTS ⊢
          clear htw hq2 d4
          generalize sameB x B[j].1 = z at HS HTS
          generalize B[j].1.length = l2 at d3 HS
          cases tw with
          | true =>
            have HN := hid (show twiceB (x, t) (B.take (j + 1)) = true by rw [HTS.out]; rfl)
            clear HTS HS d3
            go_wp2_with fail
            go_quiet (fail)
            go_wp2_with fail
            go_roundw
            case rel => exact ⟨j + 1, by omega, by go_num, by rw [HN.out], _, by rw [HW.out]; exact World.drewN_drewN _ _ _⟩
            case measure => simp [intOf]; omega
          | false =>
            have HN := hid (show twiceB (x, t) (B.take (j + 1)) = z by rw [HTS.out]; exact Bool.false_or z)
            clear HTS
            go_wp2_with fail
            go_quiet ((go_at_call 40; exact quiet_more (HS.out _)))
            go_wp2_with fail
            go_roundw
            case rel => exact ⟨j + 1, by omega, by go_num, by rw [HN.out], _, by rw [HW.out]; exact World.drewN_drewN _ _ _⟩
            case measure => simp [intOf]; omega
        · obtain rfl : j = B.length := by omega
          rw [List.take_length]
          obtain ⟨tw, htw⟩ : ∃ tw, twiceB (x, t) B = tw := ⟨_, rfl⟩
          rw [htw] at HSN ⊢
          clear htw
          have HO5 := hid (HO.out.below HZ.out)
          cases tw with
          | true =>
            go_wp2_with fail
            go_roundw
            case rel => exact ⟨k + 1, _, by omega, by go_num, by rw [HSN.out, if_pos rfl, List.append_nil]; exact HO5.out, HBZ.out⟩
            case measure => simp [intOf]; omega
          | false =>
            have HB4 := hid (below_alloc wr (.cells #[.slice q1 x.length c1, .string t] 33))
            have HAp := hid (rec_own (w := wr.alloc (.cells #[.slice q1 x.length c1, .string t] 33)) 40 u5 O.length xs (own_below HO5.out.own HB4.out) (some ⟨wr.heap.size, 0, none⟩) 1 1 [.slice q1 x.length c1, .string t] (read_new wr _ _ _) rfl (one_two _ _ rfl rfl) (by have := HOL.out; omega) (Nat.le_trans HBZ.out.size HB4.out.size))
            go_wp2_with (at_builtin; refine wpList_app rfl _ _ _ rfl rfl rfl HAp.out ?_)
            intro v' w4 hF
            have HO4 := hid (HO5.out.push (K := [(x, t)]) HB4.out (RC.one ((HQ0.out.keep (.below HZ.out)).keep (.below HB4.out))) hF)
            have HB5 := hid (show Below w.heap.size w w4 from (HBZ.out.trans (HB4.out.mono HBZ.out.size)).grown hF.2.1 (Nat.le_trans HBZ.out.size HB4.out.size) (fun j hj => (HO.out.own.lt j hj).1))
            clear hF HAp
            go_wp2_with fail
            go_roundw
            case rel => exact ⟨k + 1, _, by omega, by go_num, by rw [HSN.out]; exact HO4.out, HB5.out⟩
            case measure => simp [intOf]; omega
    · obtain rfl : k = A.length := by omega
      have ho := HO.out
      rw [List.take_length] at ho
      have HO1 := hid ho
      clear ho HO
      obtain ⟨ys, hys, hra⟩ := rs_cells (HQ.out.below HB.out)
      have HYS := hid hys
      have HOL := hid (rest_len A B)
      obtain ⟨M, hM⟩ : ∃ M, restR A B = M := ⟨_, rfl⟩
      obtain ⟨K, hK⟩ : ∃ K, M ++ B = K := ⟨_, rfl⟩
      rw [hM] at HO1 HOL HBR
      rw [hK] at HBR
      have HKK := hid (show restR A B ++ B = K by rw [hM, hK])
      have HK2 := hid hK
      clear hM hK
      have HAp := hid (rec_own (w := w0) 40 u5 M.length xs HO1.out.own q B.length c' ys hra hys.1 hys.oneCell (by have := HOL.out; omega) HB.out.size)
      clear hys hra
      go_wp2_with (at_builtin; refine wpList_app rfl _ _ _ rfl rfl rfl HAp.out ?_)
      intro v1 w1 hF
      have hp1 := HO1.out.push (Below.refl _ _) HYS.out hF
      rw [HK2.out] at hp1
      have HP1 := hid hp1
      clear hp1
      have HB1 := hid (show Below w.heap.size w w1 from HB.out.grown hF.2.1 HB.out.size (fun j hj => (HO1.out.own.lt j hj).1))
      clear hF HAp
      obtain ⟨p2, c2, rfl, hc2, hr2⟩ := HP1.out.open
      have HS := hid (sorted_ok K p2 c2 w1 hr2 HBR.out)
      clear hc2 hr2 HP1
      go_wp2_with fail
      refine HS.out.mono ?_
      rintro e w3 ⟨p3, c3, rfl, h3, hb3⟩
      have H3 := hid h3
      have HB3 := hid (HB1.out.trans (hb3.mono HB1.out.size))
      clear h3 hb3
      go_wp2_with fail
      go_ret
      rw [HKK.out]
      exact ⟨p3, c3, rfl, H3.out, HB3.out⟩
end Go.Proofs.Ytkjcbfdplhcjpaa.Pt
