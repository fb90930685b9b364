/- Records put one behind the other. -/
import Derived.Test.YtjgjfcidfcfajaaBkOnce
namespace Go.Proofs.Ytjgjfcidfcfajaa.Bk
open Go.RowKit
open Go.Lib (hid)
open Go.Proofs.Ytjgjfcidfcfajaa.Ky

theorem up_less {L : List Rec} (hu : upL L) {i j : Nat} (hi : i < L.length) (hj : j < L.length) (h : i < j) : cmp L[i].1 L[j].1 < 0 := List.pairwise_iff_getElem.1 hu i j hi hj h
theorem has_end {L : List Rec} {k : List Nat} (h : lessN L k = L.length) : hasN L k = false := has_none (by omega)
theorem put_take {L : List Rec} (hu : upL L) (k : Nat) (hk : k < L.length) : putR (L.take k) (L[k].1, L[k].2) = L.take (k + 1) := by
  have hl : (L.take k).length = k := by rw [List.length_take]; omega
  have h1 : lessN (L.take k) L[k].1 = k := lessN_at k (by omega) (fun i hi hik => by rw [List.getElem_take]; exact up_less hu (by omega) hk hik) (fun h => by omega)
  have h2 : hasN (L.take k) L[k].1 = false := has_end (by rw [h1, hl])
  unfold putR
  rw [h2, h1]
  simp only [Bool.false_eq_true, if_false]
  rw [List.drop_eq_nil_of_le (by omega), List.take_of_length_le (by omega), List.take_succ_eq_append_getElem hk]
theorem less_front {L : List Rec} {k : List Nat} (h : ∀ hl : 0 < L.length, ¬ cmp L[0].1 k < 0) : lessN L k = 0 := lessN_at 0 (Nat.zero_le _) (fun i _ h0 => absurd h0 (by omega)) h
theorem put_drop {L : List Rec} (hu : upL L) (j : Nat) (hj : j < L.length) : putR (L.drop (j + 1)) (L[j].1, L[j].2) = L.drop j := by
  have hne : ∀ hl : 0 < (L.drop (j + 1)).length, cmp L[j].1 (L.drop (j + 1))[0].1 < 0 := fun hl => by
    rw [List.length_drop] at hl
    rw [List.getElem_drop]; exact up_less hu hj (by omega) (by omega)
  have h1 : lessN (L.drop (j + 1)) L[j].1 = 0 := less_front fun hl => by
    have h2 := hne hl
    have h3 := cmp_flip L[j].1 (L.drop (j + 1))[0].1
    omega
  have h2 : hasN (L.drop (j + 1)) L[j].1 = false := by
    cases e : hasN (L.drop (j + 1)) L[j].1 with
    | false => rfl
    | true =>
      obtain ⟨hlt, he⟩ := hasN_iff.1 e
      simp only [h1] at hlt he
      have h4 := hne hlt
      rw [he, cmp_self] at h4
      omega
  unfold putR
  rw [h2, h1]
  simp only [Bool.false_eq_true, if_false]
  rw [List.take_zero, List.nil_append, List.drop_zero]
  exact (List.drop_eq_getElem_cons hj).symm
theorem cut_drop {L : List Rec} (k : Nat) (hk : k < L.length) : hasN (L.drop k) L[k].1 = true ∧ cutR (L.drop k) L[k].1 = L.drop (k + 1) := by
  have hl : 0 < (L.drop k).length := by rw [List.length_drop]; omega
  have h0 : (L.drop k)[0].1 = L[k].1 := by rw [List.getElem_drop]; rfl
  have h1 : lessN (L.drop k) L[k].1 = 0 := less_front fun hl => by rw [h0, cmp_self]; omega
  have h2 : hasN (L.drop k) L[k].1 = true := hasN_iff.2 ⟨by rw [h1]; exact hl, by simp only [h1]; exact h0⟩
  refine ⟨h2, ?_⟩
  unfold cutR
  rw [if_pos h2, h1, List.take_zero, List.nil_append, List.drop_drop]
theorem up_take {L : List Rec} (hu : upL L) (k : Nat) : upL (L.take k) := List.Pairwise.sublist (List.take_sublist _ _) hu
theorem up_drop {L : List Rec} (hu : upL L) (k : Nat) : upL (L.drop k) := List.Pairwise.sublist (List.drop_sublist _ _) hu
theorem big_take {L : List Rec} (h : bigR L) (k : Nat) : bigR (L.take k) := ⟨by have := h.1; rw [List.length_take]; omega, fun r hr => h.2 r (List.mem_of_mem_take hr)⟩
theorem big_drop {L : List Rec} (h : bigR L) (k : Nat) : bigR (L.drop k) := ⟨by have := h.1; rw [List.length_drop]; omega, fun r hr => h.2 r (List.mem_of_mem_drop hr)⟩
section
variable {D : Nat → Prop} {L : List Rec}
theorem many_a (hb : bigR L) (hu : upL L) (hl : L.length < 1000) (k : Nat) (hk : k < L.length) (V : World) (pa q : Option Addr) (c : Nat) (h : Rs D V pa (L.take k)) (hq : Pt V q L[k].1) :
    Calls Try.prog 22 #[.slice pa k k, .agg #[.slice q L[k].1.length c, .string L[k].2]] V fun e w' => ∃ p', e = .returned (.slice p' (k + 1) (k + 1)) ∧ Rs (Lt V.heap.size) w' p' (L.take (k + 1)) ∧ Below V.heap.size V w' := by
  have h2 := hb.2 _ (List.getElem_mem hk)
  have e1 : (L.take k).length = k := by rw [List.length_take]; omega
  have e2 : (L.take (k + 1)).length = k + 1 := by rw [List.length_take]; omega
  have := put_ok (L.take k) L[k].1 L[k].2 pa q k c V h hq (big_take hb k) (by omega) (up_take hu k) h2.1 h2.2 (by omega)
  rw [put_take hu k hk, e1, e2] at this
  exact this
theorem many_b (hb : bigR L) (hu : upL L) (hl : L.length < 1000) (j k : Nat) (hk : j + 1 + k = L.length) (V : World) (pb q : Option Addr) (c : Nat) (h : Rs D V pb (L.drop (j + 1))) (hq : Pt V q (L[j]'(by omega)).1) :
    Calls Try.prog 22 #[.slice pb k k, .agg #[.slice q (L[j]'(by omega)).1.length c, .string (L[j]'(by omega)).2]] V fun e w' => ∃ p', e = .returned (.slice p' (k + 1) (k + 1)) ∧ Rs (Lt V.heap.size) w' p' (L.drop j) ∧ Below V.heap.size V w' := by
  have hj : j < L.length := by omega
  have h2 := hb.2 _ (List.getElem_mem hj)
  have e1 : (L.drop (j + 1)).length = k := by rw [List.length_drop]; omega
  have e2 : (L.drop j).length = k + 1 := by rw [List.length_drop]; omega
  have := put_ok (L.drop (j + 1)) L[j].1 L[j].2 pb q k c V h hq (big_drop hb _) (by omega) (up_drop hu _) h2.1 h2.2 (by omega)
  rw [put_drop hu j hj, e1, e2] at this
  exact this
theorem many_c (hb : bigR L) (hu : upL L) (k s : Nat) (hk : k + (s + 1) = L.length) (V : World) (pb q : Option Addr) (c : Nat) (h : Rs D V pb (L.drop k)) (hq : Pt V q (L[k]'(by omega)).1) :
    Calls Try.prog 23 #[.slice pb (s + 1) (s + 1), .slice q (L[k]'(by omega)).1.length c] V fun e w' => ∃ p', e = .returned (.tuple #[.slice p' s s, .bool true]) ∧ Rs (Lt V.heap.size) w' p' (L.drop (k + 1)) ∧ Below V.heap.size V w' := by
  have hj : k < L.length := by omega
  have e1 : (L.drop k).length = s + 1 := by rw [List.length_drop]; omega
  have e2 : (L.drop (k + 1)).length = s := by rw [List.length_drop]; omega
  have := cut_ok (L.drop k) L[k].1 pb q (s + 1) c V h hq (big_drop hb _) (by omega) (up_drop hu _)
  rw [(cut_drop k hj).1, (cut_drop k hj).2, e1, e2] at this
  exact this
end
set_option maxRecDepth 100000 in
set_option maxHeartbeats 2000000 in
theorem many_few (L : List Rec) (p : Option Addr) (c : Nat) (d : Int) (w : World) (hp : Rs (fun _ => False) w p L) (hl : L.length ≤ 9223372036854775807) (hf : fewB L = false) :
    Calls Try.prog 8 #[.slice p L.length c, .int .i64 d] w fun e w' => e = .returned (.bool true) ∧ Below w.heap.size w w' := by
  have HF := hid (few_ok L p c _ hp hl)
  rw [hf] at HF
  clear hp hf hl
  go_enter Try.func8, Try.ntmps8
  go_wp2_with fail
  refine HF.out.mono ?_
  rintro e w1 ⟨rfl, rfl⟩
  go_wp2_with fail
  refine (live_any _).mono ?_
  rintro e w2 ⟨rfl, hb⟩
  have H1 := hid hb; clear hb
  go_wp2_with fail
  go_ret
  exact ⟨rfl, H1.out⟩
set_option maxRecDepth 100000 in
set_option maxHeartbeats 2000000 in
theorem many_is (L : List Rec) (p : Option Addr) (c : Nat) (d : Int) (w : World) (hp : Rs (fun _ => False) w p L) (hl : L.length ≤ 9223372036854775807) (hf : fewB L = true) (hi : isBb L d = false) :
    Calls Try.prog 8 #[.slice p L.length c, .int .i64 d] w fun e w' => e = .returned (.bool true) ∧ Below w.heap.size w w' := by
  have HF := hid (few_ok L p c _ hp hl)
  have HI := hid (is_ok L p c d _ hp (fewR_big (fewB_iff.1 hf)))
  rw [hf] at HF
  rw [hi] at HI
  clear hp hf hl hi
  go_enter Try.func8, Try.ntmps8
  go_wp2_with fail
  refine HF.out.mono ?_
  rintro e w1 ⟨rfl, rfl⟩
  go_wp2_with fail
  refine HI.out.mono ?_
  rintro e w1 ⟨rfl, hb⟩
  have H1 := hid hb; clear hb
  go_wp2_with fail
  refine (live_any _).mono ?_
  rintro e w2 ⟨rfl, hb⟩
  have H2 := hid (H1.out.trans (hb.mono H1.out.size)); clear hb
  go_wp2_with fail
  go_ret
  exact ⟨rfl, H2.out⟩
/-- behind k rounds of the first loop -/
def MA (w wr : World) (p : Option Addr) (L : List Rec) (k j : Nat) (pa pb : Option Addr) : Prop :=
  Ct w wr [] [] [(pb, L.drop j), (pa, L.take k), (p, L)]
theorem MA.next {w wr w1 w2 : World} {p pa pb pa' pb' : Option Addr} {L : List Rec} {k j k' j' : Nat} {D D' : Nat → Prop} (h : MA w wr p L k j pa pb) (h1 : Below wr.heap.size wr w1) (h2 : Below w1.heap.size w1 w2)
    (ha : Rs D w1 pa' (L.take k')) (hb : Rs D' w2 pb' (L.drop j')) : MA w w2 p L k' j' pa' pb' := by
  have e := h.step (h1.trans (h2.mono h1.size))
  refine (((Ct.start w).step e.below).list (e.rs (p := p) (by simp))).list (D := fun _ => False) ?_ |>.list hb
  exact ((ha.below h2).less (fun _ _ h => h.elim))
set_option maxRecDepth 100000 in
set_option maxHeartbeats 8000000 in
theorem many_go (L : List Rec) (p : Option Addr) (c : Nat) (d : Int) (w : World) (hp : Rs (fun _ => False) w p L) (hl : L.length ≤ 9223372036854775807) (hf : fewB L = true) (hi : isBb L d = true) :
    Calls Try.prog 8 #[.slice p L.length c, .int .i64 d] w fun e w' => e = .returned (.bool true) ∧ Below w.heap.size w w' := by
  have hbig := fewR_big (fewB_iff.1 hf)
  have hfew := (fewB_iff.1 hf).1
  have hu := (isBb_iff.1 hi).2
  have H0 := hid ((Ct.start w).list hp)
  have HF := hid (few_ok L p c _ hp hl)
  have HI := hid (is_ok L p c d _ hp hbig)
  rw [hf] at HF
  rw [hi] at HI
  have HA := hid (fun (D : Nat → Prop) => many_a (D := D) hbig hu (by omega : L.length < 1000))
  have HB := hid (fun (D : Nat → Prop) => many_b (D := D) hbig hu (by omega : L.length < 1000))
  have HC := hid (fun (D : Nat → Prop) => many_c (D := D) hbig hu)
  have HS := hid fun (V : World) (p1 p2 : Option Addr) (h1 : Rs (fun _ => False) V p1 L) (h2 : Rs (fun _ => False) V p2 L) => sameR_ok L L p1 p2 L.length c V h1 h2 hbig
  rw [decide_eq_true (rfl : L = L)] at HS
  clear hp hf hl hi hbig hu
  go_enter Try.func8, Try.ntmps8
  go_wp2_with fail
  refine HF.out.mono ?_
  rintro e w1 ⟨rfl, rfl⟩
  go_wp2_with fail
  refine HI.out.mono ?_
  rintro e w1 ⟨rfl, hb⟩
  have H1 := hid (H0.out.step hb); clear hb HF HI H0
  go_wp2_with fail
  go_loopw [5, 6, 7] (fun a b i wr => ∃ (k j : Nat) (pa pb : Option Addr), k + j = L.length ∧ i = .int .i64 k ∧ a = .slice pa k k ∧ b = .slice pb k k ∧ MA w wr p L k j pa pb) (fun _ _ i _ => L.length - (intOf i).toNat)
  case atStart =>
    refine ⟨0, L.length, none, none, by omega, rfl, rfl, rfl, ?_⟩
    exact (H1.out.list (p := none) (L := L.take 0) (D := fun _ => False) (by rw [List.take_zero]; exact Rs.nil _)).list (D := fun _ => False) (by rw [List.drop_length]; exact Rs.nil _)
  case round =>
    obtain ⟨k, j, pa, pb, hkj, rfl, rfl, rfl, hm⟩ := hrel
    have HM := hid hm; clear hm
    have HKJ := hid hkj
    by_cases hlt : k < L.length
    · obtain ⟨i, rfl⟩ : ∃ i, j = i + 1 := ⟨j - 1, by omega⟩
      have hil : i < L.length := by omega
      obtain ⟨b, off, q1, c1, ep, hbl, d1, d2, hp1⟩ := (HM.out.rs (p := p) (by simp)).at k hlt
      obtain ⟨b2, off2, q2, c2, e2, _, d3, d4, hp2⟩ := (HM.out.rs (p := p) (by simp)).at i hil
      subst ep
      cases e2
      have H3 := hid hp1.pt
      have H4 := hid hp2.pt
      clear hp1 hp2
      obtain ⟨m, hkm⟩ : ∃ m, k + i = m := ⟨_, rfl⟩
      have f1 : (L.length : Int) - 1 = (m : Int) := by omega
      have f5 : IntKind.i64.wrap (m : Int) = (m : Int) := wrap_nat m (by omega)
      have f6 : IntKind.i64.wrap (i : Int) = (i : Int) := wrap_nat i (by omega)
      have f2 : IntKind.i64.wrap ((L.length : Int) - 1) = (m : Int) := by rw [f1, f5]
      have f3 : (m : Int) - (k : Int) = (i : Int) := by omega
      have f4 : IntKind.i64.wrap ((m : Int) - (k : Int)) = (i : Int) := by rw [f3, f6]
      have f7 : (0 : Int) ≤ (i : Int) := by omega
      have f8 : (i : Int) < (L.length : Int) := by omega
      clear hkj hkm
      go_wp2_with fail
      refine (HA.out _ k hlt wr pa q1 c1 (HM.out.rs (p := pa) (by simp)) H3.out).mono ?_
      rintro e w2 ⟨pa', rfl, hr, hb⟩
      have d5 := (hb.cell (p := ⟨b, _, none⟩) hbl).trans d3
      have d6 := (hb.cell (p := ⟨b, _, none⟩) hbl).trans d4
      have HR := hid (And.intro hr hb)
      clear hr hb d1 d2 d3 d4 H3 
      go_wp2_with fail
      refine (HB.out _ i k (by have := HKJ.out; omega) w2 pb q2 c2 ((HM.out.rs (p := pb) (by simp)).below HR.out.2) (H4.out.below HR.out.2)).mono ?_
      rintro e w3 ⟨pb', rfl, hr, hb⟩
      have HM3 := hid (HM.out.next HR.out.2 hb HR.out.1 hr)
      clear hr hb d5 d6 H4 HM
      go_wp2_with fail
      go_roundw
      case rel => exact ⟨k + 1, i, pa', pb', by have := HKJ.out; omega, by go_num, rfl, rfl, HM3.out⟩
      case measure => simp [intOf]; omega
    · obtain rfl : j = 0 := by omega
      obtain rfl : k = L.length := by omega
      have HA1 := hid (HM.out.rs (p := pa) (L := L.take L.length) (List.mem_cons_of_mem _ (List.mem_cons_self ..)))
      have HB1 := hid (HM.out.rs (p := pb) (L := L.drop 0) (List.mem_cons_self ..))
      rw [List.take_length] at HA1
      rw [List.drop_zero] at HB1
      have HM1 := hid (((Ct.start w).step HM.out.below |>.list (HM.out.rs (p := p) (L := L) (by simp))).list HB1.out)
      clear HM HKJ hkj HA HB hlt
      go_wp2_with fail
      refine (HS.out _ _ _ HA1.out (HM1.out.rs (p := p) (by simp))).mono ?_
      rintro e w2 ⟨rfl, m2, hw2⟩
      have HM2 := hid (HM1.out.step (V' := w2) (by rw [hw2]; exact below_drewN (Below.refl _ _) m2)); clear hw2 HM1 HA1 HB1
      go_wp2_with fail
      refine (HS.out _ _ _ (HM2.out.rs (p := pb) (by simp)) (HM2.out.rs (p := p) (by simp))).mono ?_
      rintro e w3 ⟨rfl, m3, hw3⟩
      have HM3 := hid (HM2.out.step (V' := w3) (by rw [hw3]; exact below_drewN (Below.refl _ _) m3)); clear hw3 HM2 HS
      go_wp2_with fail
      go_loopw [6, 8] (fun b i wr => ∃ (k s : Nat) (pb : Option Addr), k + s = L.length ∧ i = .int .i64 k ∧ b = .slice pb s s ∧ Ct w wr [] [] [(pb, L.drop k), (p, L)]) (fun _ i _ => L.length - (intOf i).toNat)
      case atStart => exact ⟨0, L.length, pb, by omega, rfl, rfl, by rw [List.drop_zero]; exact HM3.out⟩
      case round =>
        obtain ⟨k, s, pb, hks, rfl, rfl, hm⟩ := hrel
        have HM := hid hm; clear hm HM3
        have HKS := hid hks
        by_cases hlt : k < L.length
        · obtain ⟨s, rfl⟩ : ∃ t, s = t + 1 := ⟨s - 1, by omega⟩
          obtain ⟨b, off, q1, c1, ep, hbl, d1, d2, hp1⟩ := (HM.out.rs (p := p) (by simp)).at k hlt
          subst ep
          have H3 := hid hp1.pt
          have g1 : IntKind.i64.wrap (s : Int) = (s : Int) := wrap_nat s (by omega)
          have g2 : (s : Int) + 1 - 1 = (s : Int) := by omega
          have g3 : IntKind.i64.wrap ((s : Int) + 1 - 1) = (s : Int) := by rw [g2, g1]
          have g4 : (((s + 1 : Nat) : Int) - 1) = (s : Int) := by omega
          have g5 : IntKind.i64.wrap (((s + 1 : Nat) : Int) - 1) = (s : Int) := by rw [g4, g1]
          clear hp1 hks
          go_wp2_with fail
          refine (HC.out _ k s HKS.out wr pb q1 c1 (HM.out.rs (p := pb) (by simp)) H3.out).mono ?_
          rintro e w4 ⟨pc, rfl, hr, hb⟩
          have HM4 := hid (HM.out.step hb)
          have HM5 := hid ((((Ct.start w).step HM4.out.below).list (HM4.out.rs (p := some ⟨b, off, none⟩) (L := L) (by simp))).list hr)
          clear hr hb HM HM4 H3 d1 d2 hbl
          go_wp2_with fail
          go_roundw
          case rel => exact ⟨k + 1, s, pc, by have := HKS.out; omega, by go_num, rfl, HM5.out⟩
          case measure => simp [intOf]; omega
        · obtain rfl : s = 0 := by omega
          obtain rfl : k = L.length := by omega
          clear HKS hks hlt HC
          go_wp2_with fail
          refine (live_any _).mono ?_
          rintro e w4 ⟨rfl, hb⟩
          have HM4 := hid (HM.out.step hb); clear hb HM
          go_wp2_with fail
          go_ret
          exact ⟨rfl, HM4.out.below⟩
end Go.Proofs.Ytjgjfcidfcfajaa.Bk
