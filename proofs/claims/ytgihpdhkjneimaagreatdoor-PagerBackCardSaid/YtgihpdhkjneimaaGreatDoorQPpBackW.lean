/- PagerBack walked. -/
import Derived.Test.YtgihpdhkjneimaaGreatDoorP21
import Derived.Test.YtgihpdhkjneimaaGreatDoorQPpPss
namespace Go.Proofs.YtgihpdhkjneimaaGreatDoor.Pp
open Go.RowKit
open Go.Lib (hid)
open Go.Proofs.YtgihpdhkjneimaaGreatDoor.Dk
open Go.Proofs.YtgihpdhkjneimaaGreatDoor.Jn
open Go.Proofs.YtgihpdhkjneimaaGreatDoor.En (Lst PageT Pgs mayS)
theorem dnew_bad2 (n : Int) (w : World) (h : n < 1 ∨ 1000 < n) : Calls Tryz.prog 9 #[.int .i64 n] w fun e w' => e = .returned (.tuple #[.pointer none, .int .i64 1]) ∧ w' = w := (new_bad n w h).mono fun _ _ ⟨h1, h2⟩ => ⟨h1, h2.symm⟩
theorem pgs_dom2 {w1 w2 : World} {p : Option Addr} {L : List PageT} (h : Pgs w1 p L) (hk : KS (fun j => j < w1.heap.size) w1 w2) : Pgs w2 p L := fun i hi => by
  obtain ⟨b, off, e, hl, c0, c1, c2⟩ := h i hi
  have hb := hk.block b hl hl
  have hc : ∀ j, w2.cell? ⟨b, j, none⟩ = w1.cell? ⟨b, j, none⟩ := fun j => by unfold World.cell?; rw [hb]
  exact ⟨b, off, e, Nat.lt_of_lt_of_le hl hk.size, (hc _).trans c0, (hc _).trans c1, (hc _).trans c2⟩
theorem cell_dom {w w2 : World} {b o : Nat} {v : Value} (hb : b < w.heap.size) (h : w.cell? ⟨b, o, none⟩ = some v) (hk : KS (fun j => j < w.heap.size) w w2) : w2.cell? ⟨b, o, none⟩ = some v := by
  rw [← h]; unfold World.cell?; rw [hk.block b hb hb]
set_option maxRecDepth 100000 in
set_option maxHeartbeats 8000000 in
theorem pback_far (a0 a1 : Int) (p : Option Addr) (len c : Nat) (w : World) (hL : Lst w) (hf : 40 < a0) : Calls Tryz.prog 5 #[.int .i64 a0, .int .i64 a1, .slice p len c] w fun e w' => e = .returned (.bool true) ∧ Below w.heap.size w w' := by
  have HL := hid hL
  have HP := hid hL.pos
  have e1 : decide (40 < a0) = true := decide_eq_true hf
  clear hf hL
  go_enter Tryz.func5, Tryz.ntmps5
  go_wp2_with fail
  refine (live_any _ HL.out).mono ?_
  rintro e w99 ⟨rfl, hb⟩
  have HB99 := hid hb
  clear hb
  go_wp2_with fail
  go_ret
  exact ⟨rfl, HB99.out⟩
set_option maxRecDepth 100000 in
set_option maxHeartbeats 8000000 in
theorem pback_far2 (a0 a1 : Int) (p : Option Addr) (len c : Nat) (w : World) (hL : Lst w) (hf : a0 ≤ 40) (hl : 8 < len) : Calls Tryz.prog 5 #[.int .i64 a0, .int .i64 a1, .slice p len c] w fun e w' => e = .returned (.bool true) ∧ Below w.heap.size w w' := by
  have HL := hid hL
  have HP := hid hL.pos
  have e1 : decide (40 < a0) = false := decide_eq_false (by omega)
  have e2 : decide (8 < (len : Int)) = true := by simp; omega
  have e3 : decide (8 < len) = true := by simp; omega
  clear hf hl hL
  go_enter Tryz.func5, Tryz.ntmps5
  go_wp2_with fail
  refine (live_any _ HL.out).mono ?_
  rintro e w99 ⟨rfl, hb⟩
  have HB99 := hid hb
  clear hb
  go_wp2_with fail
  go_ret
  exact ⟨rfl, HB99.out⟩
set_option maxRecDepth 100000 in
set_option maxHeartbeats 8000000 in
theorem pback_nodisk (a0 a1 : Int) (p : Option Addr) (len c : Nat) (w : World) (hL : Lst w) (hf : a0 < 1) (hl : len ≤ 8) : Calls Tryz.prog 5 #[.int .i64 a0, .int .i64 a1, .slice p len c] w fun e w' => e = .returned (.bool true) ∧ Below w.heap.size w w' := by
  have HL := hid hL
  have HP := hid hL.pos
  have e1 : decide (40 < a0) = false := decide_eq_false (by omega)
  have e2 : decide (8 < (len : Int)) = false := by simp; omega
  have e3 : decide (8 < len) = false := by simp; omega
  have HD := hid fun (V : World) => dnew_bad2 a0 V (.inl hf)
  clear hf hl hL
  go_enter Tryz.func5, Tryz.ntmps5
  go_wp2_with fail
  refine (HD.out _).mono ?_
  rintro e w' ⟨rfl, hw⟩
  obtain rfl := hw.symm
  go_wp2_with fail
  refine (format_nil a1 _).mono ?_
  rintro e w' ⟨rfl, hw⟩
  obtain rfl := hw.symm
  go_wp2_with fail
  refine (live_any _ HL.out).mono ?_
  rintro e w99 ⟨rfl, hb⟩
  have HB99 := hid hb
  clear hb
  go_wp2_with fail
  go_ret
  exact ⟨rfl, HB99.out⟩
set_option maxRecDepth 100000 in
set_option maxHeartbeats 8000000 in
theorem pback_noplace (a0 a1 : Int) (p : Option Addr) (len c : Nat) (w : World) (hL : Lst w) (m : Nat) (hm : a0 = (m : Int)) (h1 : 1 ≤ m) (h40 : m ≤ 40) (hl : len ≤ 8) (hb : ¬ (2 ≤ a1 ∧ a1 ≤ 900 ∧ 2 ≤ (m : Int) - a1)) : Calls Tryz.prog 5 #[.int .i64 a0, .int .i64 a1, .slice p len c] w fun e w' => e = .returned (.bool true) ∧ Below w.heap.size w w' := by
  subst hm
  have HL := hid hL
  have HP := hid hL.pos
  have e1 : decide (40 < (m : Int)) = false := decide_eq_false (by omega)
  have e2 : decide (8 < (len : Int)) = false := by simp; omega
  have e3 : decide (8 < len) = false := by simp; omega
  have e1' : decide (40 < m) = false := decide_eq_false (by omega)
  have HD := hid fun (V : World) => dnew m V h1 (by omega)
  have HSL := hid (show (newS (blanks m)).pages.length = m by show (blanks m).length = _; simp [blanks])
  have HBD := hid hb
  clear h1 h40 hl hb hL
  go_enter Tryz.func5, Tryz.ntmps5
  go_wp2_with fail
  refine (HD.out _).mono ?_
  rintro e w3 ⟨D, rfl, hc, hb⟩
  have HC3 := hid hc
  have HB3 := hid hb
  clear hc hb
  go_wp2_with fail
  refine (format_bad HC3.out a1 (by rw [HSL.out]; exact HBD.out)).mono ?_
  rintro e w' ⟨rfl, hw⟩
  obtain rfl := hw.symm
  go_wp2_with fail
  refine (live_any _ (HL.out.next HP.out HB3.out)).mono ?_
  rintro e w99 ⟨rfl, hb⟩
  have HB99 := hid (HB3.out.trans (hb.mono (HB3.out).size))
  clear hb
  go_wp2_with fail
  go_ret
  exact ⟨rfl, HB99.out⟩
set_option maxRecDepth 100000 in
set_option maxHeartbeats 8000000 in
theorem pback_go (a0 a1 : Int) (p : Option Addr) (len c : Nat) (w : World) (hL : Lst w) (hq : IsPss w p len) (m b n : Nat) (hm : a0 = (m : Int)) (hlog : a1 = (n : Int)) (hbn : b + n = m) (h40 : m ≤ 40) (hn2' : 2 ≤ n) (hb2 : 2 ≤ b) (hl : len ≤ 8) : Calls Tryz.prog 5 #[.int .i64 a0, .int .i64 a1, .slice p len c] w fun e w' => e = .returned (.bool true) ∧ Below w.heap.size w w' := by
  subst hm
  subst hlog
  have HL := hid hL
  have HP := hid hL.pos
  have e1 : decide (40 < (m : Int)) = false := decide_eq_false (by omega)
  have e2 : decide (8 < (len : Int)) = false := by simp; omega
  have e3 : decide (8 < len) = false := by simp; omega
  have e1' : decide (40 < m) = false := decide_eq_false (by omega)
  have HD := hid fun (V : World) => dnew m V (by omega) (by omega)
  have HSL := hid (show (newS (blanks m)).pages.length = m ∧ (newS (blanks m)).fuse = -1 ∧ Few (newS (blanks m)) 0 from ⟨by show (blanks m).length = _; simp [blanks], rfl, few_new _⟩)
  have HN := hid (show 2 ≤ n ∧ n ≤ 900 ∧ 2 ≤ b ∧ b + n = m ∧ m ≤ 40 from ⟨hn2', by omega, hb2, hbn, h40⟩)
  have HNB := hid (show n ≤ 40 from by omega)
  have HQ := hid hq
  have HL8 := hid hl
  clear hbn h40 hn2' hb2 hl hq hL
  go_enter Tryz.func5, Tryz.ntmps5
  go_wp2_with fail
  refine (HD.out _).mono ?_
  rintro e w3 ⟨D, rfl, hc, hb⟩
  have HC3 := hid hc
  have HK3 := hid (KS.of (K := fun j => j < w.heap.size) hb)
  have HL3 := hid (HL.out.next HP.out hb)
  have HZ3 := hid hb.size
  clear hc hb
  go_wp2_with fail
  refine (format_ok (n := n) (b := b) HC3.out HL3.out HP.out HN.out.1 HN.out.2.1 HN.out.2.2.1 (by rw [HSL.out.1]; exact HN.out.2.2.2.1) (by rw [HSL.out.1]; have := HN.out.2.2.2.2; omega) HSL.out.2.1 HSL.out.2.2 (by decide)).mono ?_
  rintro e w4 ⟨P, J, rfl, hJ, hP, hpr, hks⟩
  have HJP := hid (show w.heap.size ≤ J ∧ w.heap.size ≤ P from ⟨Nat.le_trans HZ3.out hJ, Nat.le_trans HZ3.out hP⟩)
  have HPR4 := hid hpr
  have HK4 := hid (HK3.out.trans hks)
  have HON4 := hid (onto_fmt (b := b) (n := n) HSL.out.2.1 HN.out.1 HN.out.2.1 HN.out.2.2.1 (by rw [HSL.out.1]; exact HN.out.2.2.2.1) (by rw [HSL.out.1]; have := HN.out.2.2.2.2; omega))
  have HFU4 := hid (fmt_fuse HSL.out.2.1 b)
  have HFW4 := hid (show Few (fmtS (newS (blanks m)) b) 10 from few_up (few_abo (few_wrP HSL.out.2.2 _) b 1) (by decide))
  clear hJ hP hpr hks
  generalize fmtS (newS (blanks m)) b = s4 at *
  have HD0 := hid (show J ≠ 0 ∧ P ≠ 0 from ⟨by have := HJP.out.1; have := HP.out; omega, by have := HJP.out.2; have := HP.out; omega⟩)
  have HIN := hid fun (q : Option Addr) (N : List PageT) (hq : Pgs w q N) (g off : Nat) (e : q = some ⟨g, off, none⟩) (h0 : 0 < N.length) => (show g < w.heap.size from by
    obtain ⟨b', off', e', hl, _⟩ := hq 0 h0
    rw [e] at e'; cases e'; exact hl)
  have HKZ4 := hid (show ∀ j, j < w.heap.size → (((fun j => j < w.heap.size) j ∨ j = J) ∨ j = P) from fun j hj => .inl (.inl hj))
  go_wp2_with fail
  go_loopw [11, 12, 13] (fun x y z wr => ∃ (i t : Nat) (K : Nat → Prop) (s : St) (L : List PageT) (lp : Option Addr) (lc : Nat), x = .slice lp L.length lc ∧ y = .int .i64 (t : Int) ∧ z = .int .i64 (i : Int) ∧ i ≤ len ∧ t ≤ i + 1 ∧ Pr K P J D wr s b n t L ∧ Onto s b n t L ∧ s.fuse = -1 ∧ Few s (10 + 20000 * i) ∧ (∀ j, j < w.heap.size → K j) ∧ KS (fun j => j < w.heap.size) w wr ∧ Pgs w lp L ∧ FewP L) (fun _ _ z _ => len - (intOf z).toNat)
  case atStart => exact ⟨0, 1, _, s4, [], none, 0, rfl, rfl, rfl, Nat.zero_le _, Nat.le_refl _, HPR4.out, HON4.out, HFU4.out, HFW4.out, HKZ4.out, HK4.out, fun i hi => absurd hi (Nat.not_lt_zero i), ⟨Nat.zero_le _, fun i hi => absurd hi (Nat.not_lt_zero i)⟩⟩
  case round =>
    obtain ⟨i, t, K, s, L, lp, lc, rfl, rfl, rfl, hi, hti, hpr, hon, hfu, hfw, hkk, hks, hlp, hfl⟩ := hrel
    have HPR5 := hid hpr; have HON5 := hid hon; have HFU5 := hid hfu; have HFW5 := hid hfw; have HKK5 := hid hkk; have HK5 := hid hks; have HLP := hid hlp; have HFL := hid hfl; have HTI := hid hti; have HI := hid hi
    clear hpr hon hfu hfw hkk hks hlp hfl hti hi HPR4 HK4 HON4 HFU4 HFW4
    by_cases hlt : i < len
    · have e5 : decide ((i : Int) < (len : Int)) = true := by simp; omega
      have e6 : decide (i < len) = true := decide_eq_true hlt
      have HLT := hid hlt
      have z0 : (0 : Int) ≤ (i : Int) := by omega
      have z1 : (i : Int) < (len : Int) := by omega
      have HI8 := hid (show i ≤ 8 from by have := HL8.out; omega)
      have HWi := hid (show wrap64 ((i : Int) + 1) = ((i + 1 : Nat) : Int) from Go.IntWalk.wrap64_in _ (by have := HI8.out; omega))
      have HWt := hid (show wrap64 ((t : Int) + 1) = ((t + 1 : Nat) : Int) from Go.IntWalk.wrap64_in _ (by have := HI8.out; have := HTI.out; omega))
      obtain ⟨b0, off0, rfl, hb0, hd⟩ : ∃ b off, p = some ⟨b, off, none⟩ ∧ b < w.heap.size ∧ ∀ i, i < len → ∃ p n c, w.cell? ⟨b, off + i, none⟩ = some (.slice p n c) ∧ IsPgs w p n := by
        rcases HQ.out.2 with h0 | h
        · omega
        · exact h
      obtain ⟨qp, qn, qc, hcell, hg⟩ := hd i hlt
      obtain ⟨M, rfl, hM⟩ := pppgs hg
      have HM := hid hM
      have HCL := hid fun (V : World) (hk : KS (fun j => j < w.heap.size) w V) => cell_dom hb0 hcell hk
      have y0 := HCL.out _ HK5.out
      clear hd hcell hg hM hb0 hlt
      go_wp2_with fail
      rcases Classical.em (FewP M) with hn | hn
      · have HFM := hid hn
        clear hn
        refine (few_any M qp qc _ (pgs_dom2 HM.out HK5.out) true ⟨(fun _ => HFM.out), (fun _ => rfl)⟩).mono ?_
        rintro e w5 ⟨rfl, hb⟩
        have HPRx := hid (HPR5.out.next hb)
        have HKx := hid (HK5.out.trans (KS.of hb))
        clear hb y0 HPR5 HK5
        have y0 := HCL.out _ HKx.out
        go_wp2_with fail
        refine (pcom_any HPRx.out HON5.out HFU5.out HD0.out.1 HD0.out.2 HFW5.out (by have := HI8.out; omega) M qp qc (by have := HFM.out.1; omega) (pgs_dom2 HM.out HKx.out) (fun g off e h0 => ⟨HKK5.out g (HIN.out qp M HM.out g off e h0), by have := HIN.out qp M HM.out g off e h0; have := HJP.out.1; omega, by have := HIN.out qp M HM.out g off e h0; have := HJP.out.2; omega⟩)).mono ?_
        rintro e w6 ⟨code, K6, s6, t6, L6, rfl, hcr, hkk, hpr, hon, hfu, hks, hfw⟩
        have HK6 := hid (HKx.out.trans (KS.less hks fun j hj => ⟨HKK5.out j hj, by have := HJP.out.2; omega, by have := HJP.out.1; omega⟩))
        have HKK6 := hid fun j (e : j < w.heap.size) => hkk j (HKK5.out j e)
        have HPR6 := hid hpr; have HON6 := hid hon; have HFU6 := hid hfu; have HFW6 := hid hfw
        clear hkk hpr hon hfu hks hfw y0 HPRx HKx
        have y0 := HCL.out _ HK6.out
        rcases hcr with ⟨rfl, hLL, htt, -, -, -⟩ | ⟨hne, hLL, htt, -⟩
        · obtain rfl := hLL
          obtain rfl := htt
          have HFL := hid HFM.out
          have HMS := hid (show L6.length ≤ 30 from HFM.out.1)
          have HSZ := hid (show ∀ q ∈ L6, q.2.2.size ≤ 1000000 from fun q hq => by
            obtain ⟨j, hj, rfl⟩ := List.getElem_of_mem hq
            have := HFM.out.2 j hj; omega)
          go_wp2_with fail
          try rw [HWt.out]
          clear y0
          refine (open_ok HPR6.out.jk.cd HPR6.out.jk.lst HPR6.out.jk.k0 HFW6.out (by have := HI8.out; omega) HON6.out).mono ?_
          rintro e w7 ⟨P2, J2, s7, K7, rfl, hJ, hP, hkk, hpr2, hks, hsm, hfw⟩
          have HPR7 := hid (HPR6.out.move hks hpr2.jk.cd hkk)
          have HPRn := hid hpr2
          have HON7 := hid (HON6.out.same hsm)
          have HFU7 := hid (hsm.fuse.trans HFU6.out)
          have HFW7 := hid (show Few s7 (10 + 20000 * (i + 1)) from few_up hfw (by have := HON6.out.few; have := HON6.out.ok.bn; have := HON6.out.len; have := HMS.out; have := HNB.out; omega))
          have HKK7 := hid fun j (e : j < w.heap.size) => hkk j (HKK6.out j e)
          have HK7 := hid (HK6.out.trans (KS.less hks fun j hj => HKK6.out j hj))
          clear hJ hP hkk hpr2 hks hsm hfw
          go_wp2_with fail
          obtain ⟨q7, c7, hpa, hpg, -⟩ := HPRn.out.at_
          have HPAn := hid hpa
          refine (ppages_ok hpa hpg (by have := HMS.out; omega) HSZ.out).mono ?_
          rintro e w8 hcp
          obtain ⟨p8, c8, rfl, hp8, -, hb⟩ := hcp.pgs
          have HP8 := hid hp8
          have HB8 := hid hb
          have HLA8 := hid (pgs_dom2 HM.out (HK7.out.trans (KS.of hb)))
          clear hcp hpa hpg hp8 hb
          go_wp2_with fail
          refine (pages_any L6 L6 p8 qp c8 _ w8 HP8.out HLA8.out (by have := HMS.out; omega)).mono ?_
          rintro e w9 ⟨he, hb⟩
          rw [show decide (L6 = L6) = true from decide_eq_true rfl] at he
          subst he
          have HB9 := hid (HB8.out.trans (hb.mono HB8.out.size))
          have HPR9 := hid (HPR7.out.next HB9.out)
          have HLA9 := hid (HLA8.out.below hb)
          clear hb HLA8 HP8
          go_wp2_with fail
          obtain ⟨q9, c9, hpa, hpg, -⟩ := HPR9.out.at_
          have HPAo := hid hpa
          refine (ppages_ok hpa hpg (by have := HMS.out; omega) HSZ.out).mono ?_
          rintro e w10 hcp
          obtain ⟨p10, c10, rfl, hp10, -, hb⟩ := hcp.pgs
          have HP10 := hid hp10
          have HB10 := hid hb
          clear hcp hpa hpg hp10 hb
          go_wp2_with fail
          refine (pages_any L6 L6 p10 qp c10 _ w10 HP10.out (HLA9.out.below HB10.out) (by have := HMS.out; omega)).mono ?_
          rintro e w11 ⟨he, hb⟩
          rw [show decide (L6 = L6) = true from decide_eq_true rfl] at he
          subst he
          have HB11 := hid (HB10.out.trans (hb.mono HB10.out.size))
          have HB12 := hid (HB9.out.trans (HB11.out.mono HB9.out.size))
          clear hb HP10
          go_wp2_with fail
          refine (ptx_ok (HPAn.out.below HB12.out) (HPRn.out.jk.j.below HB12.out)).mono ?_
          rintro e w' ⟨rfl, hw⟩
          obtain rfl := hw.symm
          go_wp2_with fail
          refine (ptx_ok (HPAo.out.below HB11.out) (HPR9.out.jk.j.below HB11.out)).mono ?_
          rintro e w' ⟨rfl, hw⟩
          obtain rfl := hw.symm
          go_wp2_with fail
          go_roundw
          case rel => exact ⟨i + 1, t + 1, K7, s7, L6, qp, _, rfl, rfl, by first | (rw [HWi.out]) | go_num, HLT.out, by have := HTI.out; omega, HPR7.out.next HB12.out, HON7.out, HFU7.out, HFW7.out, HKK7.out, HK7.out.trans (KS.of HB12.out), HM.out, HFL.out⟩
          case measure => have := HLT.out; (first | (rw [HWi.out]; simp [intOf]; omega) | (simp [intOf]; omega))
        · obtain rfl := hLL.symm
          obtain rfl := htt.symm
          have HMS := hid (show L.length ≤ 30 from HFL.out.1)
          have HSZ := hid (show ∀ q ∈ L, q.2.2.size ≤ 1000000 from fun q hq => by
            obtain ⟨j, hj, rfl⟩ := List.getElem_of_mem hq
            have := HFL.out.2 j hj; omega)
          have hne' : (code != 0) = true := by simpa using hne
          have hne2 : (code == 0) = false := by simpa using hne
          clear hne
          go_wp2_with fail
          clear y0
          refine (open_ok HPR6.out.jk.cd HPR6.out.jk.lst HPR6.out.jk.k0 HFW6.out (by have := HI8.out; omega) HON6.out).mono ?_
          rintro e w7 ⟨P2, J2, s7, K7, rfl, hJ, hP, hkk, hpr2, hks, hsm, hfw⟩
          have HPR7 := hid (HPR6.out.move hks hpr2.jk.cd hkk)
          have HPRn := hid hpr2
          have HON7 := hid (HON6.out.same hsm)
          have HFU7 := hid (hsm.fuse.trans HFU6.out)
          have HFW7 := hid (show Few s7 (10 + 20000 * (i + 1)) from few_up hfw (by have := HON6.out.few; have := HON6.out.ok.bn; have := HON6.out.len; have := HMS.out; have := HNB.out; omega))
          have HKK7 := hid fun j (e : j < w.heap.size) => hkk j (HKK6.out j e)
          have HK7 := hid (HK6.out.trans (KS.less hks fun j hj => HKK6.out j hj))
          clear hJ hP hkk hpr2 hks hsm hfw
          go_wp2_with fail
          obtain ⟨q7, c7, hpa, hpg, -⟩ := HPRn.out.at_
          have HPAn := hid hpa
          refine (ppages_ok hpa hpg (by have := HMS.out; omega) HSZ.out).mono ?_
          rintro e w8 hcp
          obtain ⟨p8, c8, rfl, hp8, -, hb⟩ := hcp.pgs
          have HP8 := hid hp8
          have HB8 := hid hb
          have HLA8 := hid (pgs_dom2 HLP.out (HK7.out.trans (KS.of hb)))
          clear hcp hpa hpg hp8 hb
          go_wp2_with fail
          refine (pages_any L L p8 lp c8 _ w8 HP8.out HLA8.out (by have := HMS.out; omega)).mono ?_
          rintro e w9 ⟨he, hb⟩
          rw [show decide (L = L) = true from decide_eq_true rfl] at he
          subst he
          have HB9 := hid (HB8.out.trans (hb.mono HB8.out.size))
          have HPR9 := hid (HPR7.out.next HB9.out)
          have HLA9 := hid (HLA8.out.below hb)
          clear hb HLA8 HP8
          go_wp2_with fail
          obtain ⟨q9, c9, hpa, hpg, -⟩ := HPR9.out.at_
          have HPAo := hid hpa
          refine (ppages_ok hpa hpg (by have := HMS.out; omega) HSZ.out).mono ?_
          rintro e w10 hcp
          obtain ⟨p10, c10, rfl, hp10, -, hb⟩ := hcp.pgs
          have HP10 := hid hp10
          have HB10 := hid hb
          clear hcp hpa hpg hp10 hb
          go_wp2_with fail
          refine (pages_any L L p10 lp c10 _ w10 HP10.out (HLA9.out.below HB10.out) (by have := HMS.out; omega)).mono ?_
          rintro e w11 ⟨he, hb⟩
          rw [show decide (L = L) = true from decide_eq_true rfl] at he
          subst he
          have HB11 := hid (HB10.out.trans (hb.mono HB10.out.size))
          have HB12 := hid (HB9.out.trans (HB11.out.mono HB9.out.size))
          clear hb HP10
          go_wp2_with fail
          refine (ptx_ok (HPAn.out.below HB12.out) (HPRn.out.jk.j.below HB12.out)).mono ?_
          rintro e w' ⟨rfl, hw⟩
          obtain rfl := hw.symm
          go_wp2_with fail
          refine (ptx_ok (HPAo.out.below HB11.out) (HPR9.out.jk.j.below HB11.out)).mono ?_
          rintro e w' ⟨rfl, hw⟩
          obtain rfl := hw.symm
          go_wp2_with fail
          go_roundw
          case rel => exact ⟨i + 1, t, K7, s7, L, lp, _, rfl, rfl, by first | (rw [HWi.out]) | go_num, HLT.out, by have := HTI.out; omega, HPR7.out.next HB12.out, HON7.out, HFU7.out, HFW7.out, HKK7.out, HK7.out.trans (KS.of HB12.out), HLP.out, HFL.out⟩
          case measure => have := HLT.out; (first | (rw [HWi.out]; simp [intOf]; omega) | (simp [intOf]; omega))
      · have HFM := hid hn
        clear hn
        refine (few_any M qp qc _ (pgs_dom2 HM.out HK5.out) false ⟨(fun h => by cases h), (fun h => absurd h HFM.out)⟩).mono ?_
        rintro e w5 ⟨rfl, hb⟩
        have HBx := hid (((HK5.out.trans (KS.of hb)).below (Nat.le_refl _) (fun _ h => h) : Below w.heap.size w w5))
        have HLx := hid (HPR5.out.next hb).jk.lst
        clear hb y0
        go_wp2_with fail
        refine (live_any _ HLx.out).mono ?_
        rintro e w99 ⟨rfl, hb⟩
        have HB99 := hid (HBx.out.trans (hb.mono (HBx.out).size))
        clear hb
        go_wp2_with fail
        go_ret
        exact ⟨rfl, HB99.out⟩
    · obtain rfl : i = len := by have := HI.out; omega
      have HBx := hid ((HK5.out.below (Nat.le_refl _) (fun _ h => h) : Below w.heap.size w wr))
      have HLx := hid HPR5.out.jk.lst
      clear hlt
      go_wp2_with fail
      refine (live_any _ HLx.out).mono ?_
      rintro e w99 ⟨rfl, hb⟩
      have HB99 := hid (HBx.out.trans (hb.mono (HBx.out).size))
      clear hb
      go_wp2_with fail
      go_ret
      exact ⟨rfl, HB99.out⟩
end Go.Proofs.YtgihpdhkjneimaaGreatDoor.Pp
