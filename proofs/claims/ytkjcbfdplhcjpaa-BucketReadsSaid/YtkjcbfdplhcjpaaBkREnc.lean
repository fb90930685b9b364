/- Encode of the reference. -/
import Derived.Test.YtkjcbfdplhcjpaaBkNum
namespace Go.Proofs.Ytkjcbfdplhcjpaa.Bk
open Go.RowKit
open Go.Lib (hid)
open Go.Proofs.Ytkjcbfdplhcjpaa.Ky

theorem cat_list (a b : List UInt8) : (⟨a.toArray⟩ : ByteArray) ++ ⟨b.toArray⟩ = ⟨(a ++ b).toArray⟩ := by
  apply ByteArray.ext
  simp [ByteArray.data_append]
theorem cat_bytes (a : List UInt8) (t : ByteArray) : (⟨a.toArray⟩ : ByteArray) ++ t = ⟨(a ++ t.data.toList).toArray⟩ := by
  apply ByteArray.ext
  simp [ByteArray.data_append]
set_option maxRecDepth 100000 in
set_option maxHeartbeats 4000000 in
theorem refEncode_ok {D : Nat → Prop} (L : List Rec) (p : Option Addr) (c : Nat) (dim cap : Int) (w : World) (hp : Rs D w p L) (hl : bigR L) :
    Calls Try.prog 81 #[.slice p L.length c, .int .i64 dim, .int .i64 cap] w (EncPost w (encS L dim cap) (encOk L dim cap)) := by
  have HI := hid (is_ok L p c dim w hp hl)
  have HFT := hid fun (V : World) (hb : Below w.heap.size w V) => refFits_ok L p c cap V (hp.below hb) hl
  have hbig := hl.1
  by_cases h2 : 2 ≤ cap
  · by_cases h16 : cap ≤ 16
    · have ht : takesB cap = true := by simp [takesB, h2, h16]
      have e1 : decide (cap < 2) = false := by simp; omega
      have e2 : decide ((16 : Int) < cap) = false := by simp; omega
      cases hi : isBb L dim with
      | false =>
        have he : encOk L dim cap = false := by
          unfold isBb at hi; unfold encOk
          rw [Bool.and_left_comm, ← Bool.and_assoc, hi]; rfl
        rw [encNo he, he]
        rw [hi] at HI
        clear hi he ht h2 h16 hp hl
        go_enter Try.func81, Try.ntmps81
        go_wp2_with fail
        refine HI.out.mono ?_
        rintro e w1 ⟨rfl, hb⟩
        have H1 := hid hb; clear hb
        go_wp2_with fail
        go_ret2
        exact ⟨rfl, H1.out⟩
      | true =>
        rw [hi] at HI
        cases h4 : fitsB L cap with
        | false =>
          have he : encOk L dim cap = false := by
            unfold encOk; rw [h4]; simp
          rw [encNo he, he]
          rw [h4] at HFT
          clear hi he ht h2 h16 hp hl h4
          go_enter Try.func81, Try.ntmps81
          go_wp2_with fail
          refine HI.out.mono ?_
          rintro e w1 ⟨rfl, hb⟩
          have H1 := hid hb; clear hb
          go_wp2_with fail
          refine (HFT.out _ H1.out).mono ?_
          rintro e w2 ⟨rfl, m2, hw2⟩
          have H2 := hid (show Below w.heap.size w w2 by rw [hw2]; exact below_drewN H1.out m2); clear hw2
          go_wp2_with fail
          go_ret2
          exact ⟨rfl, H2.out⟩
        | true =>
          have he : encOk L dim cap = true := by
            unfold isBb at hi; unfold encOk
            simp only [Bool.and_eq_true] at hi ⊢
            exact ⟨hi.2, hi.1, ht, h4⟩
          rw [encYes he, he]
          rw [h4] at HFT
          obtain ⟨hS, hL16⟩ := fits_230 h4 ht
          have HSZT := hid fun (k : Nat) (hk : k < L.length) => (show 1 + ((L.take k).flatMap encR).length + (4 * L[k].1.length + 1 + L[k].2.size) ≤ 230 by rw [encR_sum, ← sizeR_take L k hk]; exact Nat.le_trans (sizeR_mono L (k + 1)) hS)
          have HW := hid fun (n m : Nat) (hn : n ≤ 4294967296) (hm : m ≤ 8) (V : World) => wide_any n m V (by omega) hm
          have HP := hid hp
          clear hi he ht h2 h16 hp hl h4 hS
          go_enter Try.func81, Try.ntmps81
          go_wp2_with fail
          refine HI.out.mono ?_
          rintro e w1 ⟨rfl, hb⟩
          have H1 := hid hb; clear hb
          go_wp2_with fail
          refine (HFT.out _ H1.out).mono ?_
          rintro e w2 ⟨rfl, m2, hw2⟩
          have H2 := hid (show Below w.heap.size w w2 by rw [hw2]; exact below_drewN H1.out m2); clear hw2 H1 HI HFT
          go_wp2_with fail
          refine (HW.out L.length 1 (by omega) (by omega) _).mono ?_
          rintro e w3 ⟨rfl, hb⟩
          have H3 := hid (H2.out.trans (hb.mono H2.out.size)); clear hb H2
          go_wp2_with fail
          go_loopw [8, 9] (fun s i wr => ∃ k : Nat, k ≤ L.length ∧ i = .int .i64 k ∧ s = .string ⟨(Fd.be 1 L.length ++ (L.take k).flatMap encR).toArray⟩ ∧ Below w.heap.size w wr) (fun _ i _ => L.length - (intOf i).toNat)
          case atStart => exact ⟨0, by omega, rfl, by simp, H3.out⟩
          case round =>
            obtain ⟨k, hk, rfl, rfl, hb⟩ := hrel
            have HB := hid hb; clear hb H3
            obtain ⟨P, hPP⟩ : ∃ P, Fd.be 1 L.length ++ (L.take k).flatMap encR = P := ⟨_, rfl⟩
            have HPP := hid hPP
            rw [hPP]
            by_cases hlt : k < L.length
            · obtain ⟨b, off, q, c', rfl, hbl, d1, d2, hq⟩ := (HP.out.below HB.out).at k hlt
              have HNX := hid (show Fd.be 1 L.length ++ (L.take (k + 1)).flatMap encR = P ++ encR L[k] by rw [encR_take L k hlt, ← List.append_assoc, hPP])
              have hsz := HSZT.out k hlt
              have hpl : P.length = 1 + ((L.take k).flatMap encR).length := by rw [← hPP, List.length_append, Fd.be_length]
              rw [← hpl] at hsz
              obtain ⟨x, hx⟩ : ∃ x, L[k].1 = x := ⟨_, rfl⟩
              obtain ⟨t, htt⟩ : ∃ t, L[k].2 = t := ⟨_, rfl⟩
              have hr : L[k] = (x, t) := by rw [← hx, ← htt]
              rw [hr] at HNX
              rw [hx] at d1 hq hsz
              rw [htt] at d2 hsz
              have HQ := hid hq.pt
              have HD := hid fun (V : World) (hv : Below wr.heap.size wr V) => (show V.cell? ⟨b, off + k * 2, none⟩ = some (.slice q x.length c') ∧ V.cell? ⟨b, off + k * 2 + 1, none⟩ = some (.string t) from ⟨(hv.cell (p := ⟨b, _, none⟩) hbl).trans d1, (hv.cell (p := ⟨b, _, none⟩) hbl).trans d2⟩)
              have HSZ := hid hsz
              clear hq hpl hx htt hr hPP d1 d2 hbl hsz
              go_wp2_with fail
              go_loopw [8, 10] (fun s i wz => ∃ j : Nat, j ≤ x.length ∧ i = .int .i64 j ∧ s = .string ⟨(P ++ encK (x.take j)).toArray⟩ ∧ Below wr.heap.size wr wz) (fun _ i _ => x.length - (intOf i).toNat)
              case atStart => exact ⟨0, by omega, rfl, by simp [encK], Below.refl _ _⟩
              case round =>
                obtain ⟨j, hj, rfl, rfl, hb⟩ := hrel
                have HZ := hid hb; clear hb
                obtain ⟨R, hR⟩ : ∃ R, P ++ encK (x.take j) = R := ⟨_, rfl⟩
                have hRl : R.length = P.length + 4 * j := by rw [← hR, List.length_append, encK_length, List.length_take]; omega
                have hRb : R.length ≤ 1000 := by have := HSZ.out; omega
                have HR := hid hR
                rw [hR]
                obtain ⟨d1, d2⟩ := HD.out _ HZ.out
                by_cases hlt2 : j < x.length
                · obtain ⟨b2, off2, eq2, _, dk⟩ := (HQ.out.below HZ.out).cells j hlt2
                  have hv := HQ.out.fit j hlt2
                  have HNK := hid (show P ++ encK (x.take (j + 1)) = R ++ Fd.be 4 x[j] by rw [encK_take x j hlt2, ← List.append_assoc, hR])
                  subst eq2
                  clear hR
                  generalize x[j] = v at dk hv HNK
                  have hxl : x.length ≤ 1000 := by have := HSZ.out; omega
                  go_wp2_with fail
                  refine (HW.out v 4 (by omega) (by omega) _).mono ?_
                  rintro e w5 ⟨rfl, hb⟩
                  have HZ2 := hid (HZ.out.trans (hb.mono HZ.out.size)); clear hb
                  have hb4 : (Fd.be 4 v).length ≤ 4 := by rw [Fd.be_length]; omega
                  go_wp2_with fail
                  go_roundw
                  case rel => exact ⟨j + 1, by omega, by go_num, by rw [HNK.out, ← cat_list], HZ2.out⟩
                  case measure => simp [intOf]; omega
                · obtain rfl : j = x.length := by omega
                  have HR2 := hid (show R = P ++ encK x by have := HR.out; rw [List.take_length] at this; exact this.symm)
                  have HB0 := hid HZ.out.drew
                  have y0 := HD.out _ HB0.out
                  have hts : t.size ≤ 230 := by have := HSZ.out; omega
                  have hb1 : (Fd.be 1 t.size).length ≤ 1 := by rw [Fd.be_length]; omega
                  obtain ⟨s1, hs1⟩ : ∃ s, (⟨R.toArray⟩ : ByteArray) = s := ⟨_, rfl⟩
                  obtain ⟨s2, hs2⟩ : ∃ s, (⟨(Fd.be 1 t.size).toArray⟩ : ByteArray) = s := ⟨_, rfl⟩
                  have HW1 := hid (HW.out t.size 1 (by omega) (by omega))
                  rw [hs2] at HW1
                  have z1 : s1.size = R.length := by rw [← hs1]; rfl
                  have z2 : s2.size = 1 := by rw [← hs2]; exact Fd.be_length 1 t.size
                  have HSS := hid (show s1 ++ s2 ++ t = ⟨(Fd.be 1 L.length ++ (L.take (k + 1)).flatMap encR).toArray⟩ by rw [← hs1, ← hs2, HNX.out, HR2.out, cat_list, cat_bytes]; simp [encR])
                  have i1 : (s1.size : Int) ≤ 8388608 := by omega
                  have i2 : (s2.size : Int) ≤ 8388608 := by omega
                  have i3 : (s1.size : Int) + (s2.size : Int) ≤ 8388608 := by omega
                  have i4 : (t.size : Int) ≤ 8388608 := by omega
                  have r1 : ∀ V : World, (Op.stringOp .add s1 s2).run Try.prog V = .ok (.string (s1 ++ s2)) V := fun V => run_string_add_sum V s1 s2 (by omega)
                  have r2 : ∀ V : World, (Op.stringOp .add (s1 ++ s2) t).run Try.prog V = .ok (.string (s1 ++ s2 ++ t)) V := fun V => run_string_add_sum V (s1 ++ s2) t (by rw [ByteArray.size_append]; omega)
                  have j1 : ¬ (9223372036854775807 < s1.size + s2.size) := by omega
                  have j2 : ¬ (9223372036854775807 < s1.size + s2.size + t.size) := by omega
                  have j3 : s1.size + s2.size ≤ 9223372036854775807 := by omega
                  have j4 : s1.size + s2.size + t.size ≤ 9223372036854775807 := by omega
                  rw [hs1]
                  clear HR hR hRl z1 z2 hs1 hs2 hb1 hts
                  go_wp2_with fail
                  go_region_held3 (fun V => V.cell? ⟨b, off + k * 2, none⟩ = some (.slice q x.length c') ∧ V.cell? ⟨b, off + k * 2 + 1, none⟩ = some (.string t)) (first | exact y0 | exact y1 | exact ⟨d1, d2⟩ | go_keep)
                    (first
                      | (go_at_call 108; refine (HW1.out _).mono ?_; rintro e w5 ⟨rfl, hb⟩; have HB5 := hid (HB0.out.trans (hb.mono HB0.out.size)); have y1 := HD.out _ HB5.out; clear hb)
                      | fail)
                  clear d1 d2 y0 y1
                  go_wp2_with fail
                  go_roundw
                  case rel => exact ⟨k + 1, by omega, by go_num, by rw [HSS.out], HB.out.trans (HB5.out.mono HB.out.size)⟩
                  case measure => simp [intOf]; omega
            · obtain rfl : k = L.length := by omega
              have HE := hid (show P = encL L by have := HPP.out; rw [List.take_length] at this; exact this.symm)
              go_wp2_with fail
              go_ret2
              exact ⟨by rw [HE.out]; rfl, HB.out⟩
    · have ht : takesB cap = false := by simp [takesB, h16]
      have he : encOk L dim cap = false := by unfold encOk; rw [ht]; simp
      rw [encNo he, he]
      have e1 : decide (cap < 2) = false := by simp; omega
      have e2 : decide ((16 : Int) < cap) = true := by simp; omega
      clear ht he h2 h16 hp hl HI HFT
      go_enter Try.func81, Try.ntmps81
      go_wp2_with fail
      go_ret2
      exact ⟨rfl, Below.refl _ _⟩
  · have ht : takesB cap = false := by simp [takesB, h2]
    have he : encOk L dim cap = false := by unfold encOk; rw [ht]; simp
    rw [encNo he, he]
    have e1 : decide (cap < 2) = true := by simp; omega
    clear ht he h2 hp hl HI HFT
    go_enter Try.func81, Try.ntmps81
    go_wp2_with fail
    go_ret2
    exact ⟨rfl, Below.refl _ _⟩
end Go.Proofs.Ytkjcbfdplhcjpaa.Bk
