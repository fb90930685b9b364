/- What is put, cut and found, as the reference says. -/
import Derived.Test.YtjgjfcidfcfajaaBkOnce
import Derived.Test.YtjgjfcidfcfajaaBkRef
namespace Go.Proofs.Ytjgjfcidfcfajaa.Bk
open Go.RowKit
open Go.Lib (hid)
open Go.Proofs.Ytjgjfcidfcfajaa.Ky

set_option maxRecDepth 100000 in
set_option maxHeartbeats 2000000 in
theorem puts_few (L : List Rec) (x : List Nat) (t : ByteArray) (p q : Option Addr) (c c' : Nat) (d : Int) (w : World) (hp : Rs (fun _ => False) w p L) (hl : L.length ≤ 9223372036854775807) (hf : fewB L = false) :
    Calls Try.prog 5 #[.slice p L.length c, .agg #[.slice q x.length c', .string t], .int .i64 d] w fun e w' => e = .returned (.bool true) ∧ Below w.heap.size w w' := by
  have H0 := hid (((Ct.start w).list hp).box (.slice q x.length c') (.string t))
  have HF := hid (few_ok L p c _ (H0.out.rs (p := p) (by simp)) hl)
  rw [hf] at HF
  have a1 := H0.out.cells (g := w.heap.size) (a := .slice q x.length c') (b := .string t) (by simp)
  clear hp hf hl
  go_enter Try.func5, Try.ntmps5
  go_wp2_with fail
  refine HF.out.mono ?_
  rintro e w1 ⟨rfl, rfl⟩
  go_wp2_with fail
  refine (live_any _).mono ?_
  rintro e w2 ⟨rfl, hb⟩
  have H1 := hid (H0.out.step hb); clear hb
  go_wp2_with fail
  go_ret
  exact ⟨rfl, H1.out.below⟩
set_option maxRecDepth 100000 in
set_option maxHeartbeats 2000000 in
theorem puts_is (L : List Rec) (x : List Nat) (t : ByteArray) (p q : Option Addr) (c c' : Nat) (d : Int) (w : World) (hp : Rs (fun _ => False) w p L) (hl : L.length ≤ 9223372036854775807) (hf : fewB L = true) (hi : isBb L d = false) :
    Calls Try.prog 5 #[.slice p L.length c, .agg #[.slice q x.length c', .string t], .int .i64 d] w fun e w' => e = .returned (.bool true) ∧ Below w.heap.size w w' := by
  have H0 := hid (((Ct.start w).list hp).box (.slice q x.length c') (.string t))
  have HF := hid (few_ok L p c _ (H0.out.rs (p := p) (by simp)) hl)
  have HI := hid (is_ok L p c d _ (H0.out.rs (p := p) (by simp)) (fewR_big (fewB_iff.1 hf)))
  rw [hf] at HF
  rw [hi] at HI
  clear hp hf hl hi
  go_enter Try.func5, Try.ntmps5
  go_wp2_with fail
  refine HF.out.mono ?_
  rintro e w1 ⟨rfl, rfl⟩
  go_wp2_with fail
  refine HI.out.mono ?_
  rintro e w1 ⟨rfl, hb⟩
  have H1 := hid (H0.out.step hb); clear hb
  go_wp2_with fail
  refine (live_any _).mono ?_
  rintro e w2 ⟨rfl, hb⟩
  have H2 := hid (H1.out.step hb); clear hb
  go_wp2_with fail
  go_ret
  exact ⟨rfl, H2.out.below⟩
set_option maxRecDepth 100000 in
set_option maxHeartbeats 2000000 in
theorem puts_long (L : List Rec) (x : List Nat) (t : ByteArray) (p q : Option Addr) (c c' : Nat) (d : Int) (w : World) (hp : Rs (fun _ => False) w p L) (hl : L.length ≤ 9223372036854775807) (hf : fewB L = true) (hi : isBb L d = true) (hx : x.length ≤ 9223372036854775807) (ht : t.size ≤ 9223372036854775807) (h : ¬ (x.length ≤ 20 ∧ t.size ≤ 100)) :
    Calls Try.prog 5 #[.slice p L.length c, .agg #[.slice q x.length c', .string t], .int .i64 d] w fun e w' => e = .returned (.bool true) ∧ Below w.heap.size w w' := by
  have H0 := hid (((Ct.start w).list hp).box (.slice q x.length c') (.string t))
  have HF := hid (few_ok L p c _ (H0.out.rs (p := p) (by simp)) hl)
  have HI := hid (is_ok L p c d _ (H0.out.rs (p := p) (by simp)) (fewR_big (fewB_iff.1 hf)))
  rw [hf] at HF
  rw [hi] at HI
  clear hp hf hl hi
  by_cases h20 : x.length ≤ 20
  · have e1 : decide (20 < (x.length : Int)) = false := by simp; omega
    have e2 : decide (100 < (t.size : Int)) = true := by simp; omega
    have e3 : decide (20 < x.length) = false := by simp; omega
    have e4 : decide (100 < t.size) = true := by simp; omega
    clear h h20
    go_enter Try.func5, Try.ntmps5
    go_wp2_with fail
    refine HF.out.mono ?_
    rintro e w1 ⟨rfl, rfl⟩
    go_wp2_with fail
    refine HI.out.mono ?_
    rintro e w1 ⟨rfl, hb⟩
    have H1 := hid (H0.out.step hb); clear hb
    have a1 := H1.out.cells (g := w.heap.size) (a := .slice q x.length c') (b := .string t) (by simp)
    go_wp2_with fail
    refine (live_any _).mono ?_
    rintro e w2 ⟨rfl, hb⟩
    have H2 := hid (H1.out.step hb); clear hb
    go_wp2_with fail
    go_ret
    exact ⟨rfl, H2.out.below⟩
  · have e1 : decide (20 < (x.length : Int)) = true := by simp; omega
    have e3 : decide (20 < x.length) = true := by simp; omega
    clear h h20
    go_enter Try.func5, Try.ntmps5
    go_wp2_with fail
    refine HF.out.mono ?_
    rintro e w1 ⟨rfl, rfl⟩
    go_wp2_with fail
    refine HI.out.mono ?_
    rintro e w1 ⟨rfl, hb⟩
    have H1 := hid (H0.out.step hb); clear hb
    have a1 := H1.out.cells (g := w.heap.size) (a := .slice q x.length c') (b := .string t) (by simp)
    go_wp2_with fail
    refine (live_any _).mono ?_
    rintro e w2 ⟨rfl, hb⟩
    have H2 := hid (H1.out.step hb); clear hb
    go_wp2_with fail
    go_ret
    exact ⟨rfl, H2.out.below⟩
set_option maxRecDepth 100000 in
set_option maxHeartbeats 8000000 in
theorem puts_go (L : List Rec) (x : List Nat) (t : ByteArray) (p q : Option Addr) (c c' : Nat) (d : Int) (w : World) (hp : Rs (fun _ => False) w p L) (hq : Pt w q x) (hc : L.length ≤ c) (hl : L.length ≤ 9223372036854775807) (hf : fewB L = true) (hi : isBb L d = true) (hx : x.length ≤ 20) (ht : t.size ≤ 100) :
    Calls Try.prog 5 #[.slice p L.length c, .agg #[.slice q x.length c', .string t], .int .i64 d] w fun e w' => e = .returned (.bool true) ∧ Below w.heap.size w w' := by
  have H0 := hid ((((Ct.start w).more hq).list hp).box (.slice q x.length c') (.string t))
  have hbig := fewR_big (fewB_iff.1 hf)
  have hfew := (fewB_iff.1 hf).1
  have hu := (isBb_iff.1 hi).2
  have HF := hid (few_ok L p c _ (H0.out.rs (p := p) (by simp)) hl)
  have HI := hid (is_ok L p c d _ (H0.out.rs (p := p) (by simp)) hbig)
  rw [hf] at HF
  rw [hi] at HI
  have HCO := hid fun (V : World) (h : Rs (fun _ => False) V p L) => copies_ok L p c V h hbig
  have HPU := hid fun (V : World) (po : Option Addr) (co : Nat) (h : Rs (fun _ => False) V po L) (h2 : Pt V q x) (h3 : L.length ≤ co) => put_ok L x t po q co c' V h h2 hbig h3 hu (by omega) (by omega) (by omega)
  have HCU := hid fun (V : World) (po : Option Addr) (co : Nat) (h : Rs (fun _ => False) V po L) (h2 : Pt V q x) (h3 : L.length ≤ co) => cut_ok L x po q co c' V h h2 hbig h3 hu
  have HRC := hid fun (V : World) (h : Rs (fun _ => False) V p L) (h2 : Pt V q x) => refCut_ok L x p q c c' V h h2 hbig hc
  have HFI := hid fun (V : World) (po : Option Addr) (co : Nat) (h : Rs (fun _ => False) V po L) (h2 : Pt V q x) => find_ok L x po q co c' V h h2 hbig hu
  have HRF := hid fun (V : World) (h : Rs (fun _ => False) V p L) (h2 : Pt V q x) => refFind_ok L x p q c c' V h h2 hbig
  have HRP := hid fun (V : World) (h : Rs (fun _ => False) V p L) (h2 : Pt V q x) => refPut_ok L x t p q c c' V h h2 hbig hc (by omega) (by omega) (by omega)
  have hbM : bigR (putR L (x, t)) := big_put hbig (by omega) (by omega) (by omega)
  have hbN : bigR (cutR L x) := big_cut x hbig
  obtain ⟨M, hM⟩ : ∃ M, putR L (x, t) = M := ⟨_, rfl⟩
  obtain ⟨N, hN⟩ : ∃ N, cutR L x = N := ⟨_, rfl⟩
  obtain ⟨n, hn⟩ : ∃ n, lessN L x = n := ⟨_, rfl⟩
  obtain ⟨z, hz⟩ : ∃ z, hasN L x = z := ⟨_, rfl⟩
  simp only [hM] at HPU HRP hbM
  simp only [hN, hz] at HCU HRC hbN
  simp only [hn, hz] at HFI HRF
  have HS := hid fun (K : List Rec) (hk : bigR K) (V : World) (p1 p2 : Option Addr) (c1 c2 : Nat) (h1 : Rs (fun _ => False) V p1 K) (h2 : Rs (fun _ => False) V p2 K) => (show Calls Try.prog 19 #[.slice p1 K.length c1, .slice p2 K.length c2] V fun e w' => e = .returned (.bool true) ∧ ∃ n, w' = V.drewN n from by
    have := sameR_ok K K p1 p2 c1 c2 V h1 h2 hk
    rw [decide_eq_true (rfl : K = K)] at this
    exact this)
  have e1 : decide (20 < (x.length : Int)) = false := by simp; omega
  have e2 : decide (100 < (t.size : Int)) = false := by simp; omega
  have e3 : decide (20 < x.length) = false := by simp; omega
  have e4 : decide (100 < t.size) = false := by simp; omega
  have HBM := hid hbM
  have HBN := hid hbN
  have HBL := hid hbig
  have hzz : (z == z) = true := by simp
  have hnn : ((n : Int) == (n : Int)) = true := by simp
  clear hp hq hl hf hi hbig hfew hu hbM hbN hM hN hn hz
  go_enter Try.func5, Try.ntmps5
  go_wp2_with fail
  refine HF.out.mono ?_
  rintro e w1 ⟨rfl, rfl⟩
  go_wp2_with fail
  refine HI.out.mono ?_
  rintro e w1 ⟨rfl, hb⟩
  have H1 := hid (H0.out.step hb); clear hb HF HI H0
  have a1 := H1.out.cells (g := w.heap.size) (a := .slice q x.length c') (b := .string t) (by simp)
  go_wp2_with fail
  refine (HCO.out _ (H1.out.rs (p := p) (by simp))).mono ?_
  rintro e w2 ⟨po, co, rfl, hco, _, hr, hb⟩
  have HO := hid hco
  have H2 := hid ((H1.out.step hb).list hr); clear hb hr a1 H1 HCO hco
  have a1 := H2.out.cells (g := w.heap.size) (a := .slice q x.length c') (b := .string t) (by simp)
  go_wp2_with fail
  refine (HPU.out _ po co (H2.out.rs (p := po) (by simp)) (H2.out.pt (p := q) (by simp)) HO.out).mono ?_
  rintro e w3 ⟨pa, rfl, hr, hb⟩
  have H3 := hid ((H2.out.step hb).list hr); clear hb hr a1 H2 HPU
  have a1 := H3.out.cells (g := w.heap.size) (a := .slice q x.length c') (b := .string t) (by simp)
  go_wp2_with fail
  refine (HCU.out _ po co (H3.out.rs (p := po) (by simp)) (H3.out.pt (p := q) (by simp)) HO.out).mono ?_
  rintro e w4 ⟨pb, rfl, hr, hb⟩
  have H4 := hid ((H3.out.step hb).list hr); clear hb hr a1 H3 HCU
  have a1 := H4.out.cells (g := w.heap.size) (a := .slice q x.length c') (b := .string t) (by simp)
  go_wp2_with fail
  refine (HRC.out _ (H4.out.rs (p := p) (by simp)) (H4.out.pt (p := q) (by simp))).mono ?_
  rintro e w5 ⟨pc, cc, rfl, hr, hb⟩
  have H5 := hid ((H4.out.step hb).list hr); clear hb hr a1 H4 HRC
  have a1 := H5.out.cells (g := w.heap.size) (a := .slice q x.length c') (b := .string t) (by simp)
  go_wp2_with fail
  refine (HFI.out _ po co (H5.out.rs (p := po) (by simp)) (H5.out.pt (p := q) (by simp))).mono ?_
  rintro e w6 ⟨rfl, hb⟩
  have H6 := hid (H5.out.step hb); clear hb a1 H5 HFI
  have a1 := H6.out.cells (g := w.heap.size) (a := .slice q x.length c') (b := .string t) (by simp)
  go_wp2_with fail
  refine (HRF.out _ (H6.out.rs (p := p) (by simp)) (H6.out.pt (p := q) (by simp))).mono ?_
  rintro e w7 ⟨rfl, m7, hw7⟩
  have H7 := hid (H6.out.step (V' := w7) (by rw [hw7]; exact below_drewN (Below.refl _ _) m7)); clear hw7 a1 H6 HRF
  have a1 := H7.out.cells (g := w.heap.size) (a := .slice q x.length c') (b := .string t) (by simp)
  go_wp2_with fail
  refine (HRP.out _ (H7.out.rs (p := p) (by simp)) (H7.out.pt (p := q) (by simp))).mono ?_
  rintro e w8 ⟨pd, cd, rfl, hr, hb⟩
  have H8 := hid ((H7.out.step hb).list hr); clear hb hr a1 H7 HRP
  go_wp2_with fail
  refine (HS.out M HBM.out _ _ _ _ _ (H8.out.rs (p := pa) (by simp)) (H8.out.rs (p := pd) (by simp))).mono ?_
  rintro e w9 ⟨rfl, m9, hw9⟩
  have H9 := hid (H8.out.step (V' := w9) (by rw [hw9]; exact below_drewN (Below.refl _ _) m9)); clear hw9 H8
  go_wp2_with fail
  refine (HS.out N HBN.out _ _ _ _ _ (H9.out.rs (p := pb) (by simp)) (H9.out.rs (p := pc) (by simp))).mono ?_
  rintro e w10 ⟨rfl, m10, hw10⟩
  have H10 := hid (H9.out.step (V' := w10) (by rw [hw10]; exact below_drewN (Below.refl _ _) m10)); clear hw10 H9
  go_wp2_with fail
  refine (HS.out L HBL.out _ _ _ _ _ (H10.out.rs (p := po) (by simp)) (H10.out.rs (p := p) (by simp))).mono ?_
  rintro e w11 ⟨rfl, m11, hw11⟩
  have H11 := hid (H10.out.step (V' := w11) (by rw [hw11]; exact below_drewN (Below.refl _ _) m11)); clear hw11 H10
  go_wp2_with fail
  refine (live_any _).mono ?_
  rintro e w12 ⟨rfl, hb⟩
  have H12 := hid (H11.out.step hb); clear hb
  go_wp2_with fail
  go_ret
  exact ⟨rfl, H12.out.below⟩
end Go.Proofs.Ytjgjfcidfcfajaa.Bk
