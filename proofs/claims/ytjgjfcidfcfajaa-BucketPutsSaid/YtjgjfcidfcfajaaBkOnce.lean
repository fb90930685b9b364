/- A record put, found, cut again. -/
import Derived.Test.YtjgjfcidfcfajaaBkOpen
namespace Go.Proofs.Ytjgjfcidfcfajaa.Bk
open Go.RowKit
open Go.Lib (hid)
open Go.Proofs.Ytjgjfcidfcfajaa.Ky

theorem isB_put {L : List Rec} {r : Rec} {d : Int} (h : isB L d) (hr : mayR r d = true) : isB (putR L r) d := by
  refine ⟨fun a ha => ?_, up_put h.2 r⟩
  unfold putR at ha
  rcases List.mem_append.1 ha with h1 | h1
  · exact h.1 a (List.mem_of_mem_take h1)
  · rcases List.mem_cons.1 h1 with rfl | h1
    · exact hr
    · exact h.1 a (List.mem_of_mem_drop h1)
theorem may_small {x : List Nat} {t : ByteArray} {d : Int} (h : mayR (x, t) d = true) : x.length ≤ 6 ∧ t.size ≤ 40 := by
  unfold mayR at h; simp at h; omega
theorem fits_two {x : List Nat} {t : ByteArray} {d : Int} (h : mayR (x, t) d = true) : fitsB [(x, t), (x, t)] 2 = true := by
  have := may_small h
  unfold fitsB sizeR; simp; omega
theorem big_two {x : List Nat} {t : ByteArray} (h : x.length ≤ 6 ∧ t.size ≤ 40) : bigR [(x, t), (x, t)] := by
  refine ⟨by simp, fun r hr => ?_⟩
  obtain rfl : r = (x, t) := by simpa using hr
  show x.length ≤ 1000 ∧ t.size ≤ 1000
  omega
theorem same_self (x : List Nat) : sameB x x = true := by
  rw [sameB]; simp
section
variable {w V : World} {P : List (Option Addr × List Nat)} {B : List (Nat × Value × Value)} {R : List (Option Addr × List Rec)}
theorem Ct.two2 (h : Ct w V P B R) {q : Option Addr} {k : List Nat} (c : Nat) (t : ByteArray) (hm : (q, k) ∈ P) : Ct w (V.alloc (.cells #[.slice q k.length c, .string t, .slice q k.length c, .string t] 38)) P B ((some ⟨V.heap.size, 0, none⟩, [(k, t), (k, t)]) :: R) := h.two c c t t hm hm
end
/-- the way when all is as it must be -/
def onceOk (L : List Rec) (r : Rec) (d : Int) : Bool := fewB L && (isBb L d && mayR r d)
set_option maxRecDepth 100000 in
set_option maxHeartbeats 2000000 in
theorem once_few (L : List Rec) (x : List Nat) (t : ByteArray) (p q : Option Addr) (c c' : Nat) (d : Int) (w : World) (hp : Rs (fun _ => False) w p L) (hl : L.length ≤ 9223372036854775807) (hf : fewB L = false) :
    Calls Try.prog 7 #[.slice p L.length c, .agg #[.slice q x.length c', .string t], .int .i64 d] w fun e w' => e = .returned (.bool true) ∧ Below w.heap.size w w' := by
  have H0 := hid (((Ct.start w).list hp).box (.slice q x.length c') (.string t))
  have HF := hid (few_ok L p c _ (H0.out.rs (p := p) (by simp)) hl)
  rw [hf] at HF
  clear hp hf hl
  go_enter Try.func7, Try.ntmps7
  go_wp2_with fail
  refine HF.out.mono ?_
  rintro e w1 ⟨rfl, rfl⟩
  go_wp2_with fail
  refine (live_any _).mono ?_
  rintro e w2 ⟨rfl, hb⟩
  have H1 := hid (H0.out.step hb); clear hb
  go_wp2_with fail
  go_ret
  exact ⟨rfl, H1.out.below⟩
set_option maxRecDepth 100000 in
set_option maxHeartbeats 2000000 in
theorem once_is (L : List Rec) (x : List Nat) (t : ByteArray) (p q : Option Addr) (c c' : Nat) (d : Int) (w : World) (hp : Rs (fun _ => False) w p L) (hl : L.length ≤ 9223372036854775807) (hf : fewB L = true) (hi : isBb L d = false) :
    Calls Try.prog 7 #[.slice p L.length c, .agg #[.slice q x.length c', .string t], .int .i64 d] w fun e w' => e = .returned (.bool true) ∧ Below w.heap.size w w' := by
  have H0 := hid (((Ct.start w).list hp).box (.slice q x.length c') (.string t))
  have HF := hid (few_ok L p c _ (H0.out.rs (p := p) (by simp)) hl)
  have HI := hid (is_ok L p c d _ (H0.out.rs (p := p) (by simp)) (fewR_big (fewB_iff.1 hf)))
  rw [hf] at HF
  rw [hi] at HI
  clear hp hf hl hi
  go_enter Try.func7, Try.ntmps7
  go_wp2_with fail
  refine HF.out.mono ?_
  rintro e w1 ⟨rfl, rfl⟩
  go_wp2_with fail
  refine HI.out.mono ?_
  rintro e w1 ⟨rfl, hb⟩
  have H1 := hid (H0.out.step hb); clear hb
  go_wp2_with fail
  refine (live_any _).mono ?_
  rintro e w2 ⟨rfl, hb⟩
  have H2 := hid (H1.out.step hb); clear hb
  go_wp2_with fail
  go_ret
  exact ⟨rfl, H2.out.below⟩
set_option maxRecDepth 100000 in
set_option maxHeartbeats 2000000 in
theorem once_check (L : List Rec) (x : List Nat) (t : ByteArray) (p q : Option Addr) (c c' : Nat) (d : Int) (w : World) (hp : Rs (fun _ => False) w p L) (hl : L.length ≤ 9223372036854775807) (hf : fewB L = true) (hi : isBb L d = true) (hm : mayR (x, t) d = false) :
    Calls Try.prog 7 #[.slice p L.length c, .agg #[.slice q x.length c', .string t], .int .i64 d] w fun e w' => e = .returned (.bool true) ∧ Below w.heap.size w w' := by
  have H0 := hid (((Ct.start w).list hp).box (.slice q x.length c') (.string t))
  have HF := hid (few_ok L p c _ (H0.out.rs (p := p) (by simp)) hl)
  have HI := hid (is_ok L p c d _ (H0.out.rs (p := p) (by simp)) (fewR_big (fewB_iff.1 hf)))
  rw [hf] at HF
  rw [hi] at HI
  have HC := hid fun (V : World) => refCheckR_ok q x.length c' t d V
  rw [show (checkB x.length d && decide (t.size ≤ 40)) = false from (mayR_eq (x, t) d).symm.trans hm, err_false false rfl] at HC
  clear hp hf hl hi hm
  go_enter Try.func7, Try.ntmps7
  go_wp2_with fail
  refine HF.out.mono ?_
  rintro e w1 ⟨rfl, rfl⟩
  go_wp2_with fail
  refine HI.out.mono ?_
  rintro e w1 ⟨rfl, hb⟩
  have H1 := hid (H0.out.step hb); clear hb
  have a1 := H1.out.cells (g := w.heap.size) (a := .slice q x.length c') (b := .string t) (by simp)
  go_wp2_with fail
  refine (HC.out _).mono ?_
  rintro e w2 ⟨rfl, hb⟩
  have H2 := hid (H1.out.step hb); clear hb a1
  go_wp2_with fail
  refine (live_any _).mono ?_
  rintro e w3 ⟨rfl, hb⟩
  have H3 := hid (H2.out.step hb); clear hb
  go_wp2_with fail
  go_ret
  exact ⟨rfl, H3.out.below⟩
/-- what a record put in and found again is -/
theorem once_at {L : List Rec} {r : Rec} : ∃ h : lessN L r.1 < (putR L r).length, (putR L r)[lessN L r.1] = r := by
  obtain ⟨_, _, h⟩ := put_place (L := L) r
  exact List.getElem?_eq_some_iff.1 h
set_option maxRecDepth 100000 in
set_option maxHeartbeats 8000000 in
theorem once_go (L : List Rec) (x : List Nat) (t : ByteArray) (p q : Option Addr) (c c' : Nat) (d : Int) (w : World) (hp : Rs (fun _ => False) w p L) (hq : Pt w q x) (hc : L.length ≤ c) (hl : L.length ≤ 9223372036854775807) (hf : fewB L = true) (hi : isBb L d = true) (hm : mayR (x, t) d = true) :
    Calls Try.prog 7 #[.slice p L.length c, .agg #[.slice q x.length c', .string t], .int .i64 d] w fun e w' => e = .returned (.bool true) ∧ Below w.heap.size w w' := by
  have H0 := hid ((((Ct.start w).more hq).list hp).box (.slice q x.length c') (.string t))
  have hbig := fewR_big (fewB_iff.1 hf)
  have hfew := (fewB_iff.1 hf).1
  have hu := (isBb_iff.1 hi).2
  have hsm := may_small hm
  have HF := hid (few_ok L p c _ (H0.out.rs (p := p) (by simp)) hl)
  have HI := hid (is_ok L p c d _ (H0.out.rs (p := p) (by simp)) hbig)
  rw [hf] at HF
  rw [hi] at HI
  have HC := hid fun (V : World) => refCheckR_ok q x.length c' t d V
  rw [show (checkB x.length d && decide (t.size ≤ 40)) = true from (mayR_eq (x, t) d).symm.trans hm, err_true true rfl] at HC
  have HFI := hid fun (V : World) (h : Rs (fun _ => False) V p L) (h2 : Pt V q x) => find_ok L x p q c c' V h h2 hbig hu
  have HPU := hid fun (V : World) (h : Rs (fun _ => False) V p L) (h2 : Pt V q x) => put_ok L x t p q c c' V h h2 hbig hc hu (by omega) (by omega) (by omega)
  have hisM := isB_put (isBb_iff.1 hi) hm
  have hbM : bigR (putR L (x, t)) := big_put hbig (by omega) (by omega) (by omega)
  have hpl := put_place (L := L) (x, t)
  obtain ⟨hnM, _⟩ := once_at (L := L) (r := (x, t))
  have hcut := cut_put (L := L) (x, t)
  have hlen := putR_length L (x, t)
  have HTW := hid (fits_two hm)
  have HBT := hid (big_two hsm)
  have HFL := hid hbig
  obtain ⟨n, hn⟩ : ∃ n, lessN L x = n := ⟨_, rfl⟩
  obtain ⟨M, hM⟩ : ∃ M, putR L (x, t) = M := ⟨_, rfl⟩
  simp only [hM] at HPU hisM hbM hnM hcut hlen hpl
  simp only [hn] at HFI hnM hpl
  have HFM := hid fun (V : World) (p' : Option Addr) (h : Rs (fun _ => False) V p' M) (h2 : Pt V q x) => find_ok M x p' q M.length c' V h h2 hbM hisM.2
  simp only [hpl.1, hpl.2.1] at HFM
  have HIM := hid fun (V : World) (p' : Option Addr) (h : Rs (fun _ => False) V p' M) => is_ok M p' M.length d V h hbM
  simp only [isBb_iff.2 hisM] at HIM
  have HCM := hid fun (V : World) (p' : Option Addr) (h : Rs (fun _ => False) V p' M) (h2 : Pt V q x) => cut_ok M x p' q M.length c' V h h2 hbM (Nat.le_refl _) hisM.2
  simp only [hpl.2.1] at HCM
  have HAT := hid hpl.2.2
  have HNM := hid hnM
  have e1 : decide ((n : Int) < 0) = false := by simp
  have e2 : decide ((M.length : Int) ≤ (n : Int)) = false := by simp; omega
  have e3 : decide (M.length ≤ n) = false := by simp; omega
  have e4 : decide ((n : Int) < (M.length : Int)) = true := by simp; omega
  have e5 : decide (n < M.length) = true := by simp; omega
  have e6 : (0 : Int) ≤ (n : Int) := by omega
  have e7 : (n : Int) < (M.length : Int) := by omega
  have e8 : n < M.length := hnM
  have e9 : (n : Int) ≤ (M.length : Int) := by omega
  have HML := hid (show M.length ≤ 1000 from hbM.1)
  have HSS := hid fun (V : World) (q1 : Option Addr) (c1 : Nat) (h : Pt V q1 x) (h2 : Pt V q x) => same_ok x x q1 q c1 c' V h h2 (by omega)
  simp only [same_self] at HSS
  have HFT := hid fun (V : World) (p1 : Option Addr) (h : Rs (fun _ => False) V p1 [(x, t), (x, t)]) => fits_ok [(x, t), (x, t)] p1 2 2 V h HBT.out
  simp only [HTW.out] at HFT
  have HBM := hid hbM
  have HCU := hid hcut
  have HLE := hid hlen
  clear hp hq hl hf hi hm hbig hfew hu hsm hisM hbM hpl hcut hlen hn hM hnM
  go_enter Try.func7, Try.ntmps7
  go_wp2_with fail
  refine HF.out.mono ?_
  rintro e w1 ⟨rfl, rfl⟩
  go_wp2_with fail
  refine HI.out.mono ?_
  rintro e w1 ⟨rfl, hb⟩
  have H1 := hid (H0.out.step hb); clear hb HF HI
  have a1 := H1.out.cells (g := w.heap.size) (a := .slice q x.length c') (b := .string t) (by simp)
  go_wp2_with fail
  refine (HC.out _).mono ?_
  rintro e w2 ⟨rfl, hb⟩
  have H2 := hid (H1.out.step hb); clear hb a1 HC H1 H0
  have a1 := H2.out.cells (g := w.heap.size) (a := .slice q x.length c') (b := .string t) (by simp)
  go_wp2_with fail
  refine (HFI.out _ (H2.out.rs (p := p) (by simp)) (H2.out.pt (p := q) (by simp))).mono ?_
  rintro e w3 ⟨rfl, hb⟩
  have H3 := hid (H2.out.step hb); clear hb a1 H2 HFI
  have a1 := H3.out.cells (g := w.heap.size) (a := .slice q x.length c') (b := .string t) (by simp)
  go_wp2_with fail
  refine (HPU.out _ (H3.out.rs (p := p) (by simp)) (H3.out.pt (p := q) (by simp))).mono ?_
  rintro e w4 ⟨pa, rfl, hr, hb⟩
  have H4 := hid ((H3.out.step hb).list hr); clear hb a1 H3 HPU hr
  have a1 := H4.out.cells (g := w.heap.size) (a := .slice q x.length c') (b := .string t) (by simp)
  go_wp2_with fail
  refine (HFM.out _ pa (H4.out.rs (p := pa) (by simp)) (H4.out.pt (p := q) (by simp))).mono ?_
  rintro e w5 ⟨rfl, hb⟩
  have H5 := hid (H4.out.step hb); clear hb a1 H4
  obtain ⟨b, off, q1, c1, epa, hbl, d1, d2, hp1⟩ := (H5.out.rs (p := pa) (by simp)).at n HNM.out
  subst epa
  have hMx : M[n]'HNM.out = (x, t) := (List.getElem?_eq_some_iff.1 HAT.out).2
  rw [hMx] at d1 d2 hp1
  have HQ1 := hid hp1.pt
  clear hMx hp1
  have a1 := H5.out.cells (g := w.heap.size) (a := .slice q x.length c') (b := .string t) (by simp)
  have hg := (Array.getElem?_eq_some_iff.1 (H5.out.bxs (w.heap.size, .slice q x.length c', .string t) (by simp))).1
  have HD := hid fun (V : World) (hv : Below w5.heap.size w5 V) => (show (V.cell? ⟨w.heap.size, 0, none⟩ = some (.slice q x.length c') ∧ V.cell? ⟨w.heap.size, 1, none⟩ = some (.string t)) ∧ V.cell? ⟨b, off + n * 2, none⟩ = some (.slice q1 x.length c1) ∧ V.cell? ⟨b, off + n * 2 + 1, none⟩ = some (.string t) from ⟨⟨(hv.cell (p := ⟨_, _, none⟩) hg).trans a1.1, (hv.cell (p := ⟨_, _, none⟩) hg).trans a1.2⟩, (hv.cell (p := ⟨_, _, none⟩) hbl).trans d1, (hv.cell (p := ⟨_, _, none⟩) hbl).trans d2⟩)
  clear hg hbl
  have HB0 := hid (Below.refl w5.heap.size w5).drew
  have y0 := HD.out _ HB0.out
  go_wp2_with fail
  go_region_held3 (fun V => (V.cell? ⟨w.heap.size, 0, none⟩ = some (.slice q x.length c') ∧ V.cell? ⟨w.heap.size, 1, none⟩ = some (.string t)) ∧ V.cell? ⟨b, off + n * 2, none⟩ = some (.slice q1 x.length c1) ∧ V.cell? ⟨b, off + n * 2 + 1, none⟩ = some (.string t)) (first | exact y0 | exact y1 | exact y2 | go_keep)
    (first
      | (go_at_call 29; refine (HSS.out _ q1 c1 (HQ1.out.below HB0.out) ((H5.out.step HB0.out).pt (p := q) (by simp))).mono ?_; rintro e w6 ⟨rfl, m6, hw6⟩; have HB6 := hid (show Below w5.heap.size w5 w6 by rw [hw6]; exact below_drewN HB0.out m6); clear hw6; have y1 := HD.out _ HB6.out)
      | (go_at_call 20; refine (HIM.out _ _ ((H5.out.step HB6.out).rs (p := some ⟨b, off, none⟩) (by simp))).mono ?_; rintro e w7 ⟨rfl, hb⟩; have HB7 := hid (HB6.out.trans (hb.mono HB6.out.size)); have y2 := HD.out _ HB7.out; clear hb)
      | fail)
  have H7 := hid (H5.out.step HB7.out)
  clear a1 d1 d2 y0 y1 y2 H5 HB0 HB6 HB7 HD HIM HSS HFM HQ1
  have a1 := H7.out.cells (g := w.heap.size) (a := .slice q x.length c') (b := .string t) (by simp)
  go_wp2_with fail
  refine (HCM.out _ _ (H7.out.rs (p := some ⟨b, off, none⟩) (by simp)) (H7.out.pt (p := q) (by simp))).mono ?_
  rintro e w8 ⟨pc, rfl, hr, hb⟩
  have H8 := hid ((H7.out.step hb).list hr); clear hb hr a1 H7 HCM
  have a1 := H8.out.cells (g := w.heap.size) (a := .slice q x.length c') (b := .string t) (by simp)
  have HSR := hid fun (p1 p2 : Option Addr) (h1 : Rs (fun _ => False) w8 p1 (cutR M x)) (h2 : Rs (fun _ => False) w8 p2 L) => sameR_ok (cutR M x) L p1 p2 (cutR M x).length c w8 h1 h2 (big_cut x HBM.out)
  cases his : hasN L x with
  | false =>
    have HEQ := HCU.out his
    have HC1 := hid (H8.out.rs (p := pc) (L := cutR M x) (by simp))
    rw [HEQ] at HSR HC1
    rw [decide_eq_true (rfl : L = L)] at HSR
    rw [HEQ]
    go_wp2_with fail
    refine (HSR.out _ _ HC1.out (H8.out.rs (p := p) (by simp))).mono ?_
    rintro e w9 ⟨rfl, m9, hw9⟩
    have H9 := hid (H8.out.step (V' := w9) (by rw [hw9]; exact below_drewN (Below.refl _ _) m9)); clear hw9 a1 HSR HC1 HEQ HCU HLE H8
    have a1 := H9.out.cells (g := w.heap.size) (a := .slice q x.length c') (b := .string t) (by simp)
    have HT := hid (H9.out.two2 c' t (q := q) (k := x) (by simp))
    go_wp2_with fail
    refine (HFT.out _ _ (HT.out.rs (List.mem_cons_self ..))).mono ?_
    rintro e w10 ⟨rfl, hb⟩
    have H10 := hid (H9.out.step ((below_alloc _ _).trans (hb.mono (below_alloc _ _).size))); clear hb HT H9 a1
    go_wp2_with fail
    refine (live_any _).mono ?_
    rintro e w11 ⟨rfl, hb⟩
    have H11 := hid (H10.out.step hb); clear hb
    go_wp2_with fail
    go_ret
    exact ⟨rfl, H11.out.below⟩
  | true =>
    have HEQ := HLE.out
    rw [his] at HEQ
    have HEQ' : M.length = L.length := HEQ
    rw [HEQ']
    clear HEQ HCU HLE HSR
    have HT := hid (H8.out.two2 c' t (q := q) (k := x) (by simp))
    go_wp2_with fail
    refine (HFT.out _ _ (HT.out.rs (List.mem_cons_self ..))).mono ?_
    rintro e w10 ⟨rfl, hb⟩
    have H10 := hid (H8.out.step ((below_alloc _ _).trans (hb.mono (below_alloc _ _).size))); clear hb HT H8 a1
    go_wp2_with fail
    refine (live_any _).mono ?_
    rintro e w11 ⟨rfl, hb⟩
    have H11 := hid (H10.out.step hb); clear hb
    go_wp2_with fail
    go_ret
    exact ⟨rfl, H11.out.below⟩
end Go.Proofs.Ytjgjfcidfcfajaa.Bk
