/- Encode of bucket, whole. -/
import Derived.Test.YtkjcbfdplhcjpaaBkEnc
namespace Go.Proofs.Ytkjcbfdplhcjpaa.Bk
open Go.RowKit
open Go.Lib (hid)
open Go.Proofs.Ytkjcbfdplhcjpaa.Ky
open Go.Proofs.Ytkjcbfdplhcjpaa

def encOk (L : List Rec) (dim cap : Int) : Bool := decide (upL L) && (mayAll L dim && (takesB cap && fitsB L cap))
def encS (L : List Rec) (dim cap : Int) : ByteArray := if encOk L dim cap then ⟨(encL L).toArray⟩ else ⟨#[]⟩
def EncPost (w : World) (s : ByteArray) (b : Bool) (e : Ending) (w' : World) : Prop := e = .returned (.tuple #[.string s, .int .i64 (err b)]) ∧ Below w.heap.size w w'
theorem encNo {L : List Rec} {dim cap : Int} (h : encOk L dim cap = false) : encS L dim cap = ⟨#[]⟩ := by unfold encS; rw [h]; rfl
theorem encYes {L : List Rec} {dim cap : Int} (h : encOk L dim cap = true) : encS L dim cap = ⟨(encL L).toArray⟩ := by unfold encS; rw [h]; rfl
theorem encR_take (L : List Rec) (k : Nat) (h : k < L.length) : (L.take (k + 1)).flatMap encR = (L.take k).flatMap encR ++ encR L[k] := by
  rw [List.take_succ_eq_append_getElem h, List.flatMap_append]; simp
theorem encR_sum (L : List Rec) (k : Nat) : 1 + ((L.take k).flatMap encR).length = sizeR (L.take k) := by
  have h := encL_length (L.take k)
  unfold encL at h
  rw [List.length_append, Fd.be_length] at h
  exact h
theorem fits_230 {L : List Rec} {cap : Int} (h : fitsB L cap = true) (ht : takesB cap = true) : sizeR L ≤ 230 ∧ L.length ≤ 16 := by
  simp only [fitsB, takesB, Bool.and_eq_true, decide_eq_true_eq] at h ht
  omega
theorem madeArea_below2 (n : Nat) (w : World) : Below w.heap.size w (Fd.madeArea 138 n w) := Fd.madeArea_below _ n w
/-- a writer on a new area -/
theorem wr_new {S : Nat} {w w7 : World} (h : S ≤ 4096) (hw : Fd.madeArea 138 S w = w7) : Wr (w7.alloc (.cells #[.pointer (some ⟨w.heap.size + 1, 0, none⟩), .int .i64 0] 126)) w.heap.size w7.heap.size (w.heap.size + 1) w.heap.size [] S ∧ Below w.heap.size w (w7.alloc (.cells #[.pointer (some ⟨w.heap.size + 1, 0, none⟩), .int .i64 0] 126)) := by
  subst hw
  have hs := Fd.madeArea_size 138 S w
  refine ⟨⟨heap_alloc_new _ _, ?_, Nat.zero_le _, by omega, by omega⟩, (madeArea_below2 S w).alloc (by omega) _⟩
  have := (Fd.madeArea_area 138 S w h).below (below_alloc (Fd.madeArea 138 S w) (.cells #[.pointer (some ⟨w.heap.size + 1, 0, none⟩), .int .i64 0] 126))
  simpa using this
theorem area_end {w : World} {N G A B : Nat} {P : List UInt8} {S : Nat} (h : Wr w N G A B P S) (hs : P.length = S) : Fd.Area 138 w A B P := by
  have := h.area
  rw [hs, Nat.sub_self, List.replicate_zero, List.append_nil] at this
  exact this
set_option maxRecDepth 100000 in
set_option maxHeartbeats 4000000 in
theorem encode_ok {D : Nat → Prop} (L : List Rec) (p : Option Addr) (c : Nat) (dim cap : Int) (w : World) (hp : Rs D w p L) (hl : bigR L) :
    Calls Try.prog 72 #[.slice p L.length c, .int .i64 dim, .int .i64 cap] w (EncPost w (encS L dim cap) (encOk L dim cap)) := by
  have H1 := hid fun (w' : World) (hb : Below w.heap.size w w') => rises_ok L p c w' (hp.below hb) hl
  have H2 := hid fun (w' : World) (hb : Below w.heap.size w w') => may_okR L p c dim w' (hp.below hb) (by have := hl.1; omega)
  have H3 := hid fun (w' : World) => takes_ok cap w'
  have H4 := hid fun (w' : World) (hb : Below w.heap.size w w') => fits_ok L p c cap w' (hp.below hb) hl
  have HB := hid (Below.refl w.heap.size w)
  have hbig := hl.1
  cases h1 : decide (upL L) with
  | false =>
    have he : encOk L dim cap = false := by unfold encOk; rw [h1]; rfl
    rw [encNo he, he]
    rw [h1] at H1
    clear h1 he hp hl
    go_enter Try.func72, Try.ntmps72
    go_wp2_with (go_at_call 98; refine (H1.out _ HB.out).mono ?_; rintro e w2 ⟨rfl, m, hw⟩; replace HB := hid (show Below w.heap.size w w2 by rw [hw]; exact below_drewN HB.out m); clear hw)
    go_ret2
    exact ⟨rfl, HB.out⟩
  | true =>
    rw [h1] at H1
    cases h2 : mayAll L dim with
    | false =>
      have he : encOk L dim cap = false := by unfold encOk; rw [h1, h2]; rfl
      rw [encNo he, he]
      rw [h2] at H2
      clear h1 h2 he hp hl
      go_enter Try.func72, Try.ntmps72
      go_wp2_with (first
        | (go_at_call 98; refine (H1.out _ HB.out).mono ?_; rintro e w2 ⟨rfl, m, hw⟩; replace HB := hid (show Below w.heap.size w w2 by rw [hw]; exact below_drewN HB.out m); clear hw)
        | (go_at_call 99; refine (H2.out _ HB.out).mono ?_; rintro e w3 ⟨rfl, hb⟩; replace HB := hid (HB.out.trans (hb.mono HB.out.size)); clear hb))
      go_ret2
      exact ⟨rfl, HB.out⟩
    | true =>
      rw [h2] at H2
      cases h3 : takesB cap with
      | false =>
        have he : encOk L dim cap = false := by unfold encOk; rw [h1, h2, h3]; rfl
        rw [encNo he, he]
        rw [h3] at H3
        clear h1 h2 h3 he hp hl
        go_enter Try.func72, Try.ntmps72
        go_wp2_with (first
          | (go_at_call 98; refine (H1.out _ HB.out).mono ?_; rintro e w2 ⟨rfl, m, hw⟩; replace HB := hid (show Below w.heap.size w w2 by rw [hw]; exact below_drewN HB.out m); clear hw)
          | (go_at_call 99; refine (H2.out _ HB.out).mono ?_; rintro e w3 ⟨rfl, hb⟩; replace HB := hid (HB.out.trans (hb.mono HB.out.size)); clear hb)
          | (go_at_call 78; refine (H3.out _).mono ?_; rintro e w' ⟨rfl, rfl⟩))
        go_ret2
        exact ⟨rfl, HB.out⟩
      | true =>
        rw [h3] at H3
        cases h4 : fitsB L cap with
        | false =>
          have he : encOk L dim cap = false := by unfold encOk; rw [h1, h2, h3, h4]; rfl
          rw [encNo he, he]
          rw [h4] at H4
          clear h1 h2 h3 h4 he hp hl
          go_enter Try.func72, Try.ntmps72
          go_wp2_with (first
            | (go_at_call 98; refine (H1.out _ HB.out).mono ?_; rintro e w2 ⟨rfl, m, hw⟩; replace HB := hid (show Below w.heap.size w w2 by rw [hw]; exact below_drewN HB.out m); clear hw)
            | (go_at_call 99; refine (H2.out _ HB.out).mono ?_; rintro e w3 ⟨rfl, hb⟩; replace HB := hid (HB.out.trans (hb.mono HB.out.size)); clear hb)
            | (go_at_call 78; refine (H3.out _).mono ?_; rintro e w' ⟨rfl, rfl⟩)
            | (go_at_call 77; refine (H4.out _ HB.out).mono ?_; rintro e w5 ⟨rfl, hb⟩; replace HB := hid (HB.out.trans (hb.mono HB.out.size)); clear hb))
          go_ret2
          exact ⟨rfl, HB.out⟩
        | true =>
          have he : encOk L dim cap = true := by unfold encOk; rw [h1, h2, h3, h4]; rfl
          rw [encYes he, he]
          rw [h4] at H4
          obtain ⟨hS, hL16⟩ := fits_230 h4 h3
          have HSZ := hid fun (w' : World) (hb : Below w.heap.size w w') => size_ok L p c w' (hp.below hb) hl
          have HEL := hid (encL_length L)
          have HPG := hid (show Rs (Ge w.heap.size) w p L from hp.less (fun b hb hb2 => absurd hb2 (by unfold Ge; omega)))
          have HSZT := hid fun (k : Nat) (hk : k < L.length) => (show 1 + ((L.take k).flatMap encR).length + (4 * L[k].1.length + 1 + L[k].2.size) ≤ sizeR L by rw [encR_sum, ← sizeR_take L k hk]; exact sizeR_mono L (k + 1))
          have HMA := hid fun (k : Nat) (hk : k < L.length) => (show L[k].1.length ≤ 1000 ∧ L[k].2.size < 256 by
            have hm := h2
            unfold mayAll at hm
            have hm2 := List.all_eq_true.1 hm _ (List.getElem_mem hk)
            simp only [mayR, Bool.and_eq_true, decide_eq_true_eq] at hm2
            have := (hl.2 _ (List.getElem_mem hk)).1
            omega)
          clear h1 h2 h3 h4 he hp hl
          obtain ⟨S, hSS⟩ : ∃ S, sizeR L = S := ⟨_, rfl⟩
          rw [hSS] at hS HEL HSZ HSZT
          have HN1 := hid fun (w' : World) => Fd.new_ok S w' (by omega)
          clear hSS
          go_enter Try.func72, Try.ntmps72
          go_wp2_with (first
            | (go_at_call 98; refine (H1.out _ HB.out).mono ?_; rintro e w2 ⟨rfl, m, hw⟩; replace HB := hid (show Below w.heap.size w w2 by rw [hw]; exact below_drewN HB.out m); clear hw)
            | (go_at_call 99; refine (H2.out _ HB.out).mono ?_; rintro e w3 ⟨rfl, hb⟩; replace HB := hid (HB.out.trans (hb.mono HB.out.size)); clear hb)
            | (go_at_call 78; refine (H3.out _).mono ?_; rintro e w' ⟨rfl, rfl⟩)
            | (go_at_call 77; refine (H4.out _ HB.out).mono ?_; rintro e w5 ⟨rfl, hb⟩; replace HB := hid (HB.out.trans (hb.mono HB.out.size)); clear hb)
            | (go_at_call 76; refine (HSZ.out _ HB.out).mono ?_; rintro e w6 ⟨rfl, hb⟩; replace HB := hid (HB.out.trans (hb.mono HB.out.size)); clear hb)
            | (go_at_call 100; refine (HN1.out _).mono ?_; rintro e w7 ⟨rfl, hw7⟩; have HW7 := hid hw7; clear hw7)
            | fail)
          obtain ⟨hwr, hbb⟩ := wr_new (by omega) HW7.out
          have HG7 := hid (show w6.heap.size ≤ w7.heap.size by rw [← HW7.out, Fd.madeArea_size]; omega)
          have HWR := hid hwr
          have HB8 := hid (HB.out.trans (hbb.mono HB.out.size))
          have HN8 := hid hbb.size
          have HNW := hid HB.out.size
          clear hwr hbb HW7 HN1 HSZ H1 H2 H3 H4 HB
          generalize w7.alloc (.cells #[.pointer (some ⟨w6.heap.size + 1, 0, none⟩), .int .i64 0] 126) = W8 at HWR HB8 HN8 ⊢
          generalize w7.heap.size = G at HWR HG7 ⊢
          generalize w6.heap.size + 1 = A at HWR ⊢
          generalize w6.heap.size = N at HWR HN8 HNW HG7
          have hS1 : 1 ≤ S := by have := HEL.out; unfold encL at this; rw [List.length_append, Fd.be_length] at this; omega
          refine (wnumber_ok 1 L.length W8 HWR.out HN8.out (.inl rfl) (by omega) (by simpa using hS1)).mono ?_
          rintro e w9 ⟨rfl, h1, h2⟩
          have H9 := hid h1
          have U9 := hid h2
          clear h1 h2
          go_wp2_with fail
          go_loopw [49] (fun i wr => ∃ k : Nat, k ≤ L.length ∧ i = .int .i64 k ∧ Wr wr N G A N (Fd.be 1 L.length ++ (L.take k).flatMap encR) S ∧ Wu N G N W8 wr) (fun i _ => L.length - (intOf i).toNat)
          case atStart => exact ⟨0, by omega, rfl, by simpa using H9.out, U9.out⟩
          case round =>
            obtain ⟨k, hk, rfl, hw, hu⟩ := hrel
            have HR := hid hw; have HU := hid hu; clear hw hu H9 U9
            have HBr := hid (HB8.out.trans (HU.out.below.mono HNW.out))
            by_cases hlt : k < L.length
            · obtain ⟨b, off, q, c', rfl, _, d1, d2, hq⟩ := (HPG.out.below HBr.out).at k hlt
              have HM := hid (HMA.out k hlt)
              have HSK := hid (HSZT.out k hlt)
              have HRT := hid (encR_take L k hlt)
              have HRR := hid fun (w' : World) (hb : Below wr.heap.size wr w') => wrecord_ok L[k].1 L[k].2 q c' w' (HR.out.below hb) (Nat.le_trans HN8.out (Nat.le_trans HU.out.keep.size hb.size)) ((hq.keep (.below hb)).less (D' := K2 G N) (fun b _ hb2 => by show w.heap.size ≤ b; have h1 := HNW.out; have h2 := HG7.out; rcases hb2 with e | e <;> omega)) HM.out.1 HM.out.2 (by rw [List.length_append, Fd.be_length]; exact HSK.out)
              rw [List.append_assoc, ← HRT.out] at HRR
              clear hq HSK HM HRT
              generalize L[k].1.length = x at d1 HRR
              generalize L[k].2 = t at d2 HRR
              go_wp2_with (go_at_call 102; refine (HRR.out _ (below_alloc wr _)).mono ?_; rintro e w10 ⟨rfl, h1, h2⟩; have HR2 := hid h1; have HU2 := hid (HU.out.trans ((Wu.of_below (below_alloc wr _) (Nat.le_trans HN8.out HU.out.keep.size)).trans h2)); clear h1 h2)
              go_roundw
              case rel => exact ⟨k + 1, by omega, by go_num, HR2.out, HU2.out⟩
              case measure => simp [intOf]; omega
            · obtain rfl : k = L.length := by omega
              have HRE := hid (show Wr wr N G A N (encL L) S by have := HR.out; rw [List.take_length] at this; exact this)
              have HBY := hid (Fd.bytes_ok A N (encL L) wr (area_end HRE.out HEL.out))
              go_wp2_with (go_at_call 103; refine HBY.out.mono ?_; rintro e w' ⟨rfl, rfl⟩)
              go_ret2
              exact ⟨rfl, HBr.out⟩
end Go.Proofs.Ytkjcbfdplhcjpaa.Bk
