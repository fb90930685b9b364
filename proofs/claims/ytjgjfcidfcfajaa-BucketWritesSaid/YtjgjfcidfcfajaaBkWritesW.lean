/- BucketWrites walked. -/
import Derived.Test.YtjgjfcidfcfajaaBkOpen
import Derived.Test.YtjgjfcidfcfajaaBkREnc
namespace Go.Proofs.Ytjgjfcidfcfajaa
open Go.RowKit
open Go.Lib (hid)
open Go.ChangeShapes Go.WideShapes Go.Joins
open Go.Proofs.Ytjgjfcidfcfajaa.Bk
open Go.Proofs.Ytjgjfcidfcfajaa.Ky
set_option maxRecDepth 100000 in
theorem BucketWrites_open0 {H : Type} {enc : TypeId × Value → H} {W : World} {base : Nat} {v : Value} {d : DataW H} {p : List MemPlace} (hv : Value.okWide Try.prog W .any base 22 v) (h : DataW.Trod enc Try.prog W 0 (fun _ => true) true 22 v d p) : RecsV W v := open_recs hv h
set_option maxRecDepth 100000 in
set_option maxHeartbeats 2000000 in
theorem writes_few (L : List Rec) (p : Option Addr) (c : Nat) (d m : Int) (w : World) (hp : Rs (fun _ => False) w p L) (hl : L.length ≤ 9223372036854775807) (hf : fewB L = false) :
    Calls Try.prog 3 #[.slice p L.length c, .int .i64 d, .int .i64 m] w fun e w' => e = .returned (.bool true) ∧ Below w.heap.size w w' := by
  have HF := hid (few_ok L p c _ hp hl)
  rw [hf] at HF
  clear hp hf hl
  go_enter Try.func3, Try.ntmps3
  go_wp2_with fail
  refine HF.out.mono ?_
  rintro e w1 ⟨rfl, rfl⟩
  go_wp2_with fail
  refine (live_any _).mono ?_
  rintro e w2 ⟨rfl, hb⟩
  have H1 := hid hb; clear hb
  go_wp2_with fail
  go_ret
  exact ⟨rfl, H1.out⟩
set_option maxRecDepth 100000 in
set_option maxHeartbeats 4000000 in
theorem writes_go (L : List Rec) (p : Option Addr) (c : Nat) (d m : Int) (w : World) (hp : Rs (fun _ => False) w p L) (hl : L.length ≤ 9223372036854775807) (hf : fewB L = true) :
    Calls Try.prog 3 #[.slice p L.length c, .int .i64 d, .int .i64 m] w fun e w' => e = .returned (.bool true) ∧ Below w.heap.size w w' := by
  have hbig := fewR_big (fewB_iff.1 hf)
  have H0 := hid ((Ct.start w).list hp)
  have HF := hid (few_ok L p c _ hp hl)
  rw [hf] at HF
  have HE := hid fun (V : World) (h : Rs (fun _ => False) V p L) => encode_ok L p c d m V h hbig
  have HR := hid fun (V : World) (h : Rs (fun _ => False) V p L) => refEncode_ok L p c d m V h hbig
  have HS := hid fun (V : World) (h : Rs (fun _ => False) V p L) => size_ok L p c V h hbig
  have HRS := hid fun (V : World) (h : Rs (fun _ => False) V p L) => refSize_ok L p c V h hbig
  have HT := hid fun (V : World) (h : Rs (fun _ => False) V p L) => fits_ok L p c m V h hbig
  have HRT := hid fun (V : World) (h : Rs (fun _ => False) V p L) => refFits_ok L p c m V h hbig
  clear hp hl hf hbig
  generalize encS L d m = s at HE HR
  generalize encOk L d m = b at HE HR
  generalize fitsB L m = z at HT HRT
  generalize sizeR L = n at HS HRS
  have e1 : (s.toList == s.toList) = true := by simp
  have e2 : (err b == err b) = true := by simp
  have e3 : ((n : Int) == (n : Int)) = true := by simp
  have e4 : (z == z) = true := by simp
  go_enter Try.func3, Try.ntmps3
  go_wp2_with fail
  refine HF.out.mono ?_
  rintro e w1 ⟨rfl, rfl⟩
  go_wp2_with fail
  refine (HE.out _ (H0.out.rs (p := p) (by simp))).mono ?_
  rintro e w2 ⟨rfl, hb⟩
  have H2 := hid (H0.out.step hb); clear hb H0
  go_wp2_with fail
  refine (HR.out _ (H2.out.rs (p := p) (by simp))).mono ?_
  rintro e w3 ⟨rfl, hb⟩
  have H3 := hid (H2.out.step hb); clear hb H2
  go_wp2_with fail
  refine (HS.out _ (H3.out.rs (p := p) (by simp))).mono ?_
  rintro e w4 ⟨rfl, hb⟩
  have H4 := hid (H3.out.step hb); clear hb H3
  go_wp2_with fail
  refine (HRS.out _ (H4.out.rs (p := p) (by simp))).mono ?_
  rintro e w5 ⟨rfl, m5, hw5⟩
  have H5 := hid (H4.out.step (V' := w5) (by rw [hw5]; exact below_drewN (Below.refl _ _) m5)); clear hw5 H4
  go_wp2_with fail
  refine (HT.out _ (H5.out.rs (p := p) (by simp))).mono ?_
  rintro e w6 ⟨rfl, hb⟩
  have H6 := hid (H5.out.step hb); clear hb H5
  go_wp2_with fail
  refine (HRT.out _ (H6.out.rs (p := p) (by simp))).mono ?_
  rintro e w7 ⟨rfl, m7, hw7⟩
  have H7 := hid (H6.out.step (V' := w7) (by rw [hw7]; exact below_drewN (Below.refl _ _) m7)); clear hw7 H6
  go_wp2_with fail
  refine (live_any _).mono ?_
  rintro e w8 ⟨rfl, hb⟩
  have H8 := hid (H7.out.step hb); clear hb
  go_wp2_with fail
  go_ret
  exact ⟨rfl, H8.out.below⟩
theorem BucketWrites_walk (v : Value) (d m : Int) (w : World) (h : RecsV w v) (_ : (Lit.int .i64 d).wf = true) (_ : (Lit.int .i64 m).wf = true) :
    Calls Try.prog 3 #[v, .int .i64 d, .int .i64 m] w fun e w' => e = .returned (.bool true) ∧ Below w.heap.size w w' := by
  obtain ⟨p, L, c, rfl, hp, hc, hc2⟩ := h
  have hl : L.length ≤ 9223372036854775807 := by omega
  cases hf : fewB L with
  | false => exact writes_few L p c d m w hp hl hf
  | true => exact writes_go L p c d m w hp hl hf
end Go.Proofs.Ytjgjfcidfcfajaa
