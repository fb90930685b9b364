/- Decode of bucket. -/
import Derived.Test.YtkjcbfdplhcjpaaBkDec
namespace Go.Proofs.Ytkjcbfdplhcjpaa.Bk
open Go.RowKit
open Go.Lib (hid)
open Go.Proofs.Ytkjcbfdplhcjpaa.Ky
open Go.Proofs.Ytkjcbfdplhcjpaa

theorem rmake32 (n : Nat) (h : n ≤ 1000000) (w : World) :
    (Instr.makeSlice 40 (.int .u32 (n : Int)) (.int .u32 (n : Int))).run Try.prog w = .ok (.slice (some ⟨w.heap.size, 0, none⟩) n n) (w.alloc (.cells (madeCells (Value.agg #[.slice none 0 0, .string ⟨#[]⟩]).cells (n * 2)) 33)) := by
  obtain ⟨i, hi, hz, hs, hb⟩ := info_parts rinfo
  have := run_makeSlice (P := Try.prog) (w := w) 40 33 i _ Try.underlying40 hi hz .u32 .u32 n n (by omega) (by omega) (by rw [hs]; omega) (by rw [hb]; omega) (by omega)
  rw [hs] at this
  exact this
theorem Fill.keep {w w' : World} {g n k R : Nat} {L : List Rec} (h : Fill w g n k L) (hk : Keep (K2 R R) w w') (hR : R < g) : Fill w' g n k L := by
  obtain ⟨cur, h1, h2, h3⟩ := h.row
  have hg := h.lt
  exact ⟨cur, (hk.block g hg (by unfold K2; omega)).trans h1, h2, h3.keep ⟨hk.size, fun b hb hD => hk.block b hb (fun e => hD (by unfold K2 at e; show b ≤ g; omega))⟩⟩
set_option maxRecDepth 100000 in
set_option maxHeartbeats 4000000 in
theorem rrecords_ok (d : Nat) (w : World) {N R : Nat} {t : ByteArray} {st : RS} (h : Rd w R t st) (hN : N ≤ R) (hd : d ≤ 6) (r : List Rec × RS) (hr : recsS t.data.toList d (nm t.data.toList st 1).1 (nm t.data.toList st 1).2 = r) :
    Calls Try.prog 79 #[.pointer (some ⟨R, 0, none⟩), .int .i64 (d : Int)] w fun e w' => ∃ g, e = .returned (.slice (some ⟨g, 0, none⟩) r.1.length r.1.length) ∧ Rd w' R t r.2 ∧ Rs (Lt w.heap.size) w' (some ⟨g, 0, none⟩) r.1 ∧ Wu N R R w w' := by
  have HNM := hid (rnumber_ok 1 w h hN (.inl rfl))
  have hm := nm_lt t.data.toList st 1 (.inl rfl)
  have hRl := h.lt
  generalize (nm t.data.toList st 1).1 = m at *
  generalize (nm t.data.toList st 1).2 = st1 at *
  have HRR := hid hr
  have HLEN := hid (show r.1.length = m by rw [← hr, recsS_len])
  have HGET := hid fun (k : Nat) (hk : k < m) => (show r.1[k]? = some (recS t.data.toList d (recsS t.data.toList d k st1).2).1 by subst hr; rw [List.getElem?_eq_getElem (by rw [recsS_len]; exact hk), recsS_get _ _ _ _ _ hk])
  have hmk := rmake32 m (by omega)
  have HFN := hid fun (w' : World) => fill_new m w' r.1
  clear h hr
  go_enter Try.func79, Try.ntmps79
  go_wp2_with (first
    | (go_at_call 105; refine HNM.out.mono ?_; rintro e w2 ⟨rfl, h1, h2⟩; have H2 := hid h1; have U2 := hid h2; clear h1 h2)
    | fail)
  have HF0 := hid (HFN.out w2)
  have HB3 := hid (below_alloc w2 (.cells (madeCells (Value.agg #[.slice none 0 0, .string ⟨#[]⟩]).cells (m * 2)) 33))
  have HG3 := hid (show w2.heap.size < (w2.alloc (.cells (madeCells (Value.agg #[.slice none 0 0, .string ⟨#[]⟩]).cells (m * 2)) 33)).heap.size by simp)
  have H3 := hid (H2.out.below HB3.out)
  have U3 := hid (Wu.of_below (N := N) (G := R) (B := R) HB3.out (Nat.le_trans hN (Nat.le_of_lt H2.out.lt)))
  have HRG := hid (show R < w2.heap.size from H2.out.lt)
  have HWG := hid (show w.heap.size ≤ w2.heap.size from U2.out.keep.size)
  clear hmk HFN
  go_loopw [12] (fun i wr => ∃ k : Nat, k ≤ m ∧ i = .int .i64 k ∧ Rd wr R t (recsS t.data.toList d k st1).2 ∧ Fill wr w2.heap.size m k r.1 ∧ Wu N R R w2 wr) (fun i _ => m - (intOf i).toNat)
  case atStart => exact ⟨0, by omega, rfl, H3.out, HF0.out, U3.out⟩
  case round =>
    obtain ⟨k, hk, rfl, hr, hf, hu⟩ := hrel
    have HR := hid hr; have HF := hid hf; have HU := hid hu; clear hr hf hu H3 HF0 U3 HB3 HG3
    by_cases hlt : k < m
    · obtain ⟨x, hx⟩ : ∃ x, recS t.data.toList d (recsS t.data.toList d k st1).2 = x := ⟨_, rfl⟩
      have HRC := hid (rrecord_ok d wr HR.out hN hd x hx)
      have HX2 := hid (show x.2 = (recsS t.data.toList d (k + 1) st1).2 by rw [← hx]; rfl)
      have hkl : k < r.1.length := by rw [HLEN.out]; exact hlt
      have HLK := hid (show r.1[k] = x.1 by rw [← hx]; exact (List.getElem?_eq_some_iff.1 (HGET.out k hlt)).2)
      have HPUT := hid fun (w' : World) (q : Option Addr) (c : Nat) (hf : Fill w' w2.heap.size m k r.1) (hq : PtD (fun b => b ≤ w2.heap.size) w' q x.1.1) => (show Fill ((w'.setCell ⟨w2.heap.size, k * 2, none⟩ (.slice q x.1.1.length c)).setCell ⟨w2.heap.size, k * 2 + 1, none⟩ (.string x.1.2)) w2.heap.size m (k + 1) r.1 by
        have := hf.put (c := c) hlt hkl (q := q) (by rw [HLK.out]; exact hq)
        rw [HLK.out] at this; exact this)
      clear hx
      go_wp2_with (go_at_call 106; refine HRC.out.mono ?_; rintro e w4 ⟨g, c, rfl, h1, h2, h3⟩; have HR4 := hid h1; have HF4 := hid (HF.out.keep h3.keep HRG.out); have HQ4 := hid (h2.less (D' := fun b => b ≤ w2.heap.size) (fun b _ hb => Nat.lt_of_le_of_lt hb HF.out.lt)); have HU4 := hid (HU.out.trans h3); obtain ⟨⟨v1, f1⟩, f2⟩ := HF4.out.cell (k * 2) (by omega); obtain ⟨⟨v2, f3⟩, f4⟩ := HF4.out.cell (k * 2 + 1) (by omega); clear h1 h2 h3)
      have HF5 := hid (HPUT.out _ _ c HF4.out HQ4.out)
      have HR5 := hid ((HR4.out.keep (i := k * 2) (g := w2.heap.size) (v := .slice (some ⟨g, 0, none⟩) x.1.1.length c) rfl (by have := HRG.out; omega)).keep (i := k * 2 + 1) (g := w2.heap.size) (v := .string x.1.2) rfl (by have := HRG.out; omega))
      have HU5 := hid ((HU4.out.far (Nat.le_refl _) (by have := HRG.out; omega) (k * 2) (.slice (some ⟨g, 0, none⟩) x.1.1.length c)).far (Nat.le_refl _) (by have := HRG.out; omega) (k * 2 + 1) (.string x.1.2))
      go_roundw
      case rel => exact ⟨k + 1, by omega, by go_num, HX2.out ▸ HR5.out, HF5.out, HU5.out⟩
      case measure => simp [intOf]; omega
    · obtain rfl : k = m := by omega
      have HRE := hid (show Rd wr R t r.2 by have := HR.out; rw [HRR.out] at this; exact this)
      have HRS := hid ((HF.out.done HLEN.out.symm).less (D' := Lt w.heap.size) (fun b _ hb => Nat.lt_of_lt_of_le hb HWG.out))
      go_wp2_with fail
      go_ret
      exact ⟨w2.heap.size, by rw [HLEN.out]; rfl, HRE.out, HRS.out, U2.out.trans HU.out⟩
/-- what is read of a text, and the error -/
def readR (s : List UInt8) (d : Nat) : List Rec × RS := recsS s d (nm s (0, false) 1).1 (nm s (0, false) 1).2
def decOk (dim cap : Int) : Bool := decide (1 ≤ dim ∧ dim ≤ 6) && takesB cap
def decR (s : ByteArray) (dim cap : Int) : List Rec × Int :=
  if decOk dim cap then (if (readR s.data.toList dim.toNat).2.2 then ([], 9) else if encS (readR s.data.toList dim.toNat).1 dim cap = s then ((readR s.data.toList dim.toNat).1, 0) else ([], 6)) else ([], 1)
def DecPost (w : World) (r : List Rec × Int) (e : Ending) (w' : World) : Prop := ∃ p c, e = .returned (.tuple #[.slice p r.1.length c, .int .i64 r.2]) ∧ r.1.length ≤ c ∧ c ≤ 9223372036854775807 ∧ Rs (Lt w.heap.size) w' p r.1 ∧ Below w.heap.size w w'
theorem dec_none {w w' : World} {n : Int} (hb : Below w.heap.size w w') : DecPost w ([], n) (.returned (.tuple #[.slice none 0 0, .int .i64 n])) w' := ⟨none, 0, rfl, Nat.le_refl _, by omega, Rs.nil _, hb⟩
set_option maxRecDepth 100000 in
set_option maxHeartbeats 4000000 in
theorem decode_ok (s : ByteArray) (dim cap : Int) (w : World) (hs : s.size ≤ 1000000) :
    Calls Try.prog 42 #[.string s, .int .i64 dim, .int .i64 cap] w (DecPost w (decR s dim cap)) := by
  have HT := hid fun (w' : World) => takes_ok cap w'
  by_cases hd1 : dim < 1
  · have hr : decR s dim cap = ([], 1) := by unfold decR decOk; rw [if_neg (by simp; omega)]
    rw [hr]
    have e1 : decide (dim < 1) = true := by simpa using hd1
    clear hr hd1
    go_enter Try.func42, Try.ntmps42
    go_wp2_with fail
    go_ret2
    exact dec_none (Below.refl _ _)
  · by_cases hd2 : 6 < dim
    · have hr : decR s dim cap = ([], 1) := by unfold decR decOk; rw [if_neg (by simp; omega)]
      rw [hr]
      have e1 : decide (dim < 1) = false := by simpa using hd1
      have e2 : decide (6 < dim) = true := by simpa using hd2
      clear hr hd1 hd2
      go_enter Try.func42, Try.ntmps42
      go_wp2_with fail
      go_ret2
      exact dec_none (Below.refl _ _)
    · have e1 : decide (dim < 1) = false := by simpa using hd1
      have e2 : decide (6 < dim) = false := by simpa using hd2
      cases ht : takesB cap with
      | false =>
        have hr : decR s dim cap = ([], 1) := by unfold decR decOk; rw [if_neg (by simp [ht])]
        rw [hr]
        rw [ht] at HT
        clear hr hd1 hd2 ht
        go_enter Try.func42, Try.ntmps42
        go_wp2_with (go_at_call 78; refine (HT.out _).mono ?_; rintro e w' ⟨rfl, rfl⟩)
        go_ret2
        exact dec_none (Below.refl _ _)
      | true =>
        obtain ⟨d, rfl⟩ : ∃ d : Nat, dim = (d : Int) := ⟨dim.toNat, by omega⟩
        have hd6 : d ≤ 6 := by omega
        obtain ⟨r, hr⟩ : ∃ r, readR s.data.toList d = r := ⟨_, rfl⟩
        have HDR := hid (show decR s d cap = (if r.2.2 then ([], 9) else if encS r.1 d cap = s then (r.1, 0) else ([], 6)) by
          unfold decR decOk; rw [if_pos (by simp [ht]; omega), Int.toNat_natCast, hr])
        have HBG := hid (show bigR r.1 by rw [← hr]; exact recsS_big _ _ _ _ hd6 (by have := nm_lt s.data.toList (0, false) 1 (.inl rfl); omega))
        rw [ht] at HT
        obtain ⟨o, ho⟩ : ∃ o, o = Obj.cells #[Value.string s, .int .i64 0, .bool false] 110 := ⟨_, rfl⟩
        have HRD := hid (show Rd (w.alloc o) w.heap.size s (0, false) from ⟨by rw [heap_alloc_new, ho]; rfl, Nat.zero_le _, hs⟩)
        have HB0 := hid (below_alloc w o)
        have HRS := hid (rrecords_ok d (w.alloc o) HRD.out (Nat.le_refl _) hd6 r hr)
        rw [HDR.out]
        clear hr ht hd1 hd2 HDR
        subst ho
        cases hc : r.2.2 with
        | true =>
          rw [if_pos rfl]
          have HC := hid hc
          clear hc
          go_enter Try.func42, Try.ntmps42
          go_wp2_with (first
            | (go_at_call 78; refine (HT.out _).mono ?_; rintro e w' ⟨rfl, rfl⟩)
            | (go_at_call 79; refine HRS.out.mono ?_; rintro e w2 ⟨g, rfl, h1, h2, h3⟩; have HBX := hid (HB0.out.trans h3.below); have d1 := h1.cells.2.2.1; rw [HC.out] at d1; clear h1 h2 h3)
            | fail)
          go_ret2
          exact dec_none HBX.out
        | false =>
          rw [if_neg (by simp)]
          have HC := hid hc
          clear hc
          have HEN := hid fun (w' : World) (p : Option Addr) (h : Rs (Lt w.heap.size) w' p r.1) => encode_ok r.1 p r.1.length (d : Int) cap w' h HBG.out
          by_cases he : encS r.1 d cap = s
          · rw [if_pos he]
            rw [he] at HEN
            clear he
            go_enter Try.func42, Try.ntmps42
            go_wp2_with (first
              | (go_at_call 78; refine (HT.out _).mono ?_; rintro e w' ⟨rfl, rfl⟩)
              | (go_at_call 79; refine HRS.out.mono ?_; rintro e w2 ⟨g, rfl, h1, h2, h3⟩; have HBX := hid (HB0.out.trans h3.below); have HS2 := hid (h2.less (D' := Lt w.heap.size) (fun b _ hb => Nat.lt_of_lt_of_le hb HB0.out.size)); have d1 := h1.cells.2.2.1; rw [HC.out] at d1; clear h1 h2 h3)
              | (go_at_call 72; refine (HEN.out _ _ HS2.out).mono ?_; rintro e w3 ⟨rfl, hb⟩; have HBY := hid (HBX.out.trans (hb.mono HBX.out.size)); have HS3 := hid (HS2.out.below hb); clear hb)
              | fail)
            go_ret2
            exact ⟨_, _, rfl, Nat.le_refl _, by have := HBG.out.1; show r.1.length ≤ _; omega, HS3.out, HBY.out⟩
          · rw [if_neg he]
            have e5 := text_ne he
            generalize encS r.1 d cap = u at HEN e5
            clear he
            go_enter Try.func42, Try.ntmps42
            go_wp2_with (first
              | (go_at_call 78; refine (HT.out _).mono ?_; rintro e w' ⟨rfl, rfl⟩)
              | (go_at_call 79; refine HRS.out.mono ?_; rintro e w2 ⟨g, rfl, h1, h2, h3⟩; have HBX := hid (HB0.out.trans h3.below); have HS2 := hid (h2.less (D' := Lt w.heap.size) (fun b _ hb => Nat.lt_of_lt_of_le hb HB0.out.size)); have d1 := h1.cells.2.2.1; rw [HC.out] at d1; clear h1 h2 h3)
              | (go_at_call 72; refine (HEN.out _ _ HS2.out).mono ?_; rintro e w3 ⟨rfl, hb⟩; have HBY := hid (HBX.out.trans (hb.mono HBX.out.size)); clear hb)
              | fail)
            go_ret2
            exact dec_none HBY.out
end Go.Proofs.Ytkjcbfdplhcjpaa.Bk
