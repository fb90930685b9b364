/- BucketBack walked. -/
import Derived.Test.YtjgjfcidfcfajaaBkOpen
import Derived.Test.YtjgjfcidfcfajaaBkBack
namespace Go.Proofs.Ytjgjfcidfcfajaa
open Go.RowKit
open Go.Lib (hid)
open Go.ChangeShapes Go.WideShapes Go.Joins Go.Deep
open Go.Proofs.Ytjgjfcidfcfajaa.Bk
open Go.Proofs.Ytjgjfcidfcfajaa.Ky

/-- a value that is a Case -/
def CaseV (w : World) (v : Value) : Prop := ∃ p L c s d m, v = .agg #[.slice p (L : List Rec).length c, .string s, .int .i64 d, .int .i64 m] ∧ Rs (fun _ => False) w p L ∧ L.length ≤ c ∧ c ≤ 9223372036854775807 ∧ s.size ≤ 9223372036854775807
set_option maxRecDepth 100000 in
theorem BucketBack_open0 {H : Type} {enc : TypeId × Value → H} {W : World} {base : Nat} {v : Value} {d : DataW H} {p : List MemPlace} (hv : Value.okWide Try.prog W .any base 47 v) (h : DataW.Trod enc Try.prog W 0 (fun _ => true) true 47 v d p) : CaseV W v := by
  obtain ⟨cs, rfl, hsz⟩ := okWide_struct Try.underlying47 hv
  obtain ⟨fuel, hf⟩ := h
  rw [c47] at hsz
  obtain ⟨l⟩ := cs
  have hl : l.length = 4 := hsz
  obtain ⟨x0, x1, x2, x3, rfl⟩ : ∃ x0 x1 x2 x3, l = [x0, x1, x2, x3] := by
    match l, hl with
    | [x0, x1, x2, x3], _ => exact ⟨x0, x1, x2, x3, rfl⟩
  obtain ⟨xs, m, _, _, _, hlen, hff⟩ := DataW.trod_struct Try.underlying47 hf
  have hlen4 : xs.length = 4 := hlen
  have some_at : ∀ j, j < 4 → (xs[j]?).isSome = true := fun j hj => by rw [List.getElem?_eq_getElem (by omega)]; rfl
  obtain ⟨y0, hy0⟩ := Option.isSome_iff_exists.1 (some_at 0 (by omega))
  obtain ⟨y1, hy1⟩ := Option.isSome_iff_exists.1 (some_at 1 (by omega))
  obtain ⟨y2, hy2⟩ := Option.isSome_iff_exists.1 (some_at 2 (by omega))
  obtain ⟨y3, hy3⟩ := Option.isSome_iff_exists.1 (some_at 3 (by omega))
  have h0 := hff 0 _ rfl
  have h1 := hff 1 _ rfl
  have h2 := hff 2 _ rfl
  have h3 := hff 3 _ rfl
  rw [hy0] at h0
  rw [hy1] at h1
  rw [hy2] at h2
  rw [hy3] at h3
  obtain ⟨q, L, c, rfl, hq, hc, hc2⟩ := recs_trod (cell_one rfl c22) h0
  have e1 : (([Value.slice q L.length c, x1, x2, x3] : List Value).drop 1).take (Try.prog.cellsOf 9) = [x1] := cell_one rfl c9
  have e2 : (([Value.slice q L.length c, x1, x2, x3] : List Value).drop 2).take (Try.prog.cellsOf 3) = [x2] := cell_one rfl c3
  have e3 : (([Value.slice q L.length c, x1, x2, x3] : List Value).drop 3).take (Try.prog.cellsOf 3) = [x3] := cell_one rfl c3
  have h1' : DataW.trod enc Try.prog W 0 (fun _ => true) true m 9 [x1] = some y1 := by rw [← e1]; exact h1
  have h2' : DataW.trod enc Try.prog W 0 (fun _ => true) true m 3 [x2] = some y2 := by rw [← e2]; exact h2
  have h3' : DataW.trod enc Try.prog W 0 (fun _ => true) true m 3 [x3] = some y3 := by rw [← e3]; exact h3
  obtain ⟨t, e, _, wt⟩ := DataW.trod_string Try.underlying9 h1'
  simp at e
  subst e
  obtain ⟨g, e, _, _⟩ := DataW.trod_int Try.underlying3 h2'
  simp at e
  subst e
  obtain ⟨g2, e, _, _⟩ := DataW.trod_int Try.underlying3 h3'
  simp at e
  subst e
  exact ⟨q, L, c, t, g, g2, rfl, hq, hc, hc2, by unfold maxLen at wt; omega⟩
theorem fit_of {D : Nat → Prop} {w : World} {p : Option Addr} {L : List Rec} (h : Rs D w p L) : ∀ r ∈ L, ∀ x ∈ r.1, x < 4294967296 := fun r hr x hx => by
  obtain ⟨j, hj, rfl⟩ := List.getElem_of_mem hr
  obtain ⟨_, _, _, _, _, _, _, _, hp⟩ := h.at j hj
  obtain ⟨i, hi, rfl⟩ := List.getElem_of_mem hx
  exact hp.fit i hi
theorem dec_big (s : ByteArray) (dim cap : Int) : bigR (decR s dim cap).1 := by
  unfold decR
  have hn : bigR ([] : List Rec) := ⟨by simp, fun r hr => by cases hr⟩
  by_cases hd : decOk dim cap = true
  · rw [if_pos hd]
    have hb : bigR (readR s.data.toList dim.toNat).1 := recsS_big _ _ _ _ (by unfold decOk at hd; simp at hd; omega) (by have := nm_lt s.data.toList (0, false) 1 (.inl rfl); omega)
    split
    · exact hn
    · split
      · exact hb
      · exact hn
  · rw [if_neg hd]; exact hn
theorem enc_size {L : List Rec} {d m : Int} (h : encOk L d m = true) : (encS L d m).size = sizeR L := by
  rw [encYes h]; exact encL_length L
def caseO (p : Option Addr) (n c : Nat) (s : ByteArray) (d m : Int) : Obj := .cells #[.slice p n c, .string s, .int .i64 d, .int .i64 m] 47
theorem case_cells (w : World) (p : Option Addr) (n c : Nat) (s : ByteArray) (d m : Int) :
    (w.alloc (caseO p n c s d m)).cell? ⟨w.heap.size, 0, none⟩ = some (.slice p n c) ∧ (w.alloc (caseO p n c s d m)).cell? ⟨w.heap.size, 1, none⟩ = some (.string s) ∧ (w.alloc (caseO p n c s d m)).cell? ⟨w.heap.size, 2, none⟩ = some (.int .i64 d) ∧ (w.alloc (caseO p n c s d m)).cell? ⟨w.heap.size, 3, none⟩ = some (.int .i64 m) := by
  unfold caseO
  refine ⟨?_, ?_, ?_, ?_⟩ <;> (rw [cell_of_row _ _ _ _ _ _ (heap_alloc_new w _)]; rfl)
set_option maxRecDepth 100000 in
set_option maxHeartbeats 4000000 in
theorem back_few (L : List Rec) (p : Option Addr) (c : Nat) (s : ByteArray) (d m : Int) (w : World) (hp : Rs (fun _ => False) w p L) (hl : L.length ≤ 9223372036854775807) (hf : fewB L = false) :
    Calls Try.prog 6 #[.agg #[.slice p L.length c, .string s, .int .i64 d, .int .i64 m]] w fun e w' => e = .returned (.bool true) ∧ Below w.heap.size w w' := by
  obtain ⟨d0, d1, d2, d3⟩ := case_cells w p L.length c s d m
  have H0 := hid (((Ct.start w).list hp).alloc (caseO p L.length c s d m))
  have HF := hid fun (V : World) (h : Rs (fun _ => False) V p L) => few_ok L p c V h hl
  rw [hf] at HF
  clear hp hf hl
  obtain ⟨V0, hV0⟩ : ∃ V, w.alloc (caseO p L.length c s d m) = V := ⟨_, rfl⟩
  rw [hV0] at d0 d1 d2 d3 H0
  have HV := hid hV0
  go_enter Try.func6, Try.ntmps6
  unfold caseO at hV0
  go_wp2_with fail
  try rw [hV0]
  clear hV0 HV
  go_quiet (fail)
  go_wp2_with fail
  refine (HF.out _ ((H0.out.drewN _).rs (p := p) (by simp))).mono ?_
  rintro e w1 ⟨rfl, hw⟩
  have H1 := hid (show Ct w w1 [] [] [(p, L)] by rw [← hw]; exact H0.out.drewN _); clear hw H0 HF d0 d1 d2 d3
  go_wp2_with fail
  refine (live_any _).mono ?_
  rintro e wl ⟨rfl, hb⟩
  have HL := hid (H1.out.step hb); clear hb
  go_wp2_with fail
  go_ret
  exact ⟨rfl, HL.out.below⟩
set_option maxRecDepth 100000 in
set_option maxHeartbeats 4000000 in
theorem back_long (L : List Rec) (p : Option Addr) (c : Nat) (s : ByteArray) (d m : Int) (w : World) (hp : Rs (fun _ => False) w p L) (hl : L.length ≤ 9223372036854775807) (hf : fewB L = true) (hs2 : s.size ≤ 9223372036854775807) (hs : ¬ s.size ≤ 300) :
    Calls Try.prog 6 #[.agg #[.slice p L.length c, .string s, .int .i64 d, .int .i64 m]] w fun e w' => e = .returned (.bool true) ∧ Below w.heap.size w w' := by
  obtain ⟨d0, d1, d2, d3⟩ := case_cells w p L.length c s d m
  have H0 := hid (((Ct.start w).list hp).alloc (caseO p L.length c s d m))
  have HF := hid fun (V : World) (h : Rs (fun _ => False) V p L) => few_ok L p c V h hl
  rw [hf] at HF
  have e1 : decide (300 < (s.size : Int)) = true := by simp; omega
  have e2 : decide (300 < s.size) = true := by simp; omega
  clear hp hf hl hs
  obtain ⟨V0, hV0⟩ : ∃ V, w.alloc (caseO p L.length c s d m) = V := ⟨_, rfl⟩
  rw [hV0] at d0 d1 d2 d3 H0
  have HV := hid hV0
  go_enter Try.func6, Try.ntmps6
  unfold caseO at hV0
  go_wp2_with fail
  try rw [hV0]
  clear hV0 HV
  go_quiet (fail)
  go_wp2_with fail
  refine (HF.out _ ((H0.out.drewN _).rs (p := p) (by simp))).mono ?_
  rintro e w1 ⟨rfl, hw⟩
  have H1 := hid (show Ct w w1 [] [] [(p, L)] by rw [← hw]; exact H0.out.drewN _); clear hw H0 HF d0 d1 d2 d3
  go_wp2_with fail
  refine (live_any _).mono ?_
  rintro e wl ⟨rfl, hb⟩
  have HL := hid (H1.out.step hb); clear hb
  go_wp2_with fail
  go_ret
  exact ⟨rfl, HL.out.below⟩
set_option maxRecDepth 100000 in
set_option maxHeartbeats 4000000 in
theorem back_dim0 (L : List Rec) (p : Option Addr) (c : Nat) (s : ByteArray) (d m : Int) (w : World) (hp : Rs (fun _ => False) w p L) (hl : L.length ≤ 9223372036854775807) (hf : fewB L = true) (hs : s.size ≤ 300) (hd : d < 1) :
    Calls Try.prog 6 #[.agg #[.slice p L.length c, .string s, .int .i64 d, .int .i64 m]] w fun e w' => e = .returned (.bool true) ∧ Below w.heap.size w w' := by
  obtain ⟨d0, d1, d2, d3⟩ := case_cells w p L.length c s d m
  have H0 := hid (((Ct.start w).list hp).alloc (caseO p L.length c s d m))
  have HF := hid fun (V : World) (h : Rs (fun _ => False) V p L) => few_ok L p c V h hl
  rw [hf] at HF
  have e1 : decide (300 < (s.size : Int)) = false := by simp; omega
  have e2 : decide (300 < s.size) = false := by simp; omega
  have e3 : decide (d < 1) = true := by simp; omega
  clear hp hf hl
  obtain ⟨V0, hV0⟩ : ∃ V, w.alloc (caseO p L.length c s d m) = V := ⟨_, rfl⟩
  rw [hV0] at d0 d1 d2 d3 H0
  have HV := hid hV0
  go_enter Try.func6, Try.ntmps6
  unfold caseO at hV0
  go_wp2_with fail
  try rw [hV0]
  clear hV0 HV
  go_quiet (fail)
  go_wp2_with fail
  refine (HF.out _ ((H0.out.drewN _).rs (p := p) (by simp))).mono ?_
  rintro e w1 ⟨rfl, hw⟩
  have H1 := hid (show Ct w w1 [] [] [(p, L)] by rw [← hw]; exact H0.out.drewN _); clear hw H0 HF d0 d1 d2 d3
  go_wp2_with fail
  refine (live_any _).mono ?_
  rintro e wl ⟨rfl, hb⟩
  have HL := hid (H1.out.step hb); clear hb
  go_wp2_with fail
  go_ret
  exact ⟨rfl, HL.out.below⟩
set_option maxRecDepth 100000 in
set_option maxHeartbeats 4000000 in
theorem back_dim6 (L : List Rec) (p : Option Addr) (c : Nat) (s : ByteArray) (d m : Int) (w : World) (hp : Rs (fun _ => False) w p L) (hl : L.length ≤ 9223372036854775807) (hf : fewB L = true) (hs : s.size ≤ 300) (hd : 1 ≤ d) (hd6 : 6 < d) :
    Calls Try.prog 6 #[.agg #[.slice p L.length c, .string s, .int .i64 d, .int .i64 m]] w fun e w' => e = .returned (.bool true) ∧ Below w.heap.size w w' := by
  obtain ⟨d0, d1, d2, d3⟩ := case_cells w p L.length c s d m
  have H0 := hid (((Ct.start w).list hp).alloc (caseO p L.length c s d m))
  have HF := hid fun (V : World) (h : Rs (fun _ => False) V p L) => few_ok L p c V h hl
  rw [hf] at HF
  have e1 : decide (300 < (s.size : Int)) = false := by simp; omega
  have e2 : decide (300 < s.size) = false := by simp; omega
  have e3 : decide (d < 1) = false := by simp; omega
  have e4 : decide (6 < d) = true := by simp; omega
  clear hp hf hl
  obtain ⟨V0, hV0⟩ : ∃ V, w.alloc (caseO p L.length c s d m) = V := ⟨_, rfl⟩
  rw [hV0] at d0 d1 d2 d3 H0
  have HV := hid hV0
  go_enter Try.func6, Try.ntmps6
  unfold caseO at hV0
  go_wp2_with fail
  try rw [hV0]
  clear hV0 HV
  go_quiet (fail)
  go_wp2_with fail
  refine (HF.out _ ((H0.out.drewN _).rs (p := p) (by simp))).mono ?_
  rintro e w1 ⟨rfl, hw⟩
  have H1 := hid (show Ct w w1 [] [] [(p, L)] by rw [← hw]; exact H0.out.drewN _); clear hw H0 HF d0 d1 d2 d3
  go_wp2_with fail
  refine (live_any _).mono ?_
  rintro e wl ⟨rfl, hb⟩
  have HL := hid (H1.out.step hb); clear hb
  go_wp2_with fail
  go_ret
  exact ⟨rfl, HL.out.below⟩
set_option maxRecDepth 100000 in
set_option maxHeartbeats 4000000 in
theorem back_yes_no (L : List Rec) (p : Option Addr) (c : Nat) (s : ByteArray) (d m : Int) (w : World) (hp : Rs (fun _ => False) w p L) (hl : L.length ≤ 9223372036854775807) (hf : fewB L = true) (hs : s.size ≤ 300) (hd : 1 ≤ d ∧ d ≤ 6) (hok : encOk L d m = true) (hn : (decR s d m).2 ≠ 0) :
    Calls Try.prog 6 #[.agg #[.slice p L.length c, .string s, .int .i64 d, .int .i64 m]] w fun e w' => e = .returned (.bool true) ∧ Below w.heap.size w w' := by
  obtain ⟨d0, d1, d2, d3⟩ := case_cells w p L.length c s d m
  have H0 := hid (((Ct.start w).list hp).alloc (caseO p L.length c s d m))
  have HF := hid fun (V : World) (h : Rs (fun _ => False) V p L) => few_ok L p c V h hl
  rw [hf] at HF
  have hbig := fewR_big (fewB_iff.1 hf)
  have e1 : decide (300 < (s.size : Int)) = false := by simp; omega
  have e2 : decide (300 < s.size) = false := by simp; omega
  have e3 : decide (d < 1) = false := by simp; omega
  have e4 : decide (6 < d) = false := by simp; omega
  have HE := hid fun (V : World) (h : Rs (fun _ => False) V p L) => (show Calls Try.prog 11 #[.slice p L.length c, .int .i64 d, .int .i64 m] V fun e w' => e = .returned (.tuple #[.string (encS L d m), .int .i64 0]) ∧ Below V.heap.size V w' from by
    have := encode_ok L p c d m V h hbig
    rw [hok] at this
    exact this)
  have hsz := enc_size hok
  have h230 := fits_230 (by have h0 := hok; unfold encOk at h0; simp only [Bool.and_eq_true] at h0; exact h0.2.2.2) (by have h0 := hok; unfold encOk at h0; simp only [Bool.and_eq_true] at h0; exact h0.2.2.1)
  have hbk := dec_back hok hd (fit_of hp)
  obtain ⟨T, hT⟩ : ∃ T, encS L d m = T := ⟨_, rfl⟩
  rw [hT] at HE hsz hbk
  have HD := hid fun (V : World) => (show Calls Try.prog 17 #[.string T, .int .i64 d, .int .i64 m] V fun e w' => ∃ p c, e = .returned (.tuple #[.slice p L.length c, .int .i64 0]) ∧ Rs (Lt V.heap.size) w' p L ∧ Below V.heap.size V w' from by
    have := decode_ok T d m V (by omega)
    rw [hbk] at this
    exact this.mono fun e w' ⟨p, c, h1, _, _, h4, h5⟩ => ⟨p, c, h1, h4, h5⟩)
  have HS := hid fun (V : World) (p1 : Option Addr) (c1 : Nat) (h1 : Rs (fun _ => False) V p1 L) (h2 : Rs (fun _ => False) V p L) => (show Calls Try.prog 19 #[.slice p1 L.length c1, .slice p L.length c] V fun e w' => e = .returned (.bool true) ∧ ∃ n, w' = V.drewN n from by
    have := sameR_ok L L p1 p c1 c V h1 h2 hbig
    rw [decide_eq_true (rfl : L = L)] at this
    exact this)
  have HZ := hid fun (V : World) (h : Rs (fun _ => False) V p L) => (show Calls Try.prog 13 #[.slice p L.length c] V fun e w' => e = .returned (.int .i64 (T.size : Int)) ∧ Below V.heap.size V w' from by
    rw [hsz]; exact size_ok L p c V h hbig)
  have e5 : decide (230 < (T.size : Int)) = false := by simp; omega
  have e6 : decide (230 < T.size) = false := by simp; omega
  have hk0 := dec_none_len hn
  have HK := hid fun (V : World) => (show Calls Try.prog 17 #[.string s, .int .i64 d, .int .i64 m] V fun e w' => ∃ p c, e = .returned (.tuple #[.slice p 0 c, .int .i64 (decR s d m).2]) ∧ Below V.heap.size V w' from by
    have := decode_ok s d m V (by omega)
    refine this.mono fun e w' ⟨p, c, h1, _, _, h4, h5⟩ => ⟨p, c, ?_, h5⟩
    rw [h1, hk0]; rfl)
  obtain ⟨n, hnn⟩ : ∃ n, (decR s d m).2 = n := ⟨_, rfl⟩
  rw [hnn] at HK hn
  have e7 : (n == 0) = false := by simpa using hn
  have e8 : decide (n = 0) = false := by simpa using hn
  clear hp hf hl hbig hT hok hsz h230 hbk hn hnn hk0
  obtain ⟨V0, hV0⟩ : ∃ V, w.alloc (caseO p L.length c s d m) = V := ⟨_, rfl⟩
  rw [hV0] at d0 d1 d2 d3 H0
  have HV := hid hV0
  go_enter Try.func6, Try.ntmps6
  unfold caseO at hV0
  go_wp2_with fail
  try rw [hV0]
  clear hV0 HV
  go_quiet (fail)
  go_wp2_with fail
  refine (HF.out _ ((H0.out.drewN _).rs (p := p) (by simp))).mono ?_
  rintro e w1 ⟨rfl, hw⟩
  have H1 := hid (show Ct w w1 [] [] [(p, L)] by rw [← hw]; exact H0.out.drewN _); clear hw H0 HF d0 d1 d2 d3
  go_wp2_with fail
  refine (HE.out _ (H1.out.rs (p := p) (by simp))).mono ?_
  rintro e w2 ⟨rfl, hb⟩
  have H2 := hid (H1.out.step hb); clear hb H1 HE
  go_wp2_with fail
  refine (HD.out _).mono ?_
  rintro e w3 ⟨p3, c3, rfl, hr, hb⟩
  have H3 := hid ((H2.out.step hb).list hr); clear hb hr H2 HD
  go_wp2_with fail
  refine (HS.out _ _ _ (H3.out.rs (p := p3) (by simp)) (H3.out.rs (p := p) (L := L) (by simp))).mono ?_
  rintro e w4 ⟨rfl, m4, hw4⟩
  have H4 := hid (H3.out.step (V' := w4) (by rw [hw4]; exact below_drewN (Below.refl _ _) m4)); clear hw4 H3 HS
  go_wp2_with fail
  refine (HZ.out _ (H4.out.rs (p := p) (L := L) (by simp))).mono ?_
  rintro e w5 ⟨rfl, hb⟩
  have H5 := hid (Ct.step ((Ct.start w).step H4.out.below) hb); clear hb H4 HZ
  go_wp2_with fail
  refine (HK.out _).mono ?_
  rintro e w6 ⟨p6, c6, rfl, hb⟩
  have H6 := hid (H5.out.step hb); clear hb H5 HK
  go_wp2_with fail
  refine (live_any _).mono ?_
  rintro e wl ⟨rfl, hb⟩
  have HL := hid (H6.out.step hb); clear hb
  go_wp2_with fail
  go_ret
  exact ⟨rfl, HL.out.below⟩
set_option maxRecDepth 100000 in
set_option maxHeartbeats 4000000 in
theorem back_yes_yes (L : List Rec) (p : Option Addr) (c : Nat) (s : ByteArray) (d m : Int) (w : World) (hp : Rs (fun _ => False) w p L) (hl : L.length ≤ 9223372036854775807) (hf : fewB L = true) (hs : s.size ≤ 300) (hd : 1 ≤ d ∧ d ≤ 6) (hok : encOk L d m = true) (hn : (decR s d m).2 = 0) :
    Calls Try.prog 6 #[.agg #[.slice p L.length c, .string s, .int .i64 d, .int .i64 m]] w fun e w' => e = .returned (.bool true) ∧ Below w.heap.size w w' := by
  obtain ⟨d0, d1, d2, d3⟩ := case_cells w p L.length c s d m
  have H0 := hid (((Ct.start w).list hp).alloc (caseO p L.length c s d m))
  have HF := hid fun (V : World) (h : Rs (fun _ => False) V p L) => few_ok L p c V h hl
  rw [hf] at HF
  have hbig := fewR_big (fewB_iff.1 hf)
  have e1 : decide (300 < (s.size : Int)) = false := by simp; omega
  have e2 : decide (300 < s.size) = false := by simp; omega
  have e3 : decide (d < 1) = false := by simp; omega
  have e4 : decide (6 < d) = false := by simp; omega
  have HE := hid fun (V : World) (h : Rs (fun _ => False) V p L) => (show Calls Try.prog 11 #[.slice p L.length c, .int .i64 d, .int .i64 m] V fun e w' => e = .returned (.tuple #[.string (encS L d m), .int .i64 0]) ∧ Below V.heap.size V w' from by
    have := encode_ok L p c d m V h hbig
    rw [hok] at this
    exact this)
  have hsz := enc_size hok
  have h230 := fits_230 (by have h0 := hok; unfold encOk at h0; simp only [Bool.and_eq_true] at h0; exact h0.2.2.2) (by have h0 := hok; unfold encOk at h0; simp only [Bool.and_eq_true] at h0; exact h0.2.2.1)
  have hbk := dec_back hok hd (fit_of hp)
  obtain ⟨T, hT⟩ : ∃ T, encS L d m = T := ⟨_, rfl⟩
  rw [hT] at HE hsz hbk
  have HD := hid fun (V : World) => (show Calls Try.prog 17 #[.string T, .int .i64 d, .int .i64 m] V fun e w' => ∃ p c, e = .returned (.tuple #[.slice p L.length c, .int .i64 0]) ∧ Rs (Lt V.heap.size) w' p L ∧ Below V.heap.size V w' from by
    have := decode_ok T d m V (by omega)
    rw [hbk] at this
    exact this.mono fun e w' ⟨p, c, h1, _, _, h4, h5⟩ => ⟨p, c, h1, h4, h5⟩)
  have HS := hid fun (V : World) (p1 : Option Addr) (c1 : Nat) (h1 : Rs (fun _ => False) V p1 L) (h2 : Rs (fun _ => False) V p L) => (show Calls Try.prog 19 #[.slice p1 L.length c1, .slice p L.length c] V fun e w' => e = .returned (.bool true) ∧ ∃ n, w' = V.drewN n from by
    have := sameR_ok L L p1 p c1 c V h1 h2 hbig
    rw [decide_eq_true (rfl : L = L)] at this
    exact this)
  have HZ := hid fun (V : World) (h : Rs (fun _ => False) V p L) => (show Calls Try.prog 13 #[.slice p L.length c] V fun e w' => e = .returned (.int .i64 (T.size : Int)) ∧ Below V.heap.size V w' from by
    rw [hsz]; exact size_ok L p c V h hbig)
  have e5 : decide (230 < (T.size : Int)) = false := by simp; omega
  have e6 : decide (230 < T.size) = false := by simp; omega
  obtain ⟨hek, hes⟩ := enc_back hn
  have hbk2 := dec_big s d m
  have HK := hid fun (V : World) => (show Calls Try.prog 17 #[.string s, .int .i64 d, .int .i64 m] V fun e w' => ∃ p c, e = .returned (.tuple #[.slice p (decR s d m).1.length c, .int .i64 0]) ∧ Rs (Lt V.heap.size) w' p (decR s d m).1 ∧ Below V.heap.size V w' from by
    have := decode_ok s d m V (by omega)
    refine this.mono fun e w' ⟨p, c, h1, _, _, h4, h5⟩ => ⟨p, c, ?_, h4, h5⟩
    rw [h1, hn])
  obtain ⟨K, hK⟩ : ∃ K, (decR s d m).1 = K := ⟨_, rfl⟩
  rw [hK] at HK hek hes hbk2
  have HEK := hid fun (V : World) (p3 : Option Addr) (c3 : Nat) (h : Rs (fun _ => False) V p3 K) => (show Calls Try.prog 11 #[.slice p3 K.length c3, .int .i64 d, .int .i64 m] V fun e w' => e = .returned (.tuple #[.string s, .int .i64 0]) ∧ Below V.heap.size V w' from by
    have := encode_ok K p3 c3 d m V h hbk2
    rw [hek, hes] at this
    exact this)
  have e7 : (s.toList == s.toList) = true := by simp
  clear hp hf hl hbig hT hok hsz h230 hbk hn hek hes hbk2 hK
  obtain ⟨V0, hV0⟩ : ∃ V, w.alloc (caseO p L.length c s d m) = V := ⟨_, rfl⟩
  rw [hV0] at d0 d1 d2 d3 H0
  have HV := hid hV0
  go_enter Try.func6, Try.ntmps6
  unfold caseO at hV0
  go_wp2_with fail
  try rw [hV0]
  clear hV0 HV
  go_quiet (fail)
  go_wp2_with fail
  refine (HF.out _ ((H0.out.drewN _).rs (p := p) (by simp))).mono ?_
  rintro e w1 ⟨rfl, hw⟩
  have H1 := hid (show Ct w w1 [] [] [(p, L)] by rw [← hw]; exact H0.out.drewN _); clear hw H0 HF d0 d1 d2 d3
  go_wp2_with fail
  refine (HE.out _ (H1.out.rs (p := p) (by simp))).mono ?_
  rintro e w2 ⟨rfl, hb⟩
  have H2 := hid (H1.out.step hb); clear hb H1 HE
  go_wp2_with fail
  refine (HD.out _).mono ?_
  rintro e w3 ⟨p3, c3, rfl, hr, hb⟩
  have H3 := hid ((H2.out.step hb).list hr); clear hb hr H2 HD
  go_wp2_with fail
  refine (HS.out _ _ _ (H3.out.rs (p := p3) (by simp)) (H3.out.rs (p := p) (L := L) (by simp))).mono ?_
  rintro e w4 ⟨rfl, m4, hw4⟩
  have H4 := hid (H3.out.step (V' := w4) (by rw [hw4]; exact below_drewN (Below.refl _ _) m4)); clear hw4 H3 HS
  go_wp2_with fail
  refine (HZ.out _ (H4.out.rs (p := p) (L := L) (by simp))).mono ?_
  rintro e w5 ⟨rfl, hb⟩
  have H5 := hid (Ct.step ((Ct.start w).step H4.out.below) hb); clear hb H4 HZ
  go_wp2_with fail
  refine (HK.out _).mono ?_
  rintro e w6 ⟨p6, c6, rfl, hr, hb⟩
  have H6 := hid ((H5.out.step hb).list hr); clear hb hr H5 HK
  go_wp2_with fail
  refine (HEK.out _ p6 c6 (H6.out.rs (p := p6) (L := K) (by simp))).mono ?_
  rintro e w7 ⟨rfl, hb⟩
  have H7 := hid (H6.out.step hb); clear hb H6 HEK
  go_wp2_with fail
  refine (live_any _).mono ?_
  rintro e wl ⟨rfl, hb⟩
  have HL := hid (H7.out.step hb); clear hb
  go_wp2_with fail
  go_ret
  exact ⟨rfl, HL.out.below⟩
set_option maxRecDepth 100000 in
set_option maxHeartbeats 4000000 in
theorem back_no_no (L : List Rec) (p : Option Addr) (c : Nat) (s : ByteArray) (d m : Int) (w : World) (hp : Rs (fun _ => False) w p L) (hl : L.length ≤ 9223372036854775807) (hf : fewB L = true) (hs : s.size ≤ 300) (hd : 1 ≤ d ∧ d ≤ 6) (hok : encOk L d m = false) (hn : (decR s d m).2 ≠ 0) :
    Calls Try.prog 6 #[.agg #[.slice p L.length c, .string s, .int .i64 d, .int .i64 m]] w fun e w' => e = .returned (.bool true) ∧ Below w.heap.size w w' := by
  obtain ⟨d0, d1, d2, d3⟩ := case_cells w p L.length c s d m
  have H0 := hid (((Ct.start w).list hp).alloc (caseO p L.length c s d m))
  have HF := hid fun (V : World) (h : Rs (fun _ => False) V p L) => few_ok L p c V h hl
  rw [hf] at HF
  have hbig := fewR_big (fewB_iff.1 hf)
  have e1 : decide (300 < (s.size : Int)) = false := by simp; omega
  have e2 : decide (300 < s.size) = false := by simp; omega
  have e3 : decide (d < 1) = false := by simp; omega
  have e4 : decide (6 < d) = false := by simp; omega
  have HE := hid fun (V : World) (h : Rs (fun _ => False) V p L) => (show Calls Try.prog 11 #[.slice p L.length c, .int .i64 d, .int .i64 m] V fun e w' => e = .returned (.tuple #[.string (encS L d m), .int .i64 1]) ∧ Below V.heap.size V w' from by
    have := encode_ok L p c d m V h hbig
    rw [hok] at this
    exact this)
  obtain ⟨T, hT⟩ : ∃ T, encS L d m = T := ⟨_, rfl⟩
  rw [hT] at HE
  have hk0 := dec_none_len hn
  have HK := hid fun (V : World) => (show Calls Try.prog 17 #[.string s, .int .i64 d, .int .i64 m] V fun e w' => ∃ p c, e = .returned (.tuple #[.slice p 0 c, .int .i64 (decR s d m).2]) ∧ Below V.heap.size V w' from by
    have := decode_ok s d m V (by omega)
    refine this.mono fun e w' ⟨p, c, h1, _, _, h4, h5⟩ => ⟨p, c, ?_, h5⟩
    rw [h1, hk0]; rfl)
  obtain ⟨n, hnn⟩ : ∃ n, (decR s d m).2 = n := ⟨_, rfl⟩
  rw [hnn] at HK hn
  have e7 : (n == 0) = false := by simpa using hn
  have e8 : decide (n = 0) = false := by simpa using hn
  clear hp hf hl hbig hT hok hn hnn hk0
  obtain ⟨V0, hV0⟩ : ∃ V, w.alloc (caseO p L.length c s d m) = V := ⟨_, rfl⟩
  rw [hV0] at d0 d1 d2 d3 H0
  have HV := hid hV0
  go_enter Try.func6, Try.ntmps6
  unfold caseO at hV0
  go_wp2_with fail
  try rw [hV0]
  clear hV0 HV
  go_quiet (fail)
  go_wp2_with fail
  refine (HF.out _ ((H0.out.drewN _).rs (p := p) (by simp))).mono ?_
  rintro e w1 ⟨rfl, hw⟩
  have H1 := hid (show Ct w w1 [] [] [(p, L)] by rw [← hw]; exact H0.out.drewN _); clear hw H0 HF d0 d1 d2 d3
  go_wp2_with fail
  refine (HE.out _ (H1.out.rs (p := p) (by simp))).mono ?_
  rintro e w2 ⟨rfl, hb⟩
  have H5 := hid (Ct.step ((Ct.start w).step H1.out.below) hb); clear hb H1 HE
  go_wp2_with fail
  refine (HK.out _).mono ?_
  rintro e w6 ⟨p6, c6, rfl, hb⟩
  have H6 := hid (H5.out.step hb); clear hb H5 HK
  go_wp2_with fail
  refine (live_any _).mono ?_
  rintro e wl ⟨rfl, hb⟩
  have HL := hid (H6.out.step hb); clear hb
  go_wp2_with fail
  go_ret
  exact ⟨rfl, HL.out.below⟩
set_option maxRecDepth 100000 in
set_option maxHeartbeats 4000000 in
theorem back_no_yes (L : List Rec) (p : Option Addr) (c : Nat) (s : ByteArray) (d m : Int) (w : World) (hp : Rs (fun _ => False) w p L) (hl : L.length ≤ 9223372036854775807) (hf : fewB L = true) (hs : s.size ≤ 300) (hd : 1 ≤ d ∧ d ≤ 6) (hok : encOk L d m = false) (hn : (decR s d m).2 = 0) :
    Calls Try.prog 6 #[.agg #[.slice p L.length c, .string s, .int .i64 d, .int .i64 m]] w fun e w' => e = .returned (.bool true) ∧ Below w.heap.size w w' := by
  obtain ⟨d0, d1, d2, d3⟩ := case_cells w p L.length c s d m
  have H0 := hid (((Ct.start w).list hp).alloc (caseO p L.length c s d m))
  have HF := hid fun (V : World) (h : Rs (fun _ => False) V p L) => few_ok L p c V h hl
  rw [hf] at HF
  have hbig := fewR_big (fewB_iff.1 hf)
  have e1 : decide (300 < (s.size : Int)) = false := by simp; omega
  have e2 : decide (300 < s.size) = false := by simp; omega
  have e3 : decide (d < 1) = false := by simp; omega
  have e4 : decide (6 < d) = false := by simp; omega
  have HE := hid fun (V : World) (h : Rs (fun _ => False) V p L) => (show Calls Try.prog 11 #[.slice p L.length c, .int .i64 d, .int .i64 m] V fun e w' => e = .returned (.tuple #[.string (encS L d m), .int .i64 1]) ∧ Below V.heap.size V w' from by
    have := encode_ok L p c d m V h hbig
    rw [hok] at this
    exact this)
  obtain ⟨T, hT⟩ : ∃ T, encS L d m = T := ⟨_, rfl⟩
  rw [hT] at HE
  obtain ⟨hek, hes⟩ := enc_back hn
  have hbk2 := dec_big s d m
  have HK := hid fun (V : World) => (show Calls Try.prog 17 #[.string s, .int .i64 d, .int .i64 m] V fun e w' => ∃ p c, e = .returned (.tuple #[.slice p (decR s d m).1.length c, .int .i64 0]) ∧ Rs (Lt V.heap.size) w' p (decR s d m).1 ∧ Below V.heap.size V w' from by
    have := decode_ok s d m V (by omega)
    refine this.mono fun e w' ⟨p, c, h1, _, _, h4, h5⟩ => ⟨p, c, ?_, h4, h5⟩
    rw [h1, hn])
  obtain ⟨K, hK⟩ : ∃ K, (decR s d m).1 = K := ⟨_, rfl⟩
  rw [hK] at HK hek hes hbk2
  have HEK := hid fun (V : World) (p3 : Option Addr) (c3 : Nat) (h : Rs (fun _ => False) V p3 K) => (show Calls Try.prog 11 #[.slice p3 K.length c3, .int .i64 d, .int .i64 m] V fun e w' => e = .returned (.tuple #[.string s, .int .i64 0]) ∧ Below V.heap.size V w' from by
    have := encode_ok K p3 c3 d m V h hbk2
    rw [hek, hes] at this
    exact this)
  have e7 : (s.toList == s.toList) = true := by simp
  clear hp hf hl hbig hT hok hn hek hes hbk2 hK
  obtain ⟨V0, hV0⟩ : ∃ V, w.alloc (caseO p L.length c s d m) = V := ⟨_, rfl⟩
  rw [hV0] at d0 d1 d2 d3 H0
  have HV := hid hV0
  go_enter Try.func6, Try.ntmps6
  unfold caseO at hV0
  go_wp2_with fail
  try rw [hV0]
  clear hV0 HV
  go_quiet (fail)
  go_wp2_with fail
  refine (HF.out _ ((H0.out.drewN _).rs (p := p) (by simp))).mono ?_
  rintro e w1 ⟨rfl, hw⟩
  have H1 := hid (show Ct w w1 [] [] [(p, L)] by rw [← hw]; exact H0.out.drewN _); clear hw H0 HF d0 d1 d2 d3
  go_wp2_with fail
  refine (HE.out _ (H1.out.rs (p := p) (by simp))).mono ?_
  rintro e w2 ⟨rfl, hb⟩
  have H5 := hid (Ct.step ((Ct.start w).step H1.out.below) hb); clear hb H1 HE
  go_wp2_with fail
  refine (HK.out _).mono ?_
  rintro e w6 ⟨p6, c6, rfl, hr, hb⟩
  have H6 := hid ((H5.out.step hb).list hr); clear hb hr H5 HK
  go_wp2_with fail
  refine (HEK.out _ p6 c6 (H6.out.rs (p := p6) (L := K) (by simp))).mono ?_
  rintro e w7 ⟨rfl, hb⟩
  have H7 := hid (H6.out.step hb); clear hb H6 HEK
  go_wp2_with fail
  refine (live_any _).mono ?_
  rintro e wl ⟨rfl, hb⟩
  have HL := hid (H7.out.step hb); clear hb
  go_wp2_with fail
  go_ret
  exact ⟨rfl, HL.out.below⟩
theorem BucketBack_walk (v : Value) (w : World) (h : CaseV w v) :
    Calls Try.prog 6 #[v] w fun e w' => e = .returned (.bool true) ∧ Below w.heap.size w w' := by
  obtain ⟨p, L, c, s, d, m, rfl, hp, hc, hc2, hs2⟩ := h
  have hl : L.length ≤ 9223372036854775807 := by omega
  cases hf : fewB L with
  | false => exact back_few L p c s d m w hp hl hf
  | true =>
    by_cases hs : s.size ≤ 300
    · by_cases h1 : 1 ≤ d
      · by_cases h6 : d ≤ 6
        · cases hok : encOk L d m with
          | true =>
            by_cases hn : (decR s d m).2 = 0
            · exact back_yes_yes L p c s d m w hp hl hf hs ⟨h1, h6⟩ hok hn
            · exact back_yes_no L p c s d m w hp hl hf hs ⟨h1, h6⟩ hok hn
          | false =>
            by_cases hn : (decR s d m).2 = 0
            · exact back_no_yes L p c s d m w hp hl hf hs ⟨h1, h6⟩ hok hn
            · exact back_no_no L p c s d m w hp hl hf hs ⟨h1, h6⟩ hok hn
        · exact back_dim6 L p c s d m w hp hl hf hs h1 (by omega)
      · exact back_dim0 L p c s d m w hp hl hf hs (by omega)
    · exact back_long L p c s d m w hp hl hf hs2 hs
end Go.Proofs.Ytjgjfcidfcfajaa
