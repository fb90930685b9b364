/- PartBack walked: a bucket that is split is put together again. -/
import Derived.Test.YtkjcbfdplhcjpaaPtAllW
import Derived.Test.YtkjcbfdplhcjpaaBkIs
namespace Go.Proofs.Ytkjcbfdplhcjpaa.Pt
open Go.RowKit
open Go.Lib (hid)
open Go.Proofs.Ytkjcbfdplhcjpaa.Ky
open Go.Proofs.Ytkjcbfdplhcjpaa.Bk

/-- how many coordinates the first one has -/
def dimR : List Rec → Int
  | [] => 1
  | r :: _ => (r.1.length : Int)
set_option maxRecDepth 100000 in
set_option maxHeartbeats 1000000 in
theorem dim_ok {D : Nat → Prop} (L : List Rec) (p : Option Addr) (c : Nat) (w : World) (hp : Rs D w p L) (hl : bigR L) :
    Calls Try.prog 54 #[.slice p L.length c] w fun e w' => e = .returned (.int .i64 (dimR L)) ∧ w = w' := by
  cases L with
  | nil =>
    go_enter Try.func54, Try.ntmps54
    go_wp2_with fail
    go_ret
    exact ⟨rfl, rfl⟩
  | cons r L =>
    have HD : Hid (dimR (r :: L) = (r.1.length : Int)) := hid rfl
    obtain ⟨b, off, q, c1, rfl, _, d1, _, _⟩ := hp.at 0 (by simp)
    have d1' : w.cell? ⟨b, off, none⟩ = some (.slice q r.1.length c1) := by simpa using d1
    obtain ⟨n, hn⟩ : ∃ n, (r :: L).length = n := ⟨_, rfl⟩
    have h0 : 0 < n := by rw [← hn]; simp
    have e1 : ((n : Int) == 0) = false := by simp; omega
    have e2 : (n == 0) = false := by simp; omega
    have hlen := hl.1
    rw [hn] at hlen ⊢
    clear hp d1 hn hl
    go_enter Try.func54, Try.ntmps54
    go_wp2_with fail
    go_ret
    rw [HD.out]
    exact ⟨rfl, rfl⟩
/-- of a list that rises, any two parts are put together again -/
theorem merge_parts (f : Rec → Bool) (L : List Rec) (h : upL L) : mergeR (L.filter f) (L.filter fun r => !f r) = L ∧ mergeR (L.filter fun r => !f r) (L.filter f) = L := by
  induction L with
  | nil => exact ⟨merge_left [], merge_left []⟩
  | cons r L ih =>
    unfold upL at h
    rw [List.pairwise_cons] at h
    obtain ⟨h1, h2⟩ := h
    obtain ⟨i1, i2⟩ := ih h2
    have big : ∀ (g : Rec → Bool) (s : Rec), s ∈ L.filter g → cmp r.1 s.1 < 0 := fun g s hs => h1 s (List.mem_filter.1 hs).1
    have step1 : ∀ (A B : List Rec), (∀ s ∈ B, cmp r.1 s.1 < 0) → mergeR (r :: A) B = r :: mergeR A B := fun A B hB => by
      cases B with
      | nil => rw [merge_nil, merge_nil]
      | cons s B => rw [merge_lt (hB s (List.mem_cons_self ..))]
    have step2 : ∀ (A B : List Rec), (∀ s ∈ A, cmp r.1 s.1 < 0) → mergeR A (r :: B) = r :: mergeR A B := fun A B hA => by
      cases A with
      | nil => rw [merge_left, merge_left]
      | cons s A =>
        have := hA s (List.mem_cons_self ..)
        have h3 := cmp_flip s.1 r.1
        rw [merge_gt (by omega)]
    cases hf : f r with
    | true =>
      have e1 : (r :: L).filter f = r :: L.filter f := by rw [List.filter_cons, if_pos hf]
      have e2 : (r :: L).filter (fun r => !f r) = L.filter fun r => !f r := by rw [List.filter_cons, if_neg (by simp [hf])]
      rw [e1, e2, step1 _ _ (big _), step2 _ _ (big _), i1, i2]
      exact ⟨rfl, rfl⟩
    | false =>
      have e1 : (r :: L).filter f = L.filter f := by rw [List.filter_cons, if_neg (by simp [hf])]
      have e2 : (r :: L).filter (fun r => !f r) = r :: L.filter fun r => !f r := by rw [List.filter_cons, if_pos (by simp [hf])]
      rw [e1, e2, step1 _ _ (big _), step2 _ _ (big _), i1, i2]
      exact ⟨rfl, rfl⟩
theorem merge_split (a bd : Nat) (L : List Rec) (h : upL L) : mergeR (lowR a bd L) (othR a bd L) = L ∧ mergeR (othR a bd L) (lowR a bd L) = L := merge_parts (fun r => decide (r.1.getD a 0 < bd)) L h
theorem big_filter (f : Rec → Bool) {L : List Rec} (h : bigR L) : bigR (L.filter f) := ⟨Nat.le_trans (List.length_filter_le _ _) h.1, fun r hr => h.2 r (List.mem_filter.1 hr).1⟩
end Go.Proofs.Ytkjcbfdplhcjpaa.Pt
namespace Go.Proofs.Ytkjcbfdplhcjpaa
open Go.RowKit
open Go.Lib (hid)
open Go.ChangeShapes Go.WideShapes Go.Joins
open Go.Proofs.Ytkjcbfdplhcjpaa.Ky
open Go.Proofs.Ytkjcbfdplhcjpaa.Bk
open Go.Proofs.Ytkjcbfdplhcjpaa.Pt
set_option maxRecDepth 100000 in
theorem PartBack_open0 {H : Type} {enc : TypeId × Value → H} {W : World} {base : Nat} {v : Value} {d : DataW H} {p : List MemPlace} (hv : Value.okWide Try.prog W .any base 40 v) (h : DataW.Trod enc Try.prog W 0 (fun _ => true) true 40 v d p) : RecsV W v := open_recs hv h
set_option maxRecDepth 100000 in
set_option maxHeartbeats 1000000 in
theorem back_few (L : List Rec) (p : Option Addr) (c : Nat) (a bd : Int) (w : World) (hp : Rs (fun _ => False) w p L) (hl : L.length ≤ 9223372036854775807) (hf : fewB L = false) :
    Calls Try.prog 11 #[.slice p L.length c, .int .i64 a, .int .u32 bd] w fun e w' => e = .returned (.bool true) ∧ Below w.heap.size w w' := by
  have HF := hid (few_ok L p c _ hp hl)
  rw [hf] at HF
  clear hp hl hf
  go_enter Try.func11, Try.ntmps11
  go_wp2_with fail
  refine HF.out.mono ?_
  rintro e w1 ⟨rfl, rfl⟩
  go_wp2_with fail
  refine (Pt.live_any _).mono ?_
  rintro e w2 ⟨rfl, hb⟩
  have H1 := hid hb; clear hb
  go_wp2_with fail
  go_ret
  exact ⟨rfl, H1.out⟩
set_option maxRecDepth 100000 in
set_option maxHeartbeats 1000000 in
theorem back_is (L : List Rec) (p : Option Addr) (c : Nat) (a bd : Int) (w : World) (hp : Rs (fun _ => False) w p L) (hl : L.length ≤ 9223372036854775807) (hf : fewB L = true) (hi : isBb L (dimR L) = false) :
    Calls Try.prog 11 #[.slice p L.length c, .int .i64 a, .int .u32 bd] w fun e w' => e = .returned (.bool true) ∧ Below w.heap.size w w' := by
  have HF := hid (few_ok L p c _ hp hl)
  rw [hf] at HF
  have hbig := fewR_big (fewB_iff.1 hf)
  have HD := hid (dim_ok L p c w hp hbig)
  have HI := hid (is_ok L p c (dimR L) w hp hbig)
  rw [hi] at HI
  clear hp hl hf hi hbig
  generalize dimR L = d at HD HI
  go_enter Try.func11, Try.ntmps11
  go_wp2_with fail
  refine HF.out.mono ?_
  rintro e w1 ⟨rfl, rfl⟩
  go_wp2_with fail
  refine HD.out.mono ?_
  rintro e w1 ⟨rfl, rfl⟩
  go_wp2_with fail
  refine HI.out.mono ?_
  rintro e w2 ⟨rfl, hb⟩
  have H1 := hid hb; clear hb
  go_wp2_with fail
  refine (Pt.live_any _).mono ?_
  rintro e w3 ⟨rfl, hb⟩
  have H2 := hid (H1.out.trans (hb.mono H1.out.size)); clear hb
  go_wp2_with fail
  go_ret
  exact ⟨rfl, H2.out⟩
set_option maxRecDepth 100000 in
set_option maxHeartbeats 2000000 in
theorem back_bad (L : List Rec) (p : Option Addr) (c : Nat) (a : Int) (bd : Nat) (w : World) (hp : Rs (fun _ => False) w p L) (hl : L.length ≤ 9223372036854775807) (hf : fewB L = true) (hi : isBb L (dimR L) = true) (ha : a ≤ 9223372036854775807) (hh : hasAt L a = false) :
    Calls Try.prog 11 #[.slice p L.length c, .int .i64 a, .int .u32 (bd : Int)] w fun e w' => e = .returned (.bool true) ∧ Below w.heap.size w w' := by
  have HF := hid (few_ok L p c _ hp hl)
  rw [hf] at HF
  have hbig := fewR_big (fewB_iff.1 hf)
  have HD := hid (dim_ok L p c w hp hbig)
  have HI := hid (is_ok L p c (dimR L) w hp hbig)
  rw [hi] at HI
  have HS := hid fun (V : World) (hb : Below w.heap.size w V) => split_ok L p c a bd V (hp.below hb) hbig ha
  rw [show splitR L a bd = ([], [], 1) by unfold splitR; rw [hh]; rfl] at HS
  clear hp hl hf hi hbig hh ha
  generalize dimR L = d at HD HI
  go_enter Try.func11, Try.ntmps11
  go_wp2_with fail
  refine HF.out.mono ?_
  rintro e w1 ⟨rfl, rfl⟩
  go_wp2_with fail
  refine HD.out.mono ?_
  rintro e w1 ⟨rfl, rfl⟩
  go_wp2_with fail
  refine HI.out.mono ?_
  rintro e w2 ⟨rfl, hb⟩
  have H1 := hid hb; clear hb
  go_wp2_with fail
  refine (HS.out _ H1.out).mono ?_
  rintro e w3 ⟨p1, c1, p2, c2, rfl, _, _, _, hb⟩
  have H2 := hid (H1.out.trans (hb.mono H1.out.size)); clear hb
  simp only [List.length_nil]
  go_wp2_with fail
  refine (Pt.live_any _).mono ?_
  rintro e w4 ⟨rfl, hb⟩
  have H3 := hid (H2.out.trans (hb.mono H2.out.size)); clear hb
  go_wp2_with fail
  go_ret
  exact ⟨rfl, H3.out⟩
set_option maxRecDepth 100000 in
set_option maxHeartbeats 4000000 in
theorem back_go (L : List Rec) (p : Option Addr) (c a bd : Nat) (A : Int) (w : World) (hp : Rs (fun _ => False) w p L) (hl : L.length ≤ c) (hc : c ≤ 9223372036854775807) (hf : fewB L = true) (hi : isBb L (dimR L) = true) (ha : A ≤ 9223372036854775807) (hh : hasAt L A = true) (hA : L = [] ∨ A = (a : Int)) :
    Calls Try.prog 11 #[.slice p L.length c, .int .i64 A, .int .u32 (bd : Int)] w fun e w' => e = .returned (.bool true) ∧ Below w.heap.size w w' := by
  have HF := hid (few_ok L p c _ hp (by omega))
  rw [hf] at HF
  have hfew := (fewB_iff.1 hf).1
  have hbig := fewR_big (fewB_iff.1 hf)
  have HD := hid (dim_ok L p c w hp hbig)
  have HI := hid (is_ok L p c (dimR L) w hp hbig)
  rw [hi] at HI
  have HS := hid fun (V : World) (g : Rs (fun _ => False) V p L) => split_ok L p c A bd V g hbig ha
  rw [show splitR L A bd = (lowR a bd L, othR a bd L, 0) by
    unfold splitR; rw [hh]
    rcases hA with rfl | rfl <;> rfl] at HS
  have HNE := hid fun (r : Rec) (hr : r ∈ L) => (show A = (a : Int) from hA.elim (fun h => absurd hr (by rw [h]; simp)) id)
  have hup : upL L := (isBb_iff.1 hi).2
  obtain ⟨hm1, hm2⟩ := merge_split a bd L hup
  have hla : ∀ r ∈ L, a < r.1.length := fun r hr => by
    have := List.all_eq_true.1 hh r hr
    rw [HNE.out r hr] at this
    simp at this; omega
  have HML := hid fun (r : Rec) (hr : r ∈ lowR a bd L) => (show A = (a : Int) ∧ ∃ h : a < r.1.length, r.1[a] < bd from by
    have h1 := List.mem_filter.1 hr
    have h2 := hla r h1.1
    refine ⟨HNE.out r h1.1, h2, ?_⟩
    have h3 := h1.2
    rw [decide_eq_true_eq, List.getD_eq_getElem?_getD, List.getElem?_eq_getElem h2] at h3
    exact h3)
  have HMO := hid fun (r : Rec) (hr : r ∈ othR a bd L) => (show A = (a : Int) ∧ ∃ h : a < r.1.length, ¬ r.1[a] < bd from by
    have h1 := List.mem_filter.1 hr
    have h2 := hla r h1.1
    refine ⟨HNE.out r h1.1, h2, ?_⟩
    have h3 := h1.2
    rw [Bool.not_eq_true', decide_eq_false_iff_not, List.getD_eq_getElem?_getD, List.getElem?_eq_getElem h2] at h3
    exact h3)
  have hb1 : bigR (lowR a bd L) := big_filter _ hbig
  have hb2 : bigR (othR a bd L) := big_filter _ hbig
  have hl1 := low_len a bd L
  have hl2 := oth_len a bd L
  have H0 := hid ((Cp.start w).list hp)
  have HBG := hid hbig
  have HB1 := hid hb1; have HB2 := hid hb2
  obtain ⟨M1, hM1⟩ : ∃ M1, lowR a bd L = M1 := ⟨_, rfl⟩
  obtain ⟨M2, hM2⟩ : ∃ M2, othR a bd L = M2 := ⟨_, rfl⟩
  rw [hM1] at HML HB1 hl1
  rw [hM2] at HMO HB2 hl2
  rw [hM1, hM2] at HS hm1 hm2
  have HQ1 := hid fun (V : World) (q1 q2 : Option Addr) (k1 k2 : Nat) (g : Rs (fun _ => False) V q1 M1) (g' : Rs (fun _ => False) V q2 M2) (z : M1.length ≤ k1) (z' : M2.length ≤ k2) => merge_ok M1 M2 q1 q2 k1 k2 V g g' HB1.out HB2.out (by omega) z z'
  have HQ2 := hid fun (V : World) (q1 q2 : Option Addr) (k1 k2 : Nat) (g : Rs (fun _ => False) V q1 M2) (g' : Rs (fun _ => False) V q2 M1) (z : M2.length ≤ k1) (z' : M1.length ≤ k2) => merge_ok M2 M1 q1 q2 k1 k2 V g g' HB2.out HB1.out (by omega) z z'
  rw [hm1] at HQ1
  rw [hm2] at HQ2
  have HL1 := hid hl1; have HL2 := hid hl2; have HFW := hid hfew
  clear hp hl hf hi hbig hh ha hup hm1 hm2 hla hb1 hb2 hl1 hl2 hM1 hM2 hfew hc
  generalize dimR L = d at HD HI
  go_enter Try.func11, Try.ntmps11
  go_wp2_with fail
  refine HF.out.mono ?_
  rintro e w1 ⟨rfl, rfl⟩
  go_wp2_with fail
  refine HD.out.mono ?_
  rintro e w1 ⟨rfl, rfl⟩
  go_wp2_with fail
  refine HI.out.mono ?_
  rintro e w2 ⟨rfl, hb⟩
  have H1 := hid (H0.out.step hb); clear hb H0
  go_wp2_with fail
  refine (HS.out _ (H1.out.rs (p := p) (L := L) (by simp))).mono ?_
  rintro e w3 ⟨p1, c1, p2, c2, rfl, hcc, h1, h2, hb⟩
  have H2 := hid (((H1.out.step hb).list h1).list h2); have HCC := hid hcc; clear hb h1 h2 hcc H1
  dsimp only
  go_wp2_with fail
  go_loopw [10] (fun i wr => ∃ k : Nat, k ≤ M1.length ∧ i = .int .i64 k ∧ wr = w3) (fun i _ => M1.length - (intOf i).toNat)
  case atStart => exact ⟨0, by omega, rfl, rfl⟩
  case round =>
    obtain ⟨k, hk, rfl, hw⟩ := hrel
    obtain rfl : w3 = _ := hw.symm
    by_cases hlt : k < M1.length
    · obtain ⟨b, off, q, c4, rfl, hbl, d1, d2, hq⟩ := (H2.out.rs (p := p1) (L := M1) (by simp)).at k hlt
      obtain ⟨rfl, ha1, ha2⟩ := HML.out M1[k] (List.getElem_mem hlt)
      have HL60 := HL1.out; have HF60 := HFW.out
      generalize M1[k] = r at d1 d2 hq ha1 ha2
      obtain ⟨b2, off2, rfl, _, e2⟩ := hq.pt.cells a ha1
      generalize r.1[a] = y at e2 ha2
      generalize r.1.length = n at d1 ha1
      have e4 : decide ((bd : Int) ≤ (y : Int)) = false := by simp; omega
      have e5 : decide (bd ≤ y) = false := by simp; omega
      clear hq d2 ha2
      go_wp2_with fail
      go_roundw
      case rel => exact ⟨k + 1, by omega, by go_num, trivial⟩
      case measure => simp [intOf]; omega
    · obtain rfl : k = M1.length := by omega
      have HL60 := HL1.out; have HF60 := HFW.out
      go_wp2_with fail
      go_loopw [11] (fun i wr => ∃ k : Nat, k ≤ M2.length ∧ i = .int .i64 k ∧ wr = w3) (fun i _ => M2.length - (intOf i).toNat)
      case atStart => exact ⟨0, by omega, rfl, rfl⟩
      case round =>
        obtain ⟨k, hk, rfl, hw⟩ := hrel
        obtain rfl : w3 = _ := hw.symm
        by_cases hlt : k < M2.length
        · obtain ⟨b, off, q, c4, rfl, hbl, d1, d2, hq⟩ := (H2.out.rs (p := p2) (L := M2) (by simp)).at k hlt
          obtain ⟨rfl, ha1, ha2⟩ := HMO.out M2[k] (List.getElem_mem hlt)
          have HL61 := HL2.out
          generalize M2[k] = r at d1 d2 hq ha1 ha2
          obtain ⟨b2, off2, rfl, _, e2⟩ := hq.pt.cells a ha1
          generalize r.1[a] = y at e2 ha2
          generalize r.1.length = n at d1 ha1
          have e4 : decide ((y : Int) < (bd : Int)) = false := by simp; omega
          have e5 : decide (y < bd) = false := by simp; omega
          clear hq d2 ha2
          go_wp2_with fail
          go_roundw
          case rel => exact ⟨k + 1, by omega, by go_num, trivial⟩
          case measure => simp [intOf]; omega
        · obtain rfl : k = M2.length := by omega
          go_wp2_with fail
          refine (HQ1.out _ p1 p2 c1 c2 (H2.out.rs (p := p1) (L := M1) (by simp)) (H2.out.rs (p := p2) (L := M2) (by simp)) HCC.out.1 HCC.out.2.2.1).mono ?_
          rintro e w4 ⟨p4, rfl, h4, hb⟩
          have H3 := hid ((H2.out.step hb).list h4); clear hb h4 H2
          go_wp2_with fail
          refine (v9 L HBG.out rfl (H3.out.rs (p := p4) (L := L) (by simp)) (H3.out.rs (p := p) (L := L) (by simp))).mono ?_
          rintro e w5 ⟨rfl, hb⟩
          have H4 := hid (H3.out.step hb); clear hb H3
          go_wp2_with fail
          refine (HQ2.out _ p2 p1 c2 c1 (H4.out.rs (p := p2) (L := M2) (by simp)) (H4.out.rs (p := p1) (L := M1) (by simp)) HCC.out.2.2.1 HCC.out.1).mono ?_
          rintro e w6 ⟨p6, rfl, h6, hb⟩
          have H5 := hid ((H4.out.step hb).list h6); clear hb h6 H4
          go_wp2_with fail
          refine (v9 L HBG.out rfl (H5.out.rs (p := p6) (L := L) (by simp)) (H5.out.rs (p := p) (L := L) (by simp))).mono ?_
          rintro e w7 ⟨rfl, hb⟩
          have H6 := hid (H5.out.step hb); clear hb H5
          go_wp2_with fail
          refine (Pt.live_any _).mono ?_
          rintro e w8 ⟨rfl, hb⟩
          have H7 := hid (H6.out.step hb); clear hb
          go_wp2_with fail
          go_ret
          exact ⟨rfl, H7.out.below⟩
theorem PartBack_walk (v : Value) (a bd : Int) (w : World) (h : RecsV w v) (ha : (Lit.int .i64 a).wf = true) (hbd : (Lit.int .u32 bd).wf = true) :
    Calls Try.prog 11 #[v, .int .i64 a, .int .u32 bd] w fun e w' => e = .returned (.bool true) ∧ Below w.heap.size w w' := by
  obtain ⟨p, L, c, rfl, hp, hc, hc2⟩ := h
  have hl : L.length ≤ 9223372036854775807 := by omega
  have ha2 := (wf_i64 ha).2
  have hb0 := wf_u32 hbd
  obtain ⟨n, rfl⟩ : ∃ n : Nat, bd = (n : Int) := ⟨bd.toNat, by omega⟩
  cases hf : fewB L with
  | false => exact back_few L p c a (n : Int) w hp hl hf
  | true =>
    cases hi : isBb L (dimR L) with
    | false => exact back_is L p c a (n : Int) w hp hl hf hi
    | true =>
      cases hh : hasAt L a with
      | false => exact back_bad L p c a n w hp hl hf hi ha2 hh
      | true =>
        by_cases h0 : L = []
        · exact back_go L p c 0 n a w hp hc hc2 hf hi ha2 hh (.inl h0)
        · have h3 : 0 ≤ a := by
            cases L with
            | nil => exact absurd rfl h0
            | cons r L =>
              have := List.all_eq_true.1 hh r (List.mem_cons_self ..)
              simp at this; omega
          exact back_go L p c a.toNat n a w hp hc hc2 hf hi ha2 hh (.inr (by omega))
end Go.Proofs.Ytkjcbfdplhcjpaa
