/- Is one of some records in a box; at which coordinate a box is to be halved. -/
import Derived.Test.YtkjcbfdplhcjpaaPtHalf3
namespace Go.Proofs.Ytkjcbfdplhcjpaa.Pt
open Go.RowKit
open Go.Lib (hid)
open Go.Proofs.Ytkjcbfdplhcjpaa.Ky
open Go.Proofs.Ytkjcbfdplhcjpaa.Bk

/-- is one of the records in the box? -/
def anyIn (L : List Rec) (lo hi : List Nat) : Bool := L.any fun r => inB r.1 lo hi
set_option maxRecDepth 100000 in
set_option maxHeartbeats 1000000 in
theorem holdscl_ok (k lo hi : List Nat) (t : ByteArray) (q p r : Option Addr) (c c' c'' B : Nat) (w : World) (hk : Pt w q k) (hp : Pt w p lo) (hr : Pt w r hi) (h1 : k.length ≤ 9223372036854775807) (h2 : lo.length ≤ 9223372036854775807)
    (hA : w.cell? ⟨B, 0, none⟩ = some (.slice p lo.length c') ∧ w.cell? ⟨B, 1, none⟩ = some (.slice r hi.length c'')) (hB : B < w.heap.size) :
    Calls Try.prog 111 #[.agg #[.slice q k.length c, .string t], .pointer (some ⟨B, 0, none⟩)] w fun e w' => e = .returned (.bool (inB k lo hi)) ∧ Below w.heap.size w w' := by
  obtain ⟨V, hV⟩ : ∃ V, w.alloc (.cells #[.slice q k.length c, .string t] 33) = V := ⟨_, rfl⟩
  have hb : Below w.heap.size w V := by rw [← hV]; exact below_alloc _ _
  have HB := hid hb
  have HC := hid (in_ok k lo hi q p r c c' c'' V (hk.below hb) (hp.below hb) (hr.below hb) h1 h2)
  have x := two_cells (show V.heap[w.heap.size]? = some (.cells #[.slice q k.length c, .string t] 33) by rw [← hV]; exact heap_alloc_new _ _)
  have y0 : V.cell? ⟨B, 0, none⟩ = some (.slice p lo.length c') := (hb.cell (p := ⟨B, 0, none⟩) hB).trans hA.1
  have y1 : V.cell? ⟨B, 1, none⟩ = some (.slice r hi.length c'') := (hb.cell (p := ⟨B, 1, none⟩) hB).trans hA.2
  clear hk hp hr hA hB hb
  go_enter Try.func111, Try.ntmps111
  go_wp2_with fail
  clear hV
  refine HC.out.mono ?_
  rintro e w2 ⟨rfl, hb2⟩
  have HB2 := hid (HB.out.trans (hb2.mono HB.out.size)); clear hb2
  go_wp2_with fail
  go_ret
  exact ⟨rfl, HB2.out⟩
theorem any_snoc (L : List Rec) (lo hi : List Nat) (k : Nat) (h : k < L.length) : anyIn (L.take (k + 1)) lo hi = (anyIn (L.take k) lo hi || inB L[k].1 lo hi) := by
  unfold anyIn; rw [List.take_succ_eq_append_getElem h, List.any_append]; simp
def IdxPost (w : World) (b : Bool) (e : Ending) (w' : World) : Prop := ∃ r : Int, e = .returned (.int .i64 r) ∧ decide (0 ≤ r) = b ∧ Below w.heap.size w w'
set_option maxRecDepth 100000 in
set_option maxHeartbeats 2000000 in
theorem indexFunc_ok {D : Nat → Prop} (L : List Rec) (lo hi : List Nat) (s p r : Option Addr) (c c' c'' B : Nat) (w : World) (hs : Rs D w s L) (hp : Pt w p lo) (hr : Pt w r hi) (hl : bigR L) (h2 : lo.length ≤ 9223372036854775807)
    (hA : w.cell? ⟨B, 0, none⟩ = some (.slice p lo.length c') ∧ w.cell? ⟨B, 1, none⟩ = some (.slice r hi.length c'')) (hB : B < w.heap.size) :
    Calls Try.prog 121 #[.slice s L.length c, .func (.func 111) #[] #[.pointer (some ⟨B, 0, none⟩)]] w (IdxPost w (anyIn L lo hi)) := by
  have HS := hid hs; have HL := hid hl; have hlen := hl.1
  have HCL := hid fun (V : World) (hb : Below w.heap.size w V) (k : List Nat) (t : ByteArray) (q : Option Addr) (cq : Nat) (hk : Pt V q k) (h1 : k.length ≤ 9223372036854775807) => holdscl_ok k lo hi t q p r cq c' c'' B V hk (hp.below hb) (hr.below hb) h1 h2 ⟨(hb.cell (p := ⟨B, 0, none⟩) hB).trans hA.1, (hb.cell (p := ⟨B, 1, none⟩) hB).trans hA.2⟩ (Nat.lt_of_lt_of_le hB hb.size)
  clear hs hp hr hl hA hB
  go_enter Try.func121, Try.ntmps121
  go_wp2_with fail
  go_loopw [8] (fun i wr => ∃ k : Nat, k ≤ L.length ∧ i = .int .i64 k ∧ anyIn (L.take k) lo hi = false ∧ Below w.heap.size w wr) (fun i _ => L.length - (intOf i).toNat)
  case atStart => exact ⟨0, by omega, rfl, rfl, Below.refl _ _⟩
  case round =>
    obtain ⟨k, hk, rfl, ha, hb⟩ := hrel
    have HA := hid ha; have HB := hid hb; clear ha hb
    by_cases hlt : k < L.length
    · obtain ⟨b, off, q, c1, rfl, _, d1, d2, hq⟩ := (HS.out.below HB.out).at k hlt
      have hbg := HL.out.2 _ (List.getElem_mem hlt)
      have HC := hid (HCL.out wr HB.out L[k].1 L[k].2 q c1 hq.pt (by omega))
      have HN := hid (any_snoc L lo hi k hlt)
      cases hin : inB L[k].1 lo hi with
      | true =>
        have HR : Hid (anyIn L lo hi = true) := hid (by unfold anyIn; exact List.any_eq_true.2 ⟨_, List.getElem_mem hlt, hin⟩)
        rw [hin] at HC
        clear hin HN hbg hq
        generalize L[k].1.length = x at d1 HC
        generalize L[k].2 = t at d2 HC
        go_wp2_with (go_at_call 111; refine HC.out.mono ?_; rintro e w2 ⟨rfl, hb⟩; have HB2 := hid (HB.out.trans (hb.mono HB.out.size)); clear hb)
        go_ret
        exact ⟨_, rfl, by rw [HR.out]; simp, HB2.out⟩
      | false =>
        have HN2 : Hid (anyIn (L.take (k + 1)) lo hi = false) := hid (by rw [HN.out, HA.out, hin]; rfl)
        rw [hin] at HC
        clear hin HN hbg hq
        generalize L[k].1.length = x at d1 HC
        generalize L[k].2 = t at d2 HC
        go_wp2_with (go_at_call 111; refine HC.out.mono ?_; rintro e w2 ⟨rfl, hb⟩; have HB2 := hid (HB.out.trans (hb.mono HB.out.size)); clear hb)
        go_roundw
        case rel => exact ⟨k + 1, by omega, by go_num, HN2.out, HB2.out⟩
        case measure => simp [intOf]; omega
    · obtain rfl : k = L.length := by omega
      have HR : Hid (anyIn L lo hi = false) := hid (by have := HA.out; rw [List.take_length] at this; exact this)
      go_wp2_with fail
      go_ret
      exact ⟨-1, rfl, by rw [HR.out]; simp, HB.out⟩
set_option maxRecDepth 100000 in
set_option maxHeartbeats 1000000 in
theorem holds_ok {D : Nat → Prop} (L : List Rec) (lo hi : List Nat) (s p r : Option Addr) (c c' c'' : Nat) (w : World) (hs : Rs D w s L) (hp : Pt w p lo) (hr : Pt w r hi) (hl : bigR L) (h2 : lo.length ≤ 9223372036854775807) :
    Calls Try.prog 86 #[.agg #[.slice p lo.length c', .slice r hi.length c''], .slice s L.length c] w fun e w' => e = .returned (.bool (anyIn L lo hi)) ∧ Below w.heap.size w w' := by
  obtain ⟨V, hV⟩ : ∃ V, w.alloc (.cells #[Value.slice p lo.length c', .slice r hi.length c''] 35) = V := ⟨_, rfl⟩
  have hb : Below w.heap.size w V := by rw [← hV]; exact below_alloc _ _
  have x := two_cells (show V.heap[w.heap.size]? = some (.cells #[Value.slice p lo.length c', .slice r hi.length c''] 35) by rw [← hV]; exact heap_alloc_new _ _)
  have HI := hid (indexFunc_ok L lo hi s p r c c' c'' w.heap.size V (hs.below hb) (hp.below hb) (hr.below hb) hl h2 ⟨x.1, x.2.1⟩ (by rw [← hV]; simp))
  have HC : Hid (Calls Try.prog 110 #[.slice s L.length c, .func (.func 111) #[] #[.pointer (some ⟨w.heap.size, 0, none⟩)]] V fun e w' => e = .returned (.bool (anyIn L lo hi)) ∧ Below V.heap.size V w') := hid (by
    clear hb x hs hp hr hV
    go_enter Try.func110, Try.ntmps110
    go_wp2_with fail
    refine HI.out.mono ?_
    rintro e w2 ⟨n, rfl, hn, hb⟩
    have HN := hid hn; have HB := hid hb; clear hn hb
    go_wp2_with fail
    go_ret
    exact ⟨by show Ending.returned (.bool (decide (0 ≤ n))) = _; rw [HN.out], HB.out⟩)
  have HB := hid hb
  clear HI hs hp hr hb x
  go_enter Try.func86, Try.ntmps86
  go_wp2_with fail
  refine HC.out.mono ?_
  rintro e w2 ⟨rfl, hb2⟩
  have HB2 := hid (HB.out.trans (hb2.mono HB.out.size)); clear hb2 hV
  go_wp2_with fail
  go_ret
  exact ⟨rfl, HB2.out⟩
/-- may it be halved there, and are there records in both halves? -/
def pick1 (lo hi : List Nat) (L : List Rec) (a : Int) : Bool := halfB lo hi a && (anyIn L (xlo lo hi a) (xhi lo hi a) && anyIn L (ylo lo hi a) (yhi lo hi a))
theorem xlo_len (lo hi : List Nat) (a : Int) : (xlo lo hi a).length ≤ lo.length := by unfold xlo; split <;> simp
theorem ylo_len (lo hi : List Nat) (a : Int) : (ylo lo hi a).length ≤ lo.length := by unfold ylo; split <;> simp
set_option maxRecDepth 100000 in
set_option maxHeartbeats 2000000 in
theorem choose1_ok {D : Nat → Prop} (lo hi : List Nat) (L : List Rec) (p q s : Option Addr) (c c' c'' B G : Nat) (a : Int) (w : World) (hp : Pt w p lo) (hq : Pt w q hi) (hs : Rs D w s L) (hl : lo.length ≤ 1000000) (hL : bigR L)
    (hA : w.cell? ⟨B, 0, none⟩ = some (.slice p lo.length c) ∧ w.cell? ⟨B, 1, none⟩ = some (.slice q hi.length c')) (hG : w.cell? ⟨G, 0, none⟩ = some (.slice s L.length c'')) (hGl : G < w.heap.size) :
    Calls Try.prog 85 #[.int .i64 a, .pointer (some ⟨B, 0, none⟩), .pointer (some ⟨G, 0, none⟩)] w fun e w' => e = .returned (.bool (pick1 lo hi L a)) ∧ Below w.heap.size w w' := by
  have HH := hid (halves_ok lo hi p q c c' a w hp hq hl)
  have HS := hid hs; have HL := hid hL; have HG := hid (And.intro hG hGl)
  have HXL := hid (xlo_len lo hi a); have HYL := hid (ylo_len lo hi a); have HLL := hid hl
  obtain ⟨x1, x2⟩ := hA
  have HP : Hid (pick1 lo hi L a = (halfB lo hi a && (anyIn L (xlo lo hi a) (xhi lo hi a) && anyIn L (ylo lo hi a) (yhi lo hi a)))) := hid rfl
  clear hp hq hs hL hG hGl hl
  unfold HalfPost at HH
  generalize xlo lo hi a = XL at *
  generalize xhi lo hi a = XH at *
  generalize ylo lo hi a = YL at *
  generalize yhi lo hi a = YH at *
  generalize halfB lo hi a = hb at *
  go_enter Try.func85, Try.ntmps85
  go_wp2_with fail
  refine HH.out.mono ?_
  rintro e w2 ⟨p1, c1, p2, c2, p3, c3, p4, c4, rfl, t1, t2, t3, t4, hbl⟩
  have HB := hid hbl; have H1 := hid t1; have H2 := hid t2; have H3 := hid t3; have H4 := hid t4
  clear t1 t2 t3 t4 hbl x1 x2
  cases hb with
  | false =>
    have HR : Hid (pick1 lo hi L a = false) := hid (by rw [HP.out]; rfl)
    go_wp2_with fail
    go_ret
    exact ⟨by show Ending.returned (.bool false) = _; rw [HR.out], (HB.out.alloc HB.out.size _).alloc (HB.out.alloc HB.out.size _).size _⟩
  | true =>
    obtain ⟨V, hV⟩ : ∃ V, (w2.alloc (.cells #[Value.slice p1 XL.length c1, .slice p2 XH.length c2] 35)).alloc (.cells #[Value.slice p3 YL.length c3, .slice p4 YH.length c4] 35) = V := ⟨_, rfl⟩
    have hv : Below w2.heap.size w2 V := by rw [← hV]; exact (below_alloc _ _).alloc (below_alloc _ _).size _
    obtain ⟨u1, u2, u3⟩ := two_new w2 (.cells #[Value.slice p1 XL.length c1, .slice p2 XH.length c2] 35) (.cells #[Value.slice p3 YL.length c3, .slice p4 YH.length c4] 35)
    rw [hV] at u1 u2 u3
    have HV := hid hv
    have HBV := hid (HB.out.trans (hv.mono HB.out.size))
    have gg : V.cell? ⟨G, 0, none⟩ = some (.slice s L.length c'') := (HBV.out.cell (p := ⟨G, 0, none⟩) HG.out.2).trans HG.out.1
    have z1 := two_cells u1
    have z2 := two_cells u2
    have HH1 := hid (holds_ok L XL XH s p1 p2 c'' c1 c2 V (HS.out.below HBV.out) (H1.out.below hv) (H2.out.below hv) HL.out (by have := HXL.out; have := HLL.out; omega))
    have HH2 := hid fun (V2 : World) (hb : Below V.heap.size V V2) => holds_ok L YL YH s p3 p4 c'' c3 c4 V2 (HS.out.below (HBV.out.trans (hb.mono HBV.out.size))) ((H3.out.below hv).below hb) ((H4.out.below hv).below hb) HL.out (by have := HYL.out; have := HLL.out; omega)
    have HU2 := hid (And.intro u2 u3)
    clear u1 u2 u3 hv
    cases e1 : anyIn L XL XH with
    | false =>
      have HR : Hid (pick1 lo hi L a = false) := hid (by rw [HP.out, e1]; rfl)
      rw [e1] at HH1
      clear e1
      go_wp2_with fail
      clear hV
      refine HH1.out.mono ?_
      rintro e w3 ⟨rfl, hb3⟩
      have HB3 := hid (HBV.out.trans (hb3.mono HBV.out.size)); clear hb3
      go_wp2_with fail
      go_ret
      exact ⟨by show Ending.returned (.bool false) = _; rw [HR.out], HB3.out⟩
    | true =>
      have HR : Hid (pick1 lo hi L a = anyIn L YL YH) := hid (by rw [HP.out, e1]; simp)
      rw [e1] at HH1
      rw [← HR.out] at HH2
      clear e1
      go_wp2_with fail
      clear hV
      refine HH1.out.mono ?_
      rintro e w3 ⟨rfl, hb3⟩
      have HB3 := hid (HBV.out.trans (hb3.mono HBV.out.size))
      have g3 : w3.cell? ⟨G, 0, none⟩ = some (.slice s L.length c'') := (HB3.out.cell (p := ⟨G, 0, none⟩) HG.out.2).trans HG.out.1
      have z3 := two_cells ((hb3.block _ (by rw [HU2.out.2]; omega)).trans HU2.out.1)
      have HC2 := hid (HH2.out w3 hb3)
      clear hb3 gg z1 z2
      go_wp2_with fail
      refine HC2.out.mono ?_
      rintro e w4 ⟨rfl, hb4⟩
      have HB4 := hid (HB3.out.trans (hb4.mono HB3.out.size)); clear hb4
      go_wp2_with fail
      go_ret
      exact ⟨rfl, HB4.out⟩
set_option maxRecDepth 100000 in
set_option maxHeartbeats 1000000 in
theorem choose2_ok (lo hi : List Nat) (p q : Option Addr) (c c' B : Nat) (a : Int) (w : World) (hp : Pt w p lo) (hq : Pt w q hi) (hl : lo.length ≤ 1000000)
    (hA : w.cell? ⟨B, 0, none⟩ = some (.slice p lo.length c) ∧ w.cell? ⟨B, 1, none⟩ = some (.slice q hi.length c')) :
    Calls Try.prog 87 #[.int .i64 a, .pointer (some ⟨B, 0, none⟩)] w fun e w' => e = .returned (.bool (halfB lo hi a)) ∧ Below w.heap.size w w' := by
  have HH := hid (halves_ok lo hi p q c c' a w hp hq hl)
  obtain ⟨x1, x2⟩ := hA
  clear hp hq hl
  unfold HalfPost at HH
  generalize xlo lo hi a = XL at *
  generalize xhi lo hi a = XH at *
  generalize ylo lo hi a = YL at *
  generalize yhi lo hi a = YH at *
  generalize halfB lo hi a = hb at *
  go_enter Try.func87, Try.ntmps87
  go_wp2_with fail
  refine HH.out.mono ?_
  rintro e w2 ⟨p1, c1, p2, c2, p3, c3, p4, c4, rfl, _, _, _, _, hbl⟩
  have HB := hid hbl; clear hbl x1 x2
  go_wp2_with fail
  go_ret
  exact ⟨rfl, (HB.out.alloc HB.out.size _).alloc (HB.out.alloc HB.out.size _).size _⟩
end Go.Proofs.Ytkjcbfdplhcjpaa.Pt
