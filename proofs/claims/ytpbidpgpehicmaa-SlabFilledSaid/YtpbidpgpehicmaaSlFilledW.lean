/- SlabFilled walked. -/
import Derived.Test.YtpbidpgpehicmaaSlLive2
import Derived.Test.YtpbidpgpehicmaaSlFlM
namespace Go.Proofs.Ytpbidpgpehicmaa.Sl
open Go.RowKit Go.Shelf
open Go.Lib (hid)

/-- an op in memory as it came in -/
def OpIn (V : World) (o : Nat) (a0 a1 a2 a3 : Int) (p4 : Option Addr) (n4 c4 : Nat) (p5 : Option Addr) (n5 c5 : Nat) : Prop :=
  V.cell? ⟨o, 0, none⟩ = some (.int .i64 a0) ∧ V.cell? ⟨o, 1, none⟩ = some (.int .i64 a1) ∧ V.cell? ⟨o, 2, none⟩ = some (.int .i64 a2) ∧ V.cell? ⟨o, 3, none⟩ = some (.int .i64 a3) ∧ V.cell? ⟨o, 4, none⟩ = some (.slice p4 n4 c4) ∧ V.cell? ⟨o, 5, none⟩ = some (.slice p5 n5 c5)
/-- an op's block -/
def OpBk (V : World) (o : Nat) (a0 a1 a2 a3 : Int) (p4 : Option Addr) (n4 c4 : Nat) (p5 : Option Addr) (n5 c5 : Nat) : Prop :=
  V.heap[o]? = some (.cells #[.int .i64 a0, .int .i64 a1, .int .i64 a2, .int .i64 a3, .slice p4 n4 c4, .slice p5 n5 c5] 34 (0, 0))
theorem OpBk.at {V : World} {o : Nat} {a0 a1 a2 a3 : Int} {p4 : Option Addr} {n4 c4 : Nat} {p5 : Option Addr} {n5 c5 : Nat} (h : OpBk V o a0 a1 a2 a3 p4 n4 c4 p5 n5 c5) : OpIn V o a0 a1 a2 a3 p4 n4 c4 p5 n5 c5 := by
  unfold OpBk at h
  refine ⟨?_, ?_, ?_, ?_, ?_, ?_⟩
  all_goals (rw [cell_of_row _ _ _ _ _ _ h]; rfl)
theorem OpBk.lt {V : World} {o : Nat} {a0 a1 a2 a3 : Int} {p4 : Option Addr} {n4 c4 : Nat} {p5 : Option Addr} {n5 c5 : Nat} (h : OpBk V o a0 a1 a2 a3 p4 n4 c4 p5 n5 c5) : o < V.heap.size := (Array.getElem?_eq_some_iff.1 h).1
theorem OpBk.below {V V' : World} {o : Nat} {a0 a1 a2 a3 : Int} {p4 : Option Addr} {n4 c4 : Nat} {p5 : Option Addr} {n5 c5 : Nat} (h : OpBk V o a0 a1 a2 a3 p4 n4 c4 p5 n5 c5) (hb : Below V.heap.size V V') : OpBk V' o a0 a1 a2 a3 p4 n4 c4 p5 n5 c5 := (hb.block o h.lt).trans h
theorem OpBk.on {K : Nat → Prop} {V V' : World} {o : Nat} {a0 a1 a2 a3 : Int} {p4 : Option Addr} {n4 c4 : Nat} {p5 : Option Addr} {n5 c5 : Nat} (h : OpBk V o a0 a1 a2 a3 p4 n4 c4 p5 n5 c5) (ho : On K V V') (hK : K o) : OpBk V' o a0 a1 a2 a3 p4 n4 c4 p5 n5 c5 := (ho.block' o hK h.lt).trans h
theorem ints_same (l : List Int) (p q : Option Addr) (c c' : Nat) (w : World) (hp : CellsAt w p (iv l)) (hq : CellsAt w q (iv l)) (hl : l.length ≤ 1000000) :
    Calls Try.prog 24 #[.slice p l.length c, .slice q l.length c'] w fun e w' => e = .returned (.bool true) ∧ Below w.heap.size w w' := by
  have h := ints_ok l l p q c c' w hp hq hl
  rw [decide_eq_true (rfl : l = l)] at h
  exact h.mono fun e w' ⟨h1, n, h2⟩ => ⟨h1, by rw [h2]; exact below_drewN (Below.refl _ _) n⟩
theorem fillU_no {S : List Nat} {C : List Int} {lo hi : List Int} {n : Int} (h : rangeB (zs S) lo hi = false) : fillU S C lo hi n = (1, C) := by unfold fillU; rw [if_neg (by rw [h]; simp)]
theorem seenU_no {S : List Nat} {C : List Int} {lo hi : List Int} (h : rangeB (zs S) lo hi = false) : seenU S C lo hi = (1, []) := by unfold seenU; rw [if_neg (by rw [h]; simp)]
theorem fillU_yes {S : List Nat} {C : List Int} {L H : List Nat} {n : Int} (h : rangeB (zs S) (zs L) (zs H) = true) : fillU S C (zs L) (zs H) n = (0, fillL n (plcs S L H) C) := by unfold fillU; rw [if_pos h, zs_nat, zs_nat]; rfl
theorem seenU_yes {S : List Nat} {C : List Int} {L H : List Nat} (h : rangeB (zs S) (zs L) (zs H) = true) : seenU S C (zs L) (zs H) = (0, firstsA (atL C (plcs S L H))) := by unfold seenU; rw [if_pos h, zs_nat, zs_nat]; rfl
theorem count_step (c h l : Nat) (h1 : l ≤ h) (h2 : h ≤ 4096) (h3 : c * (h + 1 - l) ≤ 4096) : wrap64 ((c : Int) * wrap64 (wrap64 ((h : Int) - (l : Int)) + 1)) = ((c * (h + 1 - l) : Nat) : Int) := by
  obtain ⟨d, hd⟩ : ∃ d, h + 1 - l = d := ⟨_, rfl⟩
  rw [hd] at h3 ⊢
  rw [Go.IntWalk.wrap64_in ((h : Int) - (l : Int)) (by omega), show (h : Int) - (l : Int) + 1 = (d : Int) by omega, Go.IntWalk.wrap64_in (d : Int) (by omega), ← Int.natCast_mul]
  exact Go.IntWalk.wrap64_in _ (by omega)
end Go.Proofs.Ytpbidpgpehicmaa.Sl
namespace Go.Proofs.Ytpbidpgpehicmaa
open Go.RowKit Go.Shelf
open Go.Lib (hid)
open Go.ChangeShapes Go.WideShapes Go.Joins
open Go.Proofs.Ytpbidpgpehicmaa.Sl
set_option maxRecDepth 100000 in
theorem SlabFilled_open1 {H : Type} {enc : TypeId × Value → H} {W : World} {base : Nat} {v : Value} {d : DataW H} {p : List MemPlace} (hv : Value.okWide Try.prog W .any base 22 v) (h : DataW.Trod enc Try.prog W 0 (fun _ => true) true 22 v d p) : ∃ a len cap, v = .slice a len cap ∧ IsOps W a len := open_Ops hv h
set_option maxRecDepth 100000 in
theorem SlabFilled_open2 {H : Type} {enc : TypeId × Value → H} {W : World} {base : Nat} {v : Value} {d : DataW H} {p : List MemPlace} (hv : Value.okWide Try.prog W .any base 34 v) (h : DataW.Trod enc Try.prog W 0 (fun _ => true) true 34 v d p) : OpV W v := open_Op hv h
set_option maxRecDepth 100000 in
set_option maxHeartbeats 8000000 in
theorem SlabFilled_walk (D : Int) (v vo : Value) (w : World) (_ : (Lit.int .i64 D).wf = true) (h1 : ∃ a len cap, v = .slice a len cap ∧ IsOps w a len) (ho : OpV w vo) :
    Calls Try.prog 7 #[.int .i64 D, v, vo] w fun e w' => e = .returned (.bool true) ∧ Below w.heap.size w w' := by
  obtain ⟨a, n, cap, rfl, hs⟩ := h1
  obtain ⟨⟨a0, a1, a2, a3, p4, l4, c4, p5, l5, c5⟩, rfl, ho⟩ := ho
  change Calls _ _ #[_, _, .agg #[.int .i64 a0, .int .i64 a1, .int .i64 a2, .int .i64 a3, .slice p4 l4.length c4, .slice p5 l5.length c5]] w _
  have h3 : (Lit.int .i64 a3).wf = true := i64_wf ho.f3
  have h4 : Is w p4 l4 := ho.f4.1
  have h5 : Is w p5 l5 := ho.f5.1
  clear ho
  obtain ⟨V, hV⟩ : ∃ V, w.alloc (.cells #[.int .i64 a0, .int .i64 a1, .int .i64 a2, .int .i64 a3, .slice p4 l4.length c4, .slice p5 l5.length c5] 34 (0, 0)) = V := ⟨_, rfl⟩
  have HB := hid (show Below w.heap.size w V by rw [← hV]; exact below_alloc w _)
  have HO := hid (show OpBk V w.heap.size a0 a1 a2 a3 p4 l4.length c4 p5 l5.length c5 by rw [← hV]; exact heap_alloc_new w _)
  have HW3 := hid h3
  have HI := hid (And.intro (h4.below HB.out) (h5.below HB.out))
  have HS := hid (hs.below HB.out)
  clear h3 h4 h5 hs
  by_cases hd : 1 ≤ D ∧ D ≤ 6
  · have HG := hid (grown_yes D a n cap V hd HS.out)
    clear hd HS
    go_enter Try.func7, Try.ntmps7
    go_wp2_with fail
    clear hV
    refine HG.out.mono ?_
    rintro e w1 ⟨b, rfl, S, C, hl, -, hb⟩
    have HX := hid hl
    have HO1 := hid (HO.out.below hb)
    replace HB := hid (HB.out.trans (hb.mono HB.out.size))
    have HK0 := hid (show w.heap.size < V.heap.size from HO.out.lt)
    have HVW := hid hb
    clear hl hb HG HO
    obtain ⟨y0, y1, y2, y3, y4, y5⟩ := HO1.out.at
    by_cases h4 : l4.length ≤ 20
    · have e4 : decide ((20 : Int) < (l4.length : Int)) = false := decide_eq_false (by omega)
      by_cases h5 : l5.length ≤ 20
      · have e5 : decide ((20 : Int) < (l5.length : Int)) = false := decide_eq_false (by omega)
        have HLL := hid (And.intro h4 h5)
        clear h4 h5
        go_wp2_with fail
        refine (lv_cellsK HX.out).mono ?_
        rintro e w2 ⟨p8, c8, rfl, K, hK, hl, hc, hb⟩
        have HKK := hid hK
        have HO2 := hid (HO1.out.below hb)
        have HX2 := hid hl
        have HC2 := hid hc
        have HB2 := hid (HB.out.trans (hb.mono HB.out.size))
        have HV2 := hid (HVW.out.trans (hb.mono HVW.out.size))
        have HF := hid hl.fit
        clear hl hc hb hK y0 y1 y2 y3 y4 y5 HO1 HB HX HVW e4 e5
        obtain ⟨y0, y1, y2, y3, y4, y5⟩ := HO2.out.at
        have HLO := hid ((HI.out.1.low HV2.out).mono (D' := fun j => ¬ K j) fun j _ hn hlt => hn (HKK.out j hlt))
        have HHI := hid ((HI.out.2.low HV2.out).mono (D' := fun j => ¬ K j) fun j _ hn hlt => hn (HKK.out j hlt))
        have HFL := hid (lv_fill HX2.out l4 l5 p4 p5 c4 c5 HLO.out HHI.out (by have := HLL.out; omega) (by have := HLL.out; omega) a3 HW3.out)
        cases hr : rangeB (zs S) l4 l5 with
        | false =>
          rw [fillU_no hr] at HFL
          have HSN := hid (seenU_no (C := C) hr)
          clear hr
          go_wp2_with fail
          refine HFL.out.mono ?_
          rintro e w3 ⟨rfl, hl, hon⟩
          have HX3 := hid hl
          have HO3 := hid (HO2.out.on hon (HKK.out _ HK0.out))
          have HC3 := hid (HC2.out.on hon)
          have HL3 := hid (And.intro (HLO.out.on hon) (HHI.out.on hon))
          have HB3 := hid (HB2.out.trans (hon.below HB2.out.size fun j hj => HKK.out j (by have := HK0.out; omega)))
          clear hl hon HFL HX2 HO2 HC2 HB2 y0 y1 y2 y3 y4 y5 HLO HHI
          obtain ⟨y0, y1, y2, y3, y4, y5⟩ := HO3.out.at
          have HSE := hid (lv_seen HX3.out l4 l5 p4 p5 c4 c5 HL3.out.1.cells HL3.out.2.cells (by have := HLL.out; omega) (by have := HLL.out; omega))
          rw [HSN.out] at HSE
          go_wp2_with fail
          refine HSE.out.mono ?_
          rintro e w4 ⟨r, c, rfl, -, hb⟩
          have HX4 := hid (HX3.out.next hb)
          have HB4 := hid (HB3.out.trans (hb.mono HB3.out.size))
          have HC4 := hid (HC3.out.cells.below hb)
          clear hb HSE HX3 HB3 HC3 y0 y1 y2 y3 y4 y5 HO3
          go_wp2_with fail
          refine (lv_cells HX4.out).mono ?_
          rintro e w5 ⟨p9, c9, rfl, hc, hb, _⟩
          have HC5 := hid (And.intro hc (HC4.out.below hb))
          have HB5 := hid (HB4.out.trans (hb.mono HB4.out.size))
          clear hc hb HX4 HB4 HC4
          go_wp2_with fail
          refine (ints_same C p9 p8 c9 c8 w5 HC5.out.1 HC5.out.2 (by rw [HF.out.len]; have := HF.out.most; omega)).mono ?_
          rintro e w6 ⟨rfl, hb⟩
          have HB6 := hid (HB5.out.trans (hb.mono HB5.out.size))
          clear hb HC5 HB5
          go_wp2_with fail
          refine (live_any _).mono ?_
          rintro e w7 ⟨rfl, hb⟩
          have HB7 := hid (HB6.out.trans (hb.mono HB6.out.size))
          clear hb HB6
          go_wp2_with fail
          go_ret
          exact ⟨rfl, HB7.out⟩
        | true =>
          obtain ⟨L, H, rfl, rfl, hL, hH⟩ := range_nat S l4 l5 hr
          have hw := range_within S L H hL hH hr
          rw [fillU_yes hr] at HFL
          have HSN := hid (seenU_yes (C := fillL a3 (plcs S L H) C) hr)
          rw [fill_seen HF.out hL hH hw] at HSN
          have HGL := hid (fill_get (N := a3) HF.out hL hH L hL hw (by unfold rangeB at hr; simp only [Bool.and_eq_true] at hr; exact hr.1.1))
          have HGH := hid (fill_get (N := a3) HF.out hL hH H hH (within_low L H hw) (by unfold rangeB at hr; simp only [Bool.and_eq_true] at hr; exact hr.1.2))
          have HEA := hid (fun i hi hi2 => fill_each (S := S) (L := L) (H := H) (C := C) (N := a3) i hi hi2)
          have HCO := hid (fill_count (N := a3) HF.out hL hH)
          have HLE := hid (fun k => countL_le S L H hH HF.out.pos k)
          have HWI := hid (And.intro (within_at L H hw) (And.intro (okC_length S L hL) (okC_length S H hH)))
          have HHL := hid (okC_le S H hH)
          have HFN := hid (fillL_length a3 (plcs S L H) C)
          generalize fillL a3 (plcs S L H) C = X at *
          have ea : (a3 != a3) = false := by simp
          have ec : ((X.length : Int) != (C.length : Int)) = false := by rw [HFN.out]; simp
          clear hr hw hL hH
          go_wp2_with fail
          refine HFL.out.mono ?_
          rintro e w3 ⟨rfl, hl, hon⟩
          have HX3 := hid hl
          have HO3 := hid (HO2.out.on hon (HKK.out _ HK0.out))
          have HC3 := hid (HC2.out.on hon)
          have HL3 := hid (And.intro (HLO.out.on hon).cells (HHI.out.on hon).cells)
          have HB3 := hid (HB2.out.trans (hon.below HB2.out.size fun j hj => HKK.out j (by have := HK0.out; omega)))
          clear hl hon HFL HX2 HO2 HC2 HB2 y0 y1 y2 y3 y4 y5 HLO HHI
          obtain ⟨y0, y1, y2, y3, y4, y5⟩ := HO3.out.at
          have HSE := hid (lv_seen HX3.out (zs L) (zs H) p4 p5 c4 c5 HL3.out.1 HL3.out.2 (by have := HLL.out; omega) (by have := HLL.out; omega))
          rw [HSN.out] at HSE
          go_wp2_with fail
          refine HSE.out.mono ?_
          rintro e w4 ⟨r, c, rfl, hrc, hb⟩
          have HR4 := hid hrc
          have HX4 := hid (HX3.out.next hb)
          have HO4 := hid (HO3.out.below hb)
          have HB4 := hid (HB3.out.trans (hb.mono HB3.out.size))
          have HC4 := hid (HC3.out.cells.below hb)
          have HL4 := hid (And.intro (HL3.out.1.below hb) (HL3.out.2.below hb))
          clear hb hrc HSE HX3 HB3 HC3 y0 y1 y2 y3 y4 y5 HO3 HL3
          obtain ⟨y0, y1, y2, y3, y4, y5⟩ := HO4.out.at
          have HG1 := hid (lv_get HX4.out (zs L) p4 c4 HL4.out.1 (by have := HLL.out; omega))
          rw [HGL.out] at HG1
          go_wp2_with fail
          refine HG1.out.mono ?_
          rintro e w5 ⟨rfl, n5, rfl⟩
          have HG2 := hid (lv_get (HX4.out.drewN n5) (zs H) p5 c5 (HL4.out.2.drewN n5) (by have := HLL.out; omega))
          rw [HGH.out] at HG2
          go_wp2_with fail
          refine HG2.out.mono ?_
          rintro e w6 ⟨rfl, n6, rfl⟩
          have hb : Below w4.heap.size w4 ((w4.drewN n5).drewN n6) := below_drewN (below_drewN (Below.refl _ _) n5) n6
          have HR6 := hid (HR4.out.below hb)
          have HX6 := hid (HX4.out.next hb)
          have HO6 := hid (HO4.out.below hb)
          have HB6 := hid (HB4.out.trans (hb.mono HB4.out.size))
          have HC6 := hid (HC4.out.below hb)
          have HL6 := hid (And.intro (HL4.out.1.below hb) (HL4.out.2.below hb))
          clear hb HX4 HB4 HC4 HO4 HL4 HR4 HG1 HG2 y0 y1 y2 y3 y4 y5
          generalize (w4.drewN n5).drewN n6 = w6 at *
          obtain ⟨y0, y1, y2, y3, y4, y5⟩ := HO6.out.at
          have hb0 := below_alloc w6 (obj [a3])
          obtain ⟨z0, z1, z2, z3, z4, z5⟩ := (HO6.out.below hb0).at
          go_wp2_with fail
          refine (ints_lit w6 [a3] [a3] r c HR6.out (by simp) true (by simp)).mono ?_
          rintro e w7 ⟨rfl, hb⟩
          have HX7 := hid (HX6.out.next hb)
          have HO7 := hid (HO6.out.below hb)
          have HB7 := hid (HB6.out.trans (hb.mono HB6.out.size))
          have HC7 := hid (HC6.out.below hb)
          have HL7 := hid (And.intro (HL6.out.1.below hb) (HL6.out.2.below hb))
          clear hb hb0 HX6 HB6 HC6 HO6 HL6 HR6 y0 y1 y2 y3 y4 y5 z0 z1 z2 z3 z4 z5
          obtain ⟨y0, y1, y2, y3, y4, y5⟩ := HO7.out.at
          go_wp2_with fail
          refine (lv_cells HX7.out).mono ?_
          rintro e w8 ⟨p9, c9, rfl, hc, hb, _⟩
          have HN8 := hid hc
          have HO8 := hid (HO7.out.below hb)
          have HB8 := hid (HB7.out.trans (hb.mono HB7.out.size))
          have HC8 := hid (HC7.out.below hb)
          have HL8 := hid (And.intro (HL7.out.1.below hb) (HL7.out.2.below hb))
          clear hb hc HX7 HB7 HC7 HO7 HL7 y0 y1 y2 y3 y4 y5
          go_wp2_with fail
          clear ea ec
          have hn6 : (zs L).length ≤ 20 := HLL.out.1
          have eLH : (zs L).length = L.length ∧ (zs H).length = H.length := ⟨zs_len L, zs_len H⟩
          go_loopw [18, 19] (fun c i wr => ∃ k : Nat, k ≤ (zs L).length ∧ i = .int .i64 k ∧ c = .int .i64 ((countL (L.take k) (H.take k) : Nat) : Int) ∧ Below w8.heap.size w8 wr) (fun _ i _ => (zs L).length - (intOf i).toNat)
          case atStart => exact ⟨0, by omega, rfl, by simp [countL], Below.refl _ _⟩
          case round =>
            obtain ⟨k, hk, rfl, rfl, hbr⟩ := hrel
            have HBR := hid hbr
            have HOR := hid (HO8.out.below hbr)
            clear hbr
            obtain ⟨y0, y1, y2, y3, y4, y5⟩ := HOR.out.at
            by_cases hlt : k < (zs L).length
            · have hkL : k < L.length := by omega
              have hkH : k < H.length := by have := HWI.out.2; omega
              obtain ⟨b4, o4, hp4, lt4, r4⟩ := (HL8.out.1.below HBR.out) k (by rw [iv_length]; exact hlt)
              obtain ⟨b5, o5, hp5, lt5, r5⟩ := (HL8.out.2.below HBR.out) k (by rw [iv_length, zs_len]; exact hkH)
              have d4 : wr.cell? ⟨b4, o4 + k, none⟩ = some (.int .i64 (L[k] : Int)) := by have := r4; simp [iv, zs] at this; exact this
              have d5 : wr.cell? ⟨b5, o5 + k, none⟩ = some (.int .i64 (H[k] : Int)) := by have := r5; simp [iv, zs] at this; exact this
              rw [hp4] at y4
              rw [hp5] at y5
              have hct := countL_take L H k hkL hkH
              have hst := count_step (countL (L.take k) (H.take k)) H[k] L[k] (HWI.out.1 k hkL hkH) (Nat.le_trans (HHL.out _ (List.getElem_mem hkH)) HF.out.most) (by rw [← hct]; exact Nat.le_trans (HLE.out _) HF.out.most)
              rw [← hct] at hst
              have HST := hid hst
              have HKL := hid hlt
              have hHl : k < (zs H).length := by omega
              clear hct hst r4 r5 lt4 lt5 hp4 hp5
              generalize L[k] = x at d4 HST
              generalize H[k] = y at d5 HST
              generalize (zs H).length = nh at *
              go_wp2_with fail
              go_quiet (fail)
              go_wp2_with fail
              go_roundw
              case rel => exact ⟨k + 1, HKL.out, by go_num, by rw [HST.out], below_drewN HBR.out nq⟩
              case measure => have := HKL.out; simp [intOf]; omega
            · obtain rfl : k = (zs L).length := by omega
              have HM := hid (show countL (L.take (zs L).length) (H.take (zs L).length) = countL L H by
                have h2 := HWI.out.2
                rw [eLH.1, List.take_length, show L.length = H.length by omega, List.take_length])
              rw [HM.out]
              have HML := hid (show countL L H ≤ 4096 by
                have := HLE.out L.length
                rw [List.take_length, show L.length = H.length by have := HWI.out.2; omega, List.take_length] at this
                exact Nat.le_trans this HF.out.most)
              generalize countL L H = M at *
              clear hk hlt
              go_wp2_with fail
              clear y0 y1 y2 y3 y4 y5
              have HXL := hid (show X.length ≤ 4096 by rw [HFN.out, HF.out.len]; exact HF.out.most)
              go_loopw [18, 20] (fun c i wr => ∃ k : Nat, k ≤ X.length ∧ i = .int .i64 k ∧ c = .int .i64 ((M : Int) - ((X.take k).count a3 : Nat)) ∧ Below w8.heap.size w8 wr) (fun _ i _ => X.length - (intOf i).toNat)
              case atStart => exact ⟨0, by omega, rfl, by simp, HBR.out⟩
              case round =>
                rename World => w9
                obtain ⟨k, hk, rfl, rfl, hbr⟩ := hrel
                have HBR9 := hid hbr
                have HOR9 := hid (HO8.out.below hbr)
                clear hbr
                obtain ⟨y0, y1, y2, y3, y4, y5⟩ := HOR9.out.at
                by_cases hlt : k < X.length
                · have hkC : k < C.length := by have := HFN.out; omega
                  obtain ⟨b9, o9, hp9, lt9, r9⟩ := (HN8.out.below HBR9.out) k (by rw [iv_length]; exact hlt)
                  obtain ⟨b8, o8, hp8, lt8, r8⟩ := (HC8.out.below HBR9.out) k (by rw [iv_length]; exact hkC)
                  have d9 : w9.cell? ⟨b9, o9 + k, none⟩ = some (.int .i64 X[k]) := by have := r9; simp [iv] at this; exact this
                  have d8 : w9.cell? ⟨b8, o8 + k, none⟩ = some (.int .i64 C[k]) := by have := r8; simp [iv] at this; exact this
                  subst hp9 hp8
                  have HE := hid (HEA.out k hkC hlt)
                  have HCT := hid (count_take X a3 k hlt)
                  have HCL := hid (show (X.take k).count a3 ≤ 4096 from Nat.le_trans List.count_le_length (by rw [List.length_take]; have := HXL.out; omega))
                  have hxl := HXL.out
                  clear r9 r8 lt9 lt8
                  by_cases hxa : X[k] = a3
                  · rw [hxa] at d9
                    rw [if_pos hxa] at HCT
                    have e1 : (a3 != a3) = false := by simp
                    have HW := hid (show wrap64 ((M : Int) - ((X.take k).count a3 : Nat) - 1) = (M : Int) - ((X.take (k + 1)).count a3 : Nat) by
                      have := HML.out; have := HCL.out; have := HCT.out
                      rw [Go.IntWalk.wrap64_in _ (by omega)]; omega)
                    have HKL := hid hlt
                    clear hxa
                    generalize (X.take k).count a3 = cn at *
                    go_wp2_with fail
                    go_quiet (fail)
                    go_wp2_with fail
                    go_quiet (fail)
                    go_wp2_with fail
                    go_roundw
                    case rel => exact ⟨k + 1, HKL.out, by go_num, by rw [HW.out], below_drewN HBR9.out _⟩
                    case measure => have := HKL.out; simp [intOf]; omega
                  · have hxc : X[k] = C[k] := by rcases HE.out with h | h; exact absurd h hxa; exact h
                    rw [← hxc] at d8
                    rw [if_neg hxa] at HCT
                    have e1 : (X[k] != a3) = true := by simpa using hxa
                    have e2 : (X[k] != X[k]) = false := by simp
                    have e3 : (X[k] == a3) = false := by simpa using hxa
                    have HKL := hid hlt
                    clear hxa hxc HE
                    generalize X[k] = x at d9 d8 e1 e2 e3
                    go_wp2_with fail
                    go_quiet (fail)
                    go_wp2_with fail
                    go_quiet (fail)
                    go_wp2_with fail
                    go_roundw
                    case rel => exact ⟨k + 1, HKL.out, by go_num, by rw [HCT.out, Nat.add_zero], below_drewN HBR9.out _⟩
                    case measure => have := HKL.out; simp [intOf]; omega
                · obtain rfl : k = X.length := by omega
                  rw [List.take_length]
                  have e1 : decide ((M : Int) - ((X.count a3 : Nat) : Int) ≤ 0) = true := decide_eq_true (by have := HCO.out; omega)
                  clear hk hlt
                  go_wp2_with fail
                  refine (live_any _).mono ?_
                  rintro e w10 ⟨rfl, hb⟩
                  have HB10 := hid (HBR9.out.trans (hb.mono HBR9.out.size))
                  clear hb
                  go_wp2_with fail
                  go_ret
                  exact ⟨rfl, HB8.out.trans (HB10.out.mono HB8.out.size)⟩
      · have e5 : decide ((20 : Int) < (l5.length : Int)) = true := decide_eq_true (by omega)
        clear h4 h5
        go_wp2_with fail
        refine (live_any _).mono ?_
        rintro e w10 ⟨rfl, hb⟩
        have HB10 := hid (HB.out.trans (hb.mono HB.out.size))
        clear hb
        go_wp2_with fail
        go_ret
        exact ⟨rfl, HB10.out⟩
    · have e4 : decide ((20 : Int) < (l4.length : Int)) = true := decide_eq_true (by omega)
      clear h4
      go_wp2_with fail
      refine (live_any _).mono ?_
      rintro e w10 ⟨rfl, hb⟩
      have HB10 := hid (HB.out.trans (hb.mono HB.out.size))
      clear hb
      go_wp2_with fail
      go_ret
      exact ⟨rfl, HB10.out⟩
  · have HG := hid (grown_no D a n cap V hd HS.out)
    clear hd HS
    go_enter Try.func7, Try.ntmps7
    go_wp2_with fail
    clear hV
    refine HG.out.mono ?_
    rintro e w1 ⟨rfl, hb⟩
    replace HB := hid (HB.out.trans (hb.mono HB.out.size))
    clear hb
    go_wp2_with fail
    refine (live_any _).mono ?_
    rintro e w10 ⟨rfl, hb⟩
    have HB10 := hid (HB.out.trans (hb.mono HB.out.size))
    clear hb
    go_wp2_with fail
    go_ret
    exact ⟨rfl, HB10.out⟩
end Go.Proofs.Ytpbidpgpehicmaa
