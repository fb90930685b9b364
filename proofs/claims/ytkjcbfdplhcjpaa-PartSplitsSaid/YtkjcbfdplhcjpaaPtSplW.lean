/- PartSplits walked: any records split at a bound; any two buckets put together. -/
import Derived.Test.YtkjcbfdplhcjpaaPtRMerge
import Derived.Test.YtkjcbfdplhcjpaaPtAllW
namespace Go.Proofs.Ytkjcbfdplhcjpaa.Pt
open Go.RowKit
open Go.Lib (hid)
open Go.ChangeShapes Go.WideShapes Go.Joins Go.Deep
open Go.Proofs.Ytkjcbfdplhcjpaa.Ky
open Go.Proofs.Ytkjcbfdplhcjpaa.Bk
theorem big_split (a : Int) (bd : Nat) {L : List Rec} (h : bigR L) : bigR (splitR L a bd).1 ∧ bigR (splitR L a bd).2.1 := by
  unfold splitR
  split
  · exact ⟨big_low _ _ h, big_oth _ _ h⟩
  · exact ⟨⟨Nat.zero_le _, fun r hr => by simp at hr⟩, ⟨Nat.zero_le _, fun r hr => by simp at hr⟩⟩
theorem cTwo : Try.prog.cellsOf 80 = 4 := by kernel_rfl
theorem cRecs : Try.prog.cellsOf 40 = 1 := by kernel_rfl
theorem cInt : Try.prog.cellsOf 3 = 1 := by kernel_rfl
theorem cU32 : Try.prog.cellsOf 66 = 1 := by kernel_rfl
set_option maxRecDepth 100000 in
theorem open_two {H : Type} {enc : TypeId × Value → H} {W : World} {base : Nat} {v : Value} {d : DataW H} {p : List MemPlace} (hv : Value.okWide Try.prog W .any base 80 v) (h : DataW.Trod enc Try.prog W 0 (fun _ => true) true 80 v d p) :
    ∃ x y a b, v = .agg #[x, y, .int .i64 a, .int .u32 b] ∧ RecsV W x ∧ RecsV W y ∧ (Lit.int .i64 a).wf = true ∧ (Lit.int .u32 b).wf = true := by
  obtain ⟨cs, rfl, hsz⟩ := okWide_struct Try.underlying80 hv
  obtain ⟨fuel, hf⟩ := h
  rw [cTwo] at hsz
  obtain ⟨l⟩ := cs
  have hl : l.length = 4 := hsz
  obtain ⟨x0, x1, x2, x3, rfl⟩ : ∃ x0 x1 x2 x3, l = [x0, x1, x2, x3] := by
    match l, hl with
    | [x0, x1, x2, x3], _ => exact ⟨x0, x1, x2, x3, rfl⟩
  obtain ⟨xs, m, _, _, _, hlen, hff⟩ := DataW.trod_struct Try.underlying80 hf
  have hlen4 : xs.length = 4 := hlen
  have some_at : ∀ j, j < 4 → (xs[j]?).isSome = true := fun j hj => by rw [List.getElem?_eq_getElem (by omega)]; rfl
  obtain ⟨y0, hy0⟩ := Option.isSome_iff_exists.1 (some_at 0 (by omega))
  obtain ⟨y1, hy1⟩ := Option.isSome_iff_exists.1 (some_at 1 (by omega))
  obtain ⟨y2, hy2⟩ := Option.isSome_iff_exists.1 (some_at 2 (by omega))
  obtain ⟨y3, hy3⟩ := Option.isSome_iff_exists.1 (some_at 3 (by omega))
  have h0 := hff 0 _ rfl
  have h1 := hff 1 _ rfl
  have h2 := hff 2 _ rfl
  have h3 := hff 3 _ rfl
  rw [hy0] at h0
  rw [hy1] at h1
  rw [hy2] at h2
  rw [hy3] at h3
  have e2 : (([x0, x1, x2, x3] : List Value).drop 2).take (Try.prog.cellsOf 3) = [x2] := cell_one rfl cInt
  have h2' : DataW.trod enc Try.prog W 0 (fun _ => true) true m 3 [x2] = some y2 := by rw [← e2]; exact h2
  obtain ⟨g, e, _, wg⟩ := DataW.trod_int Try.underlying3 h2'
  simp at e
  subst e
  have e3 : (([x0, x1, .int .i64 g, x3] : List Value).drop 3).take (Try.prog.cellsOf 66) = [x3] := cell_one rfl cU32
  have h3' : DataW.trod enc Try.prog W 0 (fun _ => true) true m 66 [x3] = some y3 := by rw [← e3]; exact h3
  obtain ⟨k, e, _, wk⟩ := DataW.trod_int Try.underlying66 h3'
  simp at e
  subst e
  exact ⟨x0, x1, g, k, rfl, recs_trod (cell_one rfl cRecs) h0, recs_trod (cell_one rfl cRecs) h1, wg, wk⟩
end Go.Proofs.Ytkjcbfdplhcjpaa.Pt
namespace Go.Proofs.Ytkjcbfdplhcjpaa
open Go.RowKit
open Go.Lib (hid)
open Go.ChangeShapes Go.WideShapes Go.Joins
open Go.Proofs.Ytkjcbfdplhcjpaa.Ky
open Go.Proofs.Ytkjcbfdplhcjpaa.Bk
open Go.Proofs.Ytkjcbfdplhcjpaa.Pt
/-- a value that is two lists, a place, a bound -/
def TwoV (w : World) (v : Value) : Prop := ∃ x y a b, v = .agg #[x, y, .int .i64 a, .int .u32 b] ∧ RecsV w x ∧ RecsV w y ∧ (Lit.int .i64 a).wf = true ∧ (Lit.int .u32 b).wf = true
set_option maxRecDepth 100000 in
theorem PartSplits_open0 {H : Type} {enc : TypeId × Value → H} {W : World} {base : Nat} {v : Value} {d : DataW H} {p : List MemPlace} (hv : Value.okWide Try.prog W .any base 80 v) (h : DataW.Trod enc Try.prog W 0 (fun _ => true) true 80 v d p) : TwoV W v := open_two hv h
set_option maxRecDepth 100000 in
set_option maxHeartbeats 2000000 in
theorem spl_f1 (L M : List Rec) (p q : Option Addr) (c c' : Nat) (a : Int) (bd : Nat) (w : World) (hp : Rs (fun _ => False) w p L) (hq : Rs (fun _ => False) w q M) (hl : L.length ≤ 9223372036854775807) (hm : M.length ≤ c' ∧ c' ≤ 9223372036854775807) (_ : a ≤ 9223372036854775807) (hf : fewB L = false) :
    Calls Try.prog 10 #[.agg #[.slice p L.length c, .slice q M.length c', .int .i64 a, .int .u32 (bd : Int)]] w fun e w' => e = .returned (.bool true) ∧ Below w.heap.size w w' := by
  have HS0 := hid (((Cp.start w).list hp).list hq)
  have HF := hid fun (V : World) (g : Rs (fun _ => False) V p L) => few_ok L p c V g hl
  have HG := hid fun (V : World) (g : Rs (fun _ => False) V q M) => few_ok M q c' V g (by omega)
  rw [hf] at HF
  clear hp hq hl hm hf HG
  go_enter Try.func10, Try.ntmps10
  go_wp2_with fail
  go_quiet (fail)
  generalize hV : World.drewN _ _ = V
  have hbV : Below w.heap.size w V := by rw [← hV]; exact below_drewN (below_alloc _ _) _
  have H0 := hid (HS0.out.step hbV)
  clear hV hbV HS0
  go_wp2_with fail
  refine (HF.out _ (H0.out.rs (p := p) (L := L) (by simp))).mono ?_
  rintro e w1 ⟨rfl, rfl⟩
  go_wp2_with fail
  refine (Pt.live_any _).mono ?_
  rintro e wl ⟨rfl, hb⟩
  have HL := hid (H0.out.step hb); clear hb
  go_wp2_with fail
  go_ret
  exact ⟨rfl, HL.out.below⟩
set_option maxRecDepth 100000 in
set_option maxHeartbeats 2000000 in
theorem spl_f2 (L M : List Rec) (p q : Option Addr) (c c' : Nat) (a : Int) (bd : Nat) (w : World) (hp : Rs (fun _ => False) w p L) (hq : Rs (fun _ => False) w q M) (hl : L.length ≤ 9223372036854775807) (hm : M.length ≤ c' ∧ c' ≤ 9223372036854775807) (_ : a ≤ 9223372036854775807) (hf : fewB L = true) (hg : fewB M = false) :
    Calls Try.prog 10 #[.agg #[.slice p L.length c, .slice q M.length c', .int .i64 a, .int .u32 (bd : Int)]] w fun e w' => e = .returned (.bool true) ∧ Below w.heap.size w w' := by
  have HS0 := hid (((Cp.start w).list hp).list hq)
  have HF := hid fun (V : World) (g : Rs (fun _ => False) V p L) => few_ok L p c V g hl
  have HG := hid fun (V : World) (g : Rs (fun _ => False) V q M) => few_ok M q c' V g (by omega)
  rw [hf] at HF
  rw [hg] at HG
  clear hp hq hl hm hf hg
  go_enter Try.func10, Try.ntmps10
  go_wp2_with fail
  go_quiet (fail)
  generalize hV : World.drewN _ _ = V
  have hbV : Below w.heap.size w V := by rw [← hV]; exact below_drewN (below_alloc _ _) _
  have H0 := hid (HS0.out.step hbV)
  clear hV hbV HS0
  go_wp2_with fail
  refine (HF.out _ (H0.out.rs (p := p) (L := L) (by simp))).mono ?_
  rintro e w1 ⟨rfl, rfl⟩
  go_wp2_with fail
  refine (HG.out _ (H0.out.rs (p := q) (L := M) (by simp))).mono ?_
  rintro e w1 ⟨rfl, rfl⟩
  go_wp2_with fail
  refine (Pt.live_any _).mono ?_
  rintro e wl ⟨rfl, hb⟩
  have HL := hid (H0.out.step hb); clear hb
  go_wp2_with fail
  go_ret
  exact ⟨rfl, HL.out.below⟩
set_option maxRecDepth 100000 in
set_option maxHeartbeats 4000000 in
theorem spl_i1 (L M : List Rec) (p q : Option Addr) (c c' : Nat) (a : Int) (bd : Nat) (w : World) (hp : Rs (fun _ => False) w p L) (hq : Rs (fun _ => False) w q M) (hl : L.length ≤ 9223372036854775807) (hm : M.length ≤ c' ∧ c' ≤ 9223372036854775807) (ha : a ≤ 9223372036854775807) (hf : fewB L = true) (hg : fewB M = true) (hi : isBb L (dimR L) = false) :
    Calls Try.prog 10 #[.agg #[.slice p L.length c, .slice q M.length c', .int .i64 a, .int .u32 (bd : Int)]] w fun e w' => e = .returned (.bool true) ∧ Below w.heap.size w w' := by
  have HS0 := hid (((Cp.start w).list hp).list hq)
  have HF := hid fun (V : World) (g : Rs (fun _ => False) V p L) => few_ok L p c V g hl
  have HG := hid fun (V : World) (g : Rs (fun _ => False) V q M) => few_ok M q c' V g (by omega)
  rw [hf] at HF
  rw [hg] at HG
  have h60 := (fewB_iff.1 hf).1
  have h61 := (fewB_iff.1 hg).1
  have hbig := fewR_big (fewB_iff.1 hf)
  have hbig2 := fewR_big (fewB_iff.1 hg)
  have HCO := hid fun (V : World) (g : Rs (fun _ => False) V p L) => copies_ok L p c V g hbig
  have HS1 := hid fun (V : World) (r : Option Addr) (k : Nat) (g : Rs (fun _ => False) V r L) => split_ok L r k a bd V g hbig ha
  have HS2 := hid fun (V : World) (g : Rs (fun _ => False) V p L) => refSplit_ok L p c a bd V g hbig
  have hbs := big_split a bd hbig
  have HD := hid fun (V : World) (g : Rs (fun _ => False) V p L) => dim_ok L p c V g hbig
  have HI := hid fun (V : World) (g : Rs (fun _ => False) V p L) => is_ok L p c (dimR L) V g hbig
  have HJ := hid fun (V : World) (g : Rs (fun _ => False) V q M) => is_ok M q c' (dimR L) V g hbig2
  rw [hi] at HI
  have HBG := hid hbig
  clear hp hq hl hm ha hf hg h60 h61 hbig hbig2 hi HJ
  generalize dimR L = d at *
  unfold SplPost at HS1 HS2
  generalize splitR L a bd = sp at *
  obtain ⟨A, B, n⟩ := sp
  dsimp only at HS1 HS2 hbs
  have HBA := hid hbs.1; have HBB := hid hbs.2
  clear hbs
  have f1 : ((n : Int) != n) = false := by simp
  go_enter Try.func10, Try.ntmps10
  go_wp2_with fail
  go_quiet (fail)
  generalize hV : World.drewN _ _ = V
  have hbV : Below w.heap.size w V := by rw [← hV]; exact below_drewN (below_alloc _ _) _
  have H0 := hid (HS0.out.step hbV)
  clear hV hbV HS0
  go_wp2_with fail
  refine (HF.out _ (H0.out.rs (p := p) (L := L) (by simp))).mono ?_
  rintro e w1 ⟨rfl, rfl⟩
  go_wp2_with fail
  refine (HG.out _ (H0.out.rs (p := q) (L := M) (by simp))).mono ?_
  rintro e w1 ⟨rfl, rfl⟩
  go_wp2_with fail
  refine (HCO.out _ (H0.out.rs (p := p) (L := L) (by simp))).mono ?_
  rintro e w3 ⟨po, co, rfl, ho1, ho2, ro, hb⟩
  have H1 := hid ((H0.out.step hb).list ro); have HO1 := hid ho1
  clear hb ho1 ho2 ro H0
  go_wp2_with fail
  refine (HS1.out _ po co (H1.out.rs (p := po) (L := L) (by simp))).mono ?_
  rintro e w4 ⟨p1, k1, p2, k2, rfl, _, r1, r2, hb⟩
  have H2 := hid (((H1.out.step hb).list r1).list r2)
  clear hb r1 r2 H1
  go_wp2_with fail
  refine (HS2.out _ (H2.out.rs (p := p) (L := L) (by simp))).mono ?_
  rintro e w5 ⟨p3, k3, p4, k4, rfl, _, r3, r4, hb⟩
  have H3 := hid (((H2.out.step hb).list r3).list r4)
  clear hb r3 r4 H2
  go_wp2_with fail
  refine (v9 A HBA.out rfl (H3.out.rs (p := p1) (L := A) (by simp)) (H3.out.rs (p := p3) (L := A) (by simp))).mono ?_
  rintro e w6 ⟨rfl, hb⟩
  have H4 := hid (H3.out.step hb); clear hb H3
  go_wp2_with fail
  refine (v9 B HBB.out rfl (H4.out.rs (p := p2) (L := B) (by simp)) (H4.out.rs (p := p4) (L := B) (by simp))).mono ?_
  rintro e w7 ⟨rfl, hb⟩
  have H5 := hid (H4.out.step hb); clear hb H4
  go_wp2_with fail
  refine (v9 L HBG.out rfl (H5.out.rs (p := po) (L := L) (by simp)) (H5.out.rs (p := p) (L := L) (by simp))).mono ?_
  rintro e w8 ⟨rfl, hb⟩
  have H6 := hid (H5.out.step hb); clear hb H5
  go_wp2_with fail
  refine (HD.out _ (H6.out.rs (p := p) (L := L) (by simp))).mono ?_
  rintro e w9 ⟨rfl, rfl⟩
  go_wp2_with fail
  refine (HI.out _ (H6.out.rs (p := p) (L := L) (by simp))).mono ?_
  rintro e w9 ⟨rfl, hb⟩
  have H7 := hid (H6.out.step hb); clear hb H6
  go_wp2_with fail
  refine (Pt.live_any _).mono ?_
  rintro e wl ⟨rfl, hb⟩
  have HL := hid (H7.out.step hb); clear hb
  go_wp2_with fail
  go_ret
  exact ⟨rfl, HL.out.below⟩
set_option maxRecDepth 100000 in
set_option maxHeartbeats 4000000 in
theorem spl_i2 (L M : List Rec) (p q : Option Addr) (c c' : Nat) (a : Int) (bd : Nat) (w : World) (hp : Rs (fun _ => False) w p L) (hq : Rs (fun _ => False) w q M) (hl : L.length ≤ 9223372036854775807) (hm : M.length ≤ c' ∧ c' ≤ 9223372036854775807) (ha : a ≤ 9223372036854775807) (hf : fewB L = true) (hg : fewB M = true) (hi : isBb L (dimR L) = true) (hj : isBb M (dimR L) = false) :
    Calls Try.prog 10 #[.agg #[.slice p L.length c, .slice q M.length c', .int .i64 a, .int .u32 (bd : Int)]] w fun e w' => e = .returned (.bool true) ∧ Below w.heap.size w w' := by
  have HS0 := hid (((Cp.start w).list hp).list hq)
  have HF := hid fun (V : World) (g : Rs (fun _ => False) V p L) => few_ok L p c V g hl
  have HG := hid fun (V : World) (g : Rs (fun _ => False) V q M) => few_ok M q c' V g (by omega)
  rw [hf] at HF
  rw [hg] at HG
  have h60 := (fewB_iff.1 hf).1
  have h61 := (fewB_iff.1 hg).1
  have hbig := fewR_big (fewB_iff.1 hf)
  have hbig2 := fewR_big (fewB_iff.1 hg)
  have HCO := hid fun (V : World) (g : Rs (fun _ => False) V p L) => copies_ok L p c V g hbig
  have HS1 := hid fun (V : World) (r : Option Addr) (k : Nat) (g : Rs (fun _ => False) V r L) => split_ok L r k a bd V g hbig ha
  have HS2 := hid fun (V : World) (g : Rs (fun _ => False) V p L) => refSplit_ok L p c a bd V g hbig
  have hbs := big_split a bd hbig
  have HD := hid fun (V : World) (g : Rs (fun _ => False) V p L) => dim_ok L p c V g hbig
  have HI := hid fun (V : World) (g : Rs (fun _ => False) V p L) => is_ok L p c (dimR L) V g hbig
  have HJ := hid fun (V : World) (g : Rs (fun _ => False) V q M) => is_ok M q c' (dimR L) V g hbig2
  rw [hi] at HI
  rw [hj] at HJ
  have HBG := hid hbig
  clear hp hq hl hm ha hf hg h60 h61 hbig hbig2 hi hj
  generalize dimR L = d at *
  unfold SplPost at HS1 HS2
  generalize splitR L a bd = sp at *
  obtain ⟨A, B, n⟩ := sp
  dsimp only at HS1 HS2 hbs
  have HBA := hid hbs.1; have HBB := hid hbs.2
  clear hbs
  have f1 : ((n : Int) != n) = false := by simp
  go_enter Try.func10, Try.ntmps10
  go_wp2_with fail
  go_quiet (fail)
  generalize hV : World.drewN _ _ = V
  have hbV : Below w.heap.size w V := by rw [← hV]; exact below_drewN (below_alloc _ _) _
  have H0 := hid (HS0.out.step hbV)
  clear hV hbV HS0
  go_wp2_with fail
  refine (HF.out _ (H0.out.rs (p := p) (L := L) (by simp))).mono ?_
  rintro e w1 ⟨rfl, rfl⟩
  go_wp2_with fail
  refine (HG.out _ (H0.out.rs (p := q) (L := M) (by simp))).mono ?_
  rintro e w1 ⟨rfl, rfl⟩
  go_wp2_with fail
  refine (HCO.out _ (H0.out.rs (p := p) (L := L) (by simp))).mono ?_
  rintro e w3 ⟨po, co, rfl, ho1, ho2, ro, hb⟩
  have H1 := hid ((H0.out.step hb).list ro); have HO1 := hid ho1
  clear hb ho1 ho2 ro H0
  go_wp2_with fail
  refine (HS1.out _ po co (H1.out.rs (p := po) (L := L) (by simp))).mono ?_
  rintro e w4 ⟨p1, k1, p2, k2, rfl, _, r1, r2, hb⟩
  have H2 := hid (((H1.out.step hb).list r1).list r2)
  clear hb r1 r2 H1
  go_wp2_with fail
  refine (HS2.out _ (H2.out.rs (p := p) (L := L) (by simp))).mono ?_
  rintro e w5 ⟨p3, k3, p4, k4, rfl, _, r3, r4, hb⟩
  have H3 := hid (((H2.out.step hb).list r3).list r4)
  clear hb r3 r4 H2
  go_wp2_with fail
  refine (v9 A HBA.out rfl (H3.out.rs (p := p1) (L := A) (by simp)) (H3.out.rs (p := p3) (L := A) (by simp))).mono ?_
  rintro e w6 ⟨rfl, hb⟩
  have H4 := hid (H3.out.step hb); clear hb H3
  go_wp2_with fail
  refine (v9 B HBB.out rfl (H4.out.rs (p := p2) (L := B) (by simp)) (H4.out.rs (p := p4) (L := B) (by simp))).mono ?_
  rintro e w7 ⟨rfl, hb⟩
  have H5 := hid (H4.out.step hb); clear hb H4
  go_wp2_with fail
  refine (v9 L HBG.out rfl (H5.out.rs (p := po) (L := L) (by simp)) (H5.out.rs (p := p) (L := L) (by simp))).mono ?_
  rintro e w8 ⟨rfl, hb⟩
  have H6 := hid (H5.out.step hb); clear hb H5
  go_wp2_with fail
  refine (HD.out _ (H6.out.rs (p := p) (L := L) (by simp))).mono ?_
  rintro e w9 ⟨rfl, rfl⟩
  go_wp2_with fail
  refine (HI.out _ (H6.out.rs (p := p) (L := L) (by simp))).mono ?_
  rintro e w9 ⟨rfl, hb⟩
  have H7 := hid (H6.out.step hb); clear hb H6
  go_wp2_with fail
  refine (HD.out _ (H7.out.rs (p := p) (L := L) (by simp))).mono ?_
  rintro e w10 ⟨rfl, rfl⟩
  go_wp2_with fail
  refine (HJ.out _ (H7.out.rs (p := q) (L := M) (by simp))).mono ?_
  rintro e w10 ⟨rfl, hb⟩
  have H8 := hid (H7.out.step hb); clear hb H7
  go_wp2_with fail
  refine (Pt.live_any _).mono ?_
  rintro e wl ⟨rfl, hb⟩
  have HL := hid (H8.out.step hb); clear hb
  go_wp2_with fail
  go_ret
  exact ⟨rfl, HL.out.below⟩
set_option maxRecDepth 100000 in
set_option maxHeartbeats 4000000 in
theorem spl_go (L M : List Rec) (p q : Option Addr) (c c' : Nat) (a : Int) (bd : Nat) (w : World) (hp : Rs (fun _ => False) w p L) (hq : Rs (fun _ => False) w q M) (hl : L.length ≤ 9223372036854775807) (hm : M.length ≤ c' ∧ c' ≤ 9223372036854775807) (ha : a ≤ 9223372036854775807) (hf : fewB L = true) (hg : fewB M = true) (hi : isBb L (dimR L) = true) (hj : isBb M (dimR L) = true) :
    Calls Try.prog 10 #[.agg #[.slice p L.length c, .slice q M.length c', .int .i64 a, .int .u32 (bd : Int)]] w fun e w' => e = .returned (.bool true) ∧ Below w.heap.size w w' := by
  have HS0 := hid (((Cp.start w).list hp).list hq)
  have HF := hid fun (V : World) (g : Rs (fun _ => False) V p L) => few_ok L p c V g hl
  have HG := hid fun (V : World) (g : Rs (fun _ => False) V q M) => few_ok M q c' V g (by omega)
  rw [hf] at HF
  rw [hg] at HG
  have h60 := (fewB_iff.1 hf).1
  have h61 := (fewB_iff.1 hg).1
  have hbig := fewR_big (fewB_iff.1 hf)
  have hbig2 := fewR_big (fewB_iff.1 hg)
  have HCO := hid fun (V : World) (g : Rs (fun _ => False) V p L) => copies_ok L p c V g hbig
  have HS1 := hid fun (V : World) (r : Option Addr) (k : Nat) (g : Rs (fun _ => False) V r L) => split_ok L r k a bd V g hbig ha
  have HS2 := hid fun (V : World) (g : Rs (fun _ => False) V p L) => refSplit_ok L p c a bd V g hbig
  have hbs := big_split a bd hbig
  have HD := hid fun (V : World) (g : Rs (fun _ => False) V p L) => dim_ok L p c V g hbig
  have HI := hid fun (V : World) (g : Rs (fun _ => False) V p L) => is_ok L p c (dimR L) V g hbig
  have HJ := hid fun (V : World) (g : Rs (fun _ => False) V q M) => is_ok M q c' (dimR L) V g hbig2
  rw [hi] at HI
  rw [hj] at HJ
  have hup := (isBb_iff.1 hi).2
  have hup2 := (isBb_iff.1 hj).2
  have HBR := hid (merge_big hbig hbig2 (by omega))
  have HM1 := hid fun (V : World) (r : Option Addr) (k : Nat) (hk : L.length ≤ k) (g : Rs (fun _ => False) V r L) (g' : Rs (fun _ => False) V q M) => merge_ok L M r q k c' V g g' hbig hbig2 (by omega) hk hm.1
  have HM2 := hid fun (V : World) (g : Rs (fun _ => False) V p L) (g' : Rs (fun _ => False) V q M) => refMerge_ok L M p q c c' V g g' hbig hbig2 (by omega)
  rw [← merge_sort hup hup2] at HM2
  unfold MrgPost at HM1
  generalize mergeR L M = R at *
  have HBG := hid hbig
  clear hp hq hl hm ha hf hg h60 h61 hbig hbig2 hi hj hup hup2
  generalize dimR L = d at *
  unfold SplPost at HS1 HS2
  generalize splitR L a bd = sp at *
  obtain ⟨A, B, n⟩ := sp
  dsimp only at HS1 HS2 hbs
  have HBA := hid hbs.1; have HBB := hid hbs.2
  clear hbs
  have f1 : ((n : Int) != n) = false := by simp
  go_enter Try.func10, Try.ntmps10
  go_wp2_with fail
  go_quiet (fail)
  generalize hV : World.drewN _ _ = V
  have hbV : Below w.heap.size w V := by rw [← hV]; exact below_drewN (below_alloc _ _) _
  have H0 := hid (HS0.out.step hbV)
  clear hV hbV HS0
  go_wp2_with fail
  refine (HF.out _ (H0.out.rs (p := p) (L := L) (by simp))).mono ?_
  rintro e w1 ⟨rfl, rfl⟩
  go_wp2_with fail
  refine (HG.out _ (H0.out.rs (p := q) (L := M) (by simp))).mono ?_
  rintro e w1 ⟨rfl, rfl⟩
  go_wp2_with fail
  refine (HCO.out _ (H0.out.rs (p := p) (L := L) (by simp))).mono ?_
  rintro e w3 ⟨po, co, rfl, ho1, ho2, ro, hb⟩
  have H1 := hid ((H0.out.step hb).list ro); have HO1 := hid ho1
  clear hb ho1 ho2 ro H0
  go_wp2_with fail
  refine (HS1.out _ po co (H1.out.rs (p := po) (L := L) (by simp))).mono ?_
  rintro e w4 ⟨p1, k1, p2, k2, rfl, _, r1, r2, hb⟩
  have H2 := hid (((H1.out.step hb).list r1).list r2)
  clear hb r1 r2 H1
  go_wp2_with fail
  refine (HS2.out _ (H2.out.rs (p := p) (L := L) (by simp))).mono ?_
  rintro e w5 ⟨p3, k3, p4, k4, rfl, _, r3, r4, hb⟩
  have H3 := hid (((H2.out.step hb).list r3).list r4)
  clear hb r3 r4 H2
  go_wp2_with fail
  refine (v9 A HBA.out rfl (H3.out.rs (p := p1) (L := A) (by simp)) (H3.out.rs (p := p3) (L := A) (by simp))).mono ?_
  rintro e w6 ⟨rfl, hb⟩
  have H4 := hid (H3.out.step hb); clear hb H3
  go_wp2_with fail
  refine (v9 B HBB.out rfl (H4.out.rs (p := p2) (L := B) (by simp)) (H4.out.rs (p := p4) (L := B) (by simp))).mono ?_
  rintro e w7 ⟨rfl, hb⟩
  have H5 := hid (H4.out.step hb); clear hb H4
  go_wp2_with fail
  refine (v9 L HBG.out rfl (H5.out.rs (p := po) (L := L) (by simp)) (H5.out.rs (p := p) (L := L) (by simp))).mono ?_
  rintro e w8 ⟨rfl, hb⟩
  have H6 := hid (H5.out.step hb); clear hb H5
  go_wp2_with fail
  refine (HD.out _ (H6.out.rs (p := p) (L := L) (by simp))).mono ?_
  rintro e w9 ⟨rfl, rfl⟩
  go_wp2_with fail
  refine (HI.out _ (H6.out.rs (p := p) (L := L) (by simp))).mono ?_
  rintro e w9 ⟨rfl, hb⟩
  have H7 := hid (H6.out.step hb); clear hb H6
  go_wp2_with fail
  refine (HD.out _ (H7.out.rs (p := p) (L := L) (by simp))).mono ?_
  rintro e w10 ⟨rfl, rfl⟩
  go_wp2_with fail
  refine (HJ.out _ (H7.out.rs (p := q) (L := M) (by simp))).mono ?_
  rintro e w10 ⟨rfl, hb⟩
  have H8 := hid (H7.out.step hb); clear hb H7
  go_wp2_with fail
  refine (HM1.out _ po co HO1.out (H8.out.rs (p := po) (L := L) (by simp)) (H8.out.rs (p := q) (L := M) (by simp))).mono ?_
  rintro e w11 ⟨p5, rfl, r5, hb⟩
  have H9 := hid ((H8.out.step hb).list r5); clear hb r5 H8
  go_wp2_with fail
  refine (HM2.out _ (H9.out.rs (p := p) (L := L) (by simp)) (H9.out.rs (p := q) (L := M) (by simp))).mono ?_
  rintro e w12 ⟨p6, k6, rfl, r6, hb⟩
  have H10 := hid ((H9.out.step hb).list r6); clear hb r6 H9
  go_wp2_with fail
  refine (v9 R HBR.out rfl (H10.out.rs (p := p5) (L := R) (by simp)) (H10.out.rs (p := p6) (L := R) (by simp))).mono ?_
  rintro e w13 ⟨rfl, hb⟩
  have H11 := hid (H10.out.step hb); clear hb H10
  go_wp2_with fail
  refine (v9 L HBG.out rfl (H11.out.rs (p := po) (L := L) (by simp)) (H11.out.rs (p := p) (L := L) (by simp))).mono ?_
  rintro e w14 ⟨rfl, hb⟩
  have H12 := hid (H11.out.step hb); clear hb H11
  go_wp2_with fail
  refine (Pt.live_any _).mono ?_
  rintro e wl ⟨rfl, hb⟩
  have HL := hid (H12.out.step hb); clear hb
  go_wp2_with fail
  go_ret
  exact ⟨rfl, HL.out.below⟩
theorem PartSplits_walk (v : Value) (w : World) (h : TwoV w v) :
    Calls Try.prog 10 #[v] w fun e w' => e = .returned (.bool true) ∧ Below w.heap.size w w' := by
  obtain ⟨_, _, a, b, rfl, ⟨p, L, c, rfl, hp, hc, hc2⟩, ⟨q, M, c', rfl, hq, hd, hd2⟩, wa, wb⟩ := h
  have ha2 := (wf_i64 wa).2
  have hb0 := wf_u32 wb
  obtain ⟨n, rfl⟩ : ∃ n : Nat, b = (n : Int) := ⟨b.toNat, by omega⟩
  cases hf : fewB L with
  | false => exact spl_f1 L M p q c c' a n w hp hq (by omega) ⟨hd, hd2⟩ ha2 hf
  | true =>
    cases hg : fewB M with
    | false => exact spl_f2 L M p q c c' a n w hp hq (by omega) ⟨hd, hd2⟩ ha2 hf hg
    | true =>
      cases hi : isBb L (dimR L) with
      | false => exact spl_i1 L M p q c c' a n w hp hq (by omega) ⟨hd, hd2⟩ ha2 hf hg hi
      | true =>
        cases hj : isBb M (dimR L) with
        | false => exact spl_i2 L M p q c c' a n w hp hq (by omega) ⟨hd, hd2⟩ ha2 hf hg hi hj
        | true => exact spl_go L M p q c c' a n w hp hq (by omega) ⟨hd, hd2⟩ ha2 hf hg hi hj
end Go.Proofs.Ytkjcbfdplhcjpaa
