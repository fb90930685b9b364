/- Merged out of KyOpen, RgJp, RgBackW, RgRJoin, RgJoinsW. -/
import Derived.Test.YtnmhdlincgefeaaKyPart
import Derived.Lib.SmallJoins
import Derived.ProofKit
import Derived.Deep.Slices
import Derived.ChangeSlices
import Derived.Test.YtnmhdlincgefeaaRgLive
import Derived.Test.YtnmhdlincgefeaaPtHalf4
import Derived.Test.YtnmhdlincgefeaaRgJoin
/- Points, boxes and lists of numbers that came in, opened; short. -/
namespace Go.Proofs.Ytnmhdlincgefeaa.Ky
open Go.RowKit
open Go.Lib (hid)
open Go.ChangeShapes Go.WideShapes Go.Joins Go.Deep

section
variable {H : Type} {enc : TypeId × Value → H} {W : World} {base : Nat} {sp : Nat → Bool} {hd : Bool}
theorem c46 : Try.prog.cellsOf 55 = 1 := by kernel_rfl
theorem c3 : Try.prog.cellsOf 3 = 1 := by kernel_rfl
theorem c23 : Try.prog.cellsOf 41 = 1 := by kernel_rfl
theorem c40 : Try.prog.cellsOf 22 = 1 := by kernel_rfl
theorem c33 : Try.prog.cellsOf 43 = 2 := by kernel_rfl
/-- a value that is a point -/
def KeyV (w : World) (v : Value) : Prop := ∃ p l c, v = .slice p l.length c ∧ Pt w p l ∧ l.length ≤ 9223372036854775807
def IntsV (w : World) (v : Value) : Prop := ∃ p l c, v = .slice p l.length c ∧ Is w p l ∧ l.length ≤ 9223372036854775807
def BoxV (w : World) (v : Value) : Prop := ∃ x y, v = .agg #[x, y] ∧ KeyV w x ∧ KeyV w y
theorem wf_u32 {x : Int} (h : (Lit.int .u32 x).wf = true) : 0 ≤ x ∧ x < 4294967296 := by
  have h1 : IntKind.u32.min = 0 := rfl
  have h2 : IntKind.u32.max = 4294967295 := rfl
  simp [Lit.wf] at h
  omega
theorem wf_i64 {x : Int} (h : (Lit.int .i64 x).wf = true) : -9223372036854775808 ≤ x ∧ x ≤ 9223372036854775807 := by
  have h1 : IntKind.i64.min = -9223372036854775808 := rfl
  have h2 : IntKind.i64.max = 9223372036854775807 := rfl
  simp [Lit.wf] at h
  omega
theorem addr_at {a : Addr} {k : IntKind} {zs : List Int} {len : Nat} (hl : len ≤ zs.length) (hc : ∀ i, i < zs.length → W.cell? (a.add i) = some (.int k (zs.getD i 0))) (h0 : 0 < len) :
    ∃ b off, a = ⟨b, off, none⟩ ∧ b < W.heap.size ∧ ∀ j, j < len → W.cell? ⟨b, off + j, none⟩ = some (.int k (zs.getD j 0)) := by
  obtain ⟨blk, off, spot⟩ := a
  have hfirst := hc 0 (by omega)
  have hspot : spot = none := by simpa [Addr.add] using World.cell?_spot hfirst
  subst hspot
  have hadd : ∀ i, (⟨blk, off, none⟩ : Addr).add i = ⟨blk, off + i, none⟩ := fun i => by unfold Addr.add; split <;> simp_all
  refine ⟨blk, off, rfl, ?_, fun j hj => ?_⟩
  · rw [hadd] at hfirst; exact block_lt_of_cell hfirst
  · have := hc j (by omega); rw [hadd] at this; exact this
theorem key_trod {n : Nat} {cs : List Value} {x : DataW H × List MemPlace} {v : Value} (hcs0 : cs = [v]) (hf : DataW.trod enc Try.prog W base sp hd n 41 cs = some x) : KeyV W v := by
  rcases open_ints Try.underlying41 Try.underlying55 c46 hf with ⟨hcs, _⟩ | ⟨a, len, cap, zs, hcs, _, hlc, hcm, hzl, _, hc, hw⟩
  · rw [hcs] at hcs0
    simp at hcs0
    subst hcs0
    exact ⟨none, [], 0, rfl, Pt.nil _ _, by simp⟩
  · rw [hcs] at hcs0
    simp at hcs0
    subst hcs0
    have hl : len ≤ zs.length := by rw [hzl]; split <;> omega
    have hlen : ((zs.take len).map Int.toNat).length = len := by simp; omega
    have hat : ∀ j (hj : j < ((zs.take len).map Int.toNat).length), (((zs.take len).map Int.toNat)[j] : Int) = zs.getD j 0 ∧ ((zs.take len).map Int.toNat)[j] < 4294967296 := by
      intro j hj
      have hj2 : j < zs.length := by omega
      have hz := wf_u32 (hw zs[j] (List.getElem_mem hj2))
      rw [List.getElem_map, List.getElem_take, List.getD_eq_getElem?_getD, List.getElem?_eq_getElem hj2, Option.getD_some]
      omega
    refine ⟨some a, (zs.take len).map Int.toNat, cap, by rw [hlen], ⟨fun j hj => ?_, fun j hj => (hat j hj).2⟩, by rw [hlen]; unfold maxLen at hcm; omega⟩
    obtain ⟨b, off, rfl, hlt, hcell⟩ := addr_at hl hc (by omega : 0 < len)
    exact ⟨b, off, rfl, hlt, by rw [hcell j (by omega), (hat j hj).1]⟩
theorem ints_trod {n : Nat} {cs : List Value} {x : DataW H × List MemPlace} {v : Value} (hcs0 : cs = [v]) (hf : DataW.trod enc Try.prog W base sp hd n 22 cs = some x) : IntsV W v := by
  rcases open_ints Try.underlying22 Try.underlying3 c3 hf with ⟨hcs, _⟩ | ⟨a, len, cap, zs, hcs, _, hlc, hcm, hzl, _, hc, hw⟩
  · rw [hcs] at hcs0
    simp at hcs0
    subst hcs0
    exact ⟨none, [], 0, rfl, ⟨fun j hj => absurd hj (by simp), fun j hj => absurd hj (by simp)⟩, by simp⟩
  · rw [hcs] at hcs0
    simp at hcs0
    subst hcs0
    have hl : len ≤ zs.length := by rw [hzl]; split <;> omega
    have hlen : (zs.take len).length = len := by simp; omega
    have hat : ∀ j (hj : j < (zs.take len).length), (zs.take len)[j] = zs.getD j 0 ∧ -9223372036854775808 ≤ (zs.take len)[j] ∧ (zs.take len)[j] ≤ 9223372036854775807 := by
      intro j hj
      have hj2 : j < zs.length := by omega
      have hz := wf_i64 (hw zs[j] (List.getElem_mem hj2))
      rw [List.getElem_take, List.getD_eq_getElem?_getD, List.getElem?_eq_getElem hj2, Option.getD_some]
      exact ⟨rfl, hz⟩
    refine ⟨some a, zs.take len, cap, by rw [hlen], ⟨fun j hj => ?_, fun j hj => (hat j hj).2⟩, by rw [hlen]; unfold maxLen at hcm; omega⟩
    obtain ⟨b, off, rfl, hlt, hcell⟩ := addr_at hl hc (by omega : 0 < len)
    exact ⟨b, off, rfl, hlt, by rw [hcell j (by omega), (hat j hj).1]⟩
set_option maxRecDepth 100000 in
theorem open_key {v : Value} {d : DataW H} {p : List MemPlace} (hv : Value.okWide Try.prog W .any base 41 v) (h : DataW.Trod enc Try.prog W 0 (fun _ => true) true 41 v d p) : KeyV W v := by
  obtain ⟨a, len, cap, rfl⟩ := okWide_slice Try.underlying41 hv
  obtain ⟨fuel, hf⟩ := h
  exact key_trod (cs := (Value.slice a len cap).cells.toList) (by simp [Value.cells]) hf
theorem cell_one {l : List Value} {j c : Nat} {x : Value} (hx : l[j]? = some x) (hc : c = 1) : (l.drop j).take c = [x] := by
  subst hc
  obtain ⟨h, e⟩ := List.getElem?_eq_some_iff.1 hx
  rw [List.drop_eq_getElem_cons h, e]; rfl
set_option maxRecDepth 100000 in
theorem open_boxv {v : Value} {d : DataW H} {p : List MemPlace} (hv : Value.okWide Try.prog W .any base 43 v) (h : DataW.Trod enc Try.prog W 0 (fun _ => true) true 43 v d p) : BoxV W v := by
  obtain ⟨cs, rfl, hsz⟩ := okWide_struct Try.underlying43 hv
  obtain ⟨fuel, hf⟩ := h
  rw [c33] at hsz
  obtain ⟨l⟩ := cs
  have hl : l.length = 2 := hsz
  obtain ⟨x0, x1, rfl⟩ : ∃ x0 x1, l = [x0, x1] := by
    match l, hl with
    | [x0, x1], _ => exact ⟨x0, x1, rfl⟩
  obtain ⟨xs, m, _, _, _, hlen, hff⟩ := DataW.trod_struct Try.underlying43 hf
  have hlen2 : xs.length = 2 := hlen
  have some_at : ∀ j, j < 2 → (xs[j]?).isSome = true := fun j hj => by rw [List.getElem?_eq_getElem (by omega)]; rfl
  obtain ⟨y0, hy0⟩ := Option.isSome_iff_exists.1 (some_at 0 (by omega))
  obtain ⟨y1, hy1⟩ := Option.isSome_iff_exists.1 (some_at 1 (by omega))
  have h0 := hff 0 _ rfl
  have h1 := hff 1 _ rfl
  rw [hy0] at h0
  rw [hy1] at h1
  exact ⟨x0, x1, rfl, key_trod (cell_one rfl c23) h0, key_trod (cell_one rfl c23) h1⟩
end
theorem KeyV.pt {w : World} {v : Value} (h : KeyV w v) : ∃ p l c, v = .slice p l.length c ∧ Pt w p l ∧ l.length ≤ 9223372036854775807 := h
def shortB (ns : List Nat) : Bool := ns.all fun n => decide (n ≤ 20)
theorem shortB_take (ns : List Nat) (k : Nat) (h : k < ns.length) (h1 : shortB (ns.take k) = true) (h2 : ns[k] ≤ 20) : shortB (ns.take (k + 1)) = true := by
  unfold shortB at *
  rw [List.take_succ_eq_append_getElem h, List.all_append, h1]
  simp [h2]
theorem shortB_no (ns : List Nat) (k : Nat) (h : k < ns.length) (h2 : ¬ ns[k] ≤ 20) : shortB ns = false := by
  unfold shortB
  rw [List.all_eq_false]
  exact ⟨ns[k], List.getElem_mem h, by simpa using h2⟩
end Go.Proofs.Ytnmhdlincgefeaa.Ky

/- Boxes of the laws in memory, and what the calls about them say, told by what is known. -/
namespace Go.Proofs.Ytnmhdlincgefeaa.Rg
open Go.RowKit
open Go.Lib (hid)
open Go.Proofs.Ytnmhdlincgefeaa.Ky
open Go.Proofs.Ytnmhdlincgefeaa.Pt

/-- what is known on the way: points, boxes' blocks -/
structure Jp (w V : World) (P : List (Option Addr × List Nat)) (B : List (Nat × Value × Value)) : Prop where
  below : Below w.heap.size w V
  pts : ∀ x ∈ P, Pt V x.1 x.2
  bxs : ∀ x ∈ B, V.heap[x.1]? = some (.cells #[x.2.1, x.2.2] 43)
section
variable {w V V' : World} {P : List (Option Addr × List Nat)} {B : List (Nat × Value × Value)}
theorem Jp.start (w : World) : Jp w w [] [] := ⟨Below.refl _ _, fun x hx => absurd hx (by simp), fun x hx => absurd hx (by simp)⟩
theorem Jp.step (h : Jp w V P B) (hb : Below V.heap.size V V') : Jp w V' P B :=
  ⟨h.below.trans (hb.mono h.below.size), fun x hx => (h.pts x hx).below hb, fun x hx => (hb.block _ (Array.getElem?_eq_some_iff.1 (h.bxs x hx)).1).trans (h.bxs x hx)⟩
theorem Jp.alloc (h : Jp w V P B) (o : Obj) : Jp w (V.alloc o) P B := h.step (below_alloc V o)
theorem Jp.more (h : Jp w V P B) {p : Option Addr} {l : List Nat} (hp : Pt V p l) : Jp w V ((p, l) :: P) B :=
  ⟨h.below, fun x hx => by
    rcases List.mem_cons.1 hx with rfl | hx
    · exact hp
    · exact h.pts x hx, h.bxs⟩
theorem Jp.box (h : Jp w V P B) (a b : Value) : Jp w (V.alloc (.cells #[a, b] 43)) P ((V.heap.size, a, b) :: B) := by
  have h2 := h.alloc (.cells #[a, b] 43)
  refine ⟨h2.below, h2.pts, fun x hx => ?_⟩
  rcases List.mem_cons.1 hx with rfl | hx
  · exact heap_alloc_new _ _
  · exact h2.bxs x hx
theorem Jp.pt (h : Jp w V P B) {p : Option Addr} {l : List Nat} (hm : (p, l) ∈ P) : Pt V p l := h.pts _ hm
theorem Jp.cells (h : Jp w V P B) {g : Nat} {a b : Value} (hm : (g, a, b) ∈ B) : V.cell? ⟨g, 0, none⟩ = some a ∧ V.cell? ⟨g, 1, none⟩ = some b := by
  have hb := h.bxs _ hm
  exact ⟨by rw [cell_of_row _ _ _ _ _ _ hb]; rfl, by rw [cell_of_row _ _ _ _ _ _ hb]; rfl⟩
end
theorem xlo_len (lo hi : List Nat) (a : Int) : (xlo lo hi a).length ≤ lo.length := by unfold xlo; split <;> simp
theorem xhi_len (lo hi : List Nat) (a : Int) : (xhi lo hi a).length ≤ hi.length := by unfold xhi; split <;> simp
theorem ylo_len (lo hi : List Nat) (a : Int) : (ylo lo hi a).length ≤ lo.length := by unfold ylo; split <;> simp
theorem yhi_len (lo hi : List Nat) (a : Int) : (yhi lo hi a).length ≤ hi.length := by unfold yhi; split <;> simp
/-- Joined, where the answer is known -/
theorem joined_is {al ah bl bh : List Nat} {r : Option Nat} {L H : List Nat} (e : joinL al ah bl bh = r) (e1 : jlo al bl r = L) (e2 : jhi ah bh r = H) (p q r' s : Option Addr) (c1 c2 c3 c4 : Nat) (w : World) (hp : Pt w p al) (hq : Pt w q ah) (hr : Pt w r' bl) (hs : Pt w s bh) (hl : al.length ≤ 1000000) (hl2 : bl.length ≤ 1000000) :
    Calls Try.prog 17 #[.agg #[.slice p al.length c1, .slice q ah.length c2], .agg #[.slice r' bl.length c3, .slice s bh.length c4]] w fun e w' => ∃ p c q c', e = .returned (.tuple #[.agg #[.slice p L.length c, .slice q H.length c'], .int .i64 (((r.getD 0 : Nat)) : Int), .bool r.isSome]) ∧ Pt w' p L ∧ Pt w' q H ∧ Below w.heap.size w w' := by
  have h := joined_any al ah bl bh p q r' s c1 c2 c3 c4 w hp hq hr hs hl hl2
  rw [e] at h
  unfold JRet at h
  rw [e1, e2] at h
  exact h
/-- two boxes are one -/
theorem same_is (l h : List Nat) (p q r s : Option Addr) (c1 c2 c3 c4 : Nat) (w : World) (h1 : Pt w p l) (h2 : Pt w q h) (h3 : Pt w r l) (h4 : Pt w s h) (g1 : l.length ≤ 1000000) (g2 : h.length ≤ 1000000) :
    Calls Try.prog 19 #[.agg #[.slice p l.length c1, .slice q h.length c2], .agg #[.slice r l.length c3, .slice s h.length c4]] w fun e w' => e = .returned (.bool true) ∧ Below w.heap.size w w' := by
  have := sameBox_ok l h l h p q r s c1 c2 c3 c4 w h1 h2 h3 h4 g1 g2
  rw [show sameBoxB l h l h = true from sameBoxB_iff.2 ⟨rfl, rfl⟩] at this
  exact this
end Go.Proofs.Ytnmhdlincgefeaa.Rg

/- RegionBack walked. -/
namespace Go.Proofs.Ytnmhdlincgefeaa
open Go.RowKit
open Go.Lib (hid)
open Go.ChangeShapes Go.WideShapes Go.Joins
open Go.Proofs.Ytnmhdlincgefeaa.Ky
open Go.Proofs.Ytnmhdlincgefeaa.Pt
open Go.Proofs.Ytnmhdlincgefeaa.Rg
set_option maxRecDepth 100000 in
theorem RegionBack_open0 {H : Type} {enc : TypeId × Value → H} {W : World} {base : Nat} {v : Value} {d : DataW H} {p : List MemPlace} (hv : Value.okWide Try.prog W .any base 43 v) (h : DataW.Trod enc Try.prog W 0 (fun _ => true) true 43 v d p) : BoxV W v := open_boxv hv h
set_option maxRecDepth 100000 in
set_option maxHeartbeats 2000000 in
theorem rgback_few (lo hi : List Nat) (p q : Option Addr) (c c' : Nat) (a : Int) (w : World) (h : ¬ (lo.length ≤ 6 ∧ hi.length ≤ 6)) :
    Calls Try.prog 5 #[.agg #[.slice p lo.length c, .slice q hi.length c'], .int .i64 a] w fun e w' => e = .returned (.bool true) ∧ Below w.heap.size w w' := by
  have HB := hid (below_alloc w (.cells #[.slice p lo.length c, .slice q hi.length c'] 43))
  have HL := hid fun (V : World) => Rg.live_any V
  by_cases h1 : 6 < lo.length
  · have e1 : decide ((6 : Int) < (lo.length : Int)) = true := by simp; omega
    clear h h1
    go_enter Try.func5, Try.ntmps5
    go_wp2_with fail
    refine (HL.out _).mono ?_
    rintro e w2 ⟨rfl, hb⟩
    have HB2 := hid (HB.out.trans (hb.mono HB.out.size)); clear hb
    go_wp2_with fail
    go_ret
    exact ⟨rfl, HB2.out⟩
  · have e1 : decide ((6 : Int) < (lo.length : Int)) = false := by simp; omega
    have e2 : decide ((6 : Int) < (hi.length : Int)) = true := by simp; omega
    clear h h1
    go_enter Try.func5, Try.ntmps5
    go_wp2_with fail
    refine (HL.out _).mono ?_
    rintro e w2 ⟨rfl, hb⟩
    have HB2 := hid (HB.out.trans (hb.mono HB.out.size)); clear hb
    go_wp2_with fail
    go_ret
    exact ⟨rfl, HB2.out⟩
set_option maxRecDepth 100000 in
set_option maxHeartbeats 4000000 in
theorem rgback_no (lo hi : List Nat) (p q : Option Addr) (c c' : Nat) (a : Int) (w : World) (hp : Pt w p lo) (hq : Pt w q hi) (h1 : lo.length ≤ 6) (h2 : hi.length ≤ 6) (hh : halfB lo hi a = false) :
    Calls Try.prog 5 #[.agg #[.slice p lo.length c, .slice q hi.length c'], .int .i64 a] w fun e w' => e = .returned (.bool true) ∧ Below w.heap.size w w' := by
  have H0 := hid (((((Jp.start w).more hp).more hq)).box (.slice p lo.length c) (.slice q hi.length c'))
  have HL := hid fun (V : World) => Rg.live_any V
  have HRH := hid fun (V : World) (g : Pt V p lo) (g' : Pt V q hi) => refHalves_ok lo hi p q c c' a V g g' (by omega)
  have e1 : decide ((6 : Int) < (lo.length : Int)) = false := by simp; omega
  have e2 : decide ((6 : Int) < (hi.length : Int)) = false := by simp; omega
  unfold HalfPost at HRH
  rw [hh] at HRH
  clear hp hq h1 h2 hh
  generalize xlo lo hi a = XL at *
  generalize xhi lo hi a = XH at *
  generalize ylo lo hi a = YL at *
  generalize yhi lo hi a = YH at *
  go_enter Try.func5, Try.ntmps5
  have x := H0.out.cells (g := w.heap.size) (a := .slice p lo.length c) (b := .slice q hi.length c') (by simp)
  go_wp2_with fail
  refine (HRH.out _ (H0.out.pt (p := p) (by simp)) (H0.out.pt (p := q) (by simp))).mono ?_
  rintro e w2 ⟨p1, c1, p2, c2, p3, c3, p4, c4, rfl, _, _, _, _, hb⟩
  have H1 := hid (((H0.out.step hb).box (.slice p1 XL.length c1) (.slice p2 XH.length c2)).box (.slice p3 YL.length c3) (.slice p4 YH.length c4)); clear hb H0 x
  simp only [World.size_alloc] at H1
  go_wp2_with fail
  refine (HL.out _).mono ?_
  rintro e w3 ⟨rfl, hb⟩
  have H2 := hid (H1.out.step hb); clear hb
  go_wp2_with fail
  go_ret
  exact ⟨rfl, H2.out.below⟩
set_option maxRecDepth 100000 in
set_option maxHeartbeats 4000000 in
theorem rgback_go (lo hi : List Nat) (p q : Option Addr) (c c' : Nat) (i : Nat) (w : World) (hp : Pt w p lo) (hq : Pt w q hi) (h1 : lo.length ≤ 6) (h2 : hi.length ≤ 6) (hh : halfB lo hi (i : Int) = true) :
    Calls Try.prog 5 #[.agg #[.slice p lo.length c, .slice q hi.length c'], .int .i64 (i : Int)] w fun e w' => e = .returned (.bool true) ∧ Below w.heap.size w w' := by
  have H0 := hid (((((Jp.start w).more hp).more hq)).box (.slice p lo.length c) (.slice q hi.length c'))
  have HL := hid fun (V : World) => Rg.live_any V
  have HRH := hid fun (V : World) (g : Pt V p lo) (g' : Pt V q hi) => refHalves_ok lo hi p q c c' (i : Int) V g g' (by omega)
  have e1 : decide ((6 : Int) < (lo.length : Int)) = false := by simp; omega
  have e2 : decide ((6 : Int) < (hi.length : Int)) = false := by simp; omega
  have f2 : ((i : Int) == (i : Int)) = true := by simp
  have hx1 := Nat.le_trans (xlo_len lo hi i) h1
  have hy1 := Nat.le_trans (ylo_len lo hi i) h1
  have HJ := hid (@joined_is _ _ _ _ _ lo hi (join_half hh).1 (join_half hh).2.1 (join_half hh).2.2)
  have HS := hid fun (p q r s : Option Addr) (c1 c2 c3 c4 : Nat) (V : World) (g1 : Pt V p lo) (g2 : Pt V q hi) (g3 : Pt V r lo) (g4 : Pt V s hi) => same_is lo hi p q r s c1 c2 c3 c4 V g1 g2 g3 g4 (by omega) (by omega)
  unfold HalfPost at HRH
  rw [hh] at HRH
  clear hp hq h1 h2 hh
  generalize xlo lo hi i = XL at *
  generalize xhi lo hi i = XH at *
  generalize ylo lo hi i = YL at *
  generalize yhi lo hi i = YH at *
  have HX := hid (And.intro hx1 hy1)
  clear hx1 hy1
  go_enter Try.func5, Try.ntmps5
  have x := H0.out.cells (g := w.heap.size) (a := .slice p lo.length c) (b := .slice q hi.length c') (by simp)
  go_wp2_with fail
  refine (HRH.out _ (H0.out.pt (p := p) (by simp)) (H0.out.pt (p := q) (by simp))).mono ?_
  rintro e w2 ⟨p1, c1, p2, c2, p3, c3, p4, c4, rfl, g1, g2, g3, g4, hb⟩
  have H1 := hid (((((((H0.out.step hb).more g1).more g2).more g3).more g4).box (.slice p1 XL.length c1) (.slice p2 XH.length c2)).box (.slice p3 YL.length c3) (.slice p4 YH.length c4)); clear hb H0 g1 g2 g3 g4 x
  simp only [World.size_alloc] at H1
  have x := H1.out.cells (g := w2.heap.size) (a := .slice p1 XL.length c1) (b := .slice p2 XH.length c2) (by simp)
  have y := H1.out.cells (g := w2.heap.size + 1) (a := .slice p3 YL.length c3) (b := .slice p4 YH.length c4) (by simp)
  go_wp2_with fail
  refine (HJ.out p1 p2 p3 p4 c1 c2 c3 c4 _ (H1.out.pt (p := p1) (l := XL) (by simp)) (H1.out.pt (p := p2) (l := XH) (by simp)) (H1.out.pt (p := p3) (l := YL) (by simp)) (H1.out.pt (p := p4) (l := YH) (by simp)) (by have := HX.out.1; omega) (by have := HX.out.2; omega)).mono ?_
  rintro e w3 ⟨q1, d1, q2, d2, rfl, g1, g2, hb⟩
  have H2 := hid ((((H1.out.step hb).more g1).more g2).box (.slice q1 lo.length d1) (.slice q2 hi.length d2)); clear hb H1 g1 g2 x y
  have x := H2.out.cells (g := w3.heap.size) (a := .slice q1 lo.length d1) (b := .slice q2 hi.length d2) (by simp)
  have y := H2.out.cells (g := w.heap.size) (a := .slice p lo.length c) (b := .slice q hi.length c') (by simp)
  rw [show ((some i : Option Nat).getD 0) = i from rfl, show (some i : Option Nat).isSome = true from rfl]
  go_wp2_with fail
  refine (HS.out q1 q2 p q d1 d2 c c' _ (H2.out.pt (p := q1) (l := lo) (by simp)) (H2.out.pt (p := q2) (l := hi) (by simp)) (H2.out.pt (p := p) (l := lo) (by simp)) (H2.out.pt (p := q) (l := hi) (by simp))).mono ?_
  rintro e w4 ⟨rfl, hb⟩
  have H3 := hid (H2.out.step hb); clear hb H2 x y
  go_wp2_with fail
  refine (HL.out _).mono ?_
  rintro e w5 ⟨rfl, hb⟩
  have H4 := hid (H3.out.step hb); clear hb
  go_wp2_with fail
  go_ret
  exact ⟨rfl, H4.out.below⟩
theorem half_nat {lo hi : List Nat} {a : Int} (h : halfB lo hi a = true) : ∃ i : Nat, a = (i : Int) := by
  obtain ⟨i, e, _⟩ := half_facts h
  exact ⟨i, e⟩
theorem RegionBack_walk (v : Value) (a : Int) (w : World) (h : BoxV w v) (_ : (Lit.int .i64 a).wf = true) :
    Calls Try.prog 5 #[v, .int .i64 a] w fun e w' => e = .returned (.bool true) ∧ Below w.heap.size w w' := by
  obtain ⟨_, _, rfl, ⟨p, lo, c, rfl, hp, _⟩, ⟨q, hi, c', rfl, hq, _⟩⟩ := h
  by_cases hl : lo.length ≤ 6 ∧ hi.length ≤ 6
  · cases hh : halfB lo hi a with
    | false => exact rgback_no lo hi p q c c' a w hp hq hl.1 hl.2 hh
    | true =>
      obtain ⟨i, rfl⟩ := half_nat hh
      exact rgback_go lo hi p q c c' i w hp hq hl.1 hl.2 hh
  · exact rgback_few lo hi p q c c' a w hl
end Go.Proofs.Ytnmhdlincgefeaa

/- The document's Joined of region. -/
namespace Go.Proofs.Ytnmhdlincgefeaa.Rg
open Go.RowKit
open Go.Lib (hid)
open Go.Proofs.Ytnmhdlincgefeaa.Ky
open Go.Proofs.Ytnmhdlincgefeaa.Bk
open Go.Proofs.Ytnmhdlincgefeaa.Pt

theorem hit_none {al ah bl bh : List Nat} {n : Nat} (hok : okJ al ah bl bh = true) (h : ∀ j, j < n → twoB al bh al ah bl bh j = false ∧ twoB bl ah bl bh al ah j = false) : ∀ j, j < n → hitB al ah bl bh j = false := fun j hj => by
  cases hh : hitB al ah bl bh j with
  | false => rfl
  | true =>
    rcases hit_two.1 ⟨hok, hh⟩ with e | e
    · rw [(h j hj).1] at e; cases e
    · rw [(h j hj).2] at e; cases e
theorem ne_both (a b : Nat) (h : a ≠ b) : ((a : Int) != (b : Int)) = true ∧ (a != b) = true := by
  constructor
  · simp; omega
  · simpa using h
theorem eq_both (a b : Nat) (h : a = b) : ((a : Int) != (b : Int)) = false ∧ (a != b) = false := by subst h; simp
set_option maxRecDepth 100000 in
set_option maxHeartbeats 4000000 in
theorem rjoined_bad (al ah bl bh : List Nat) (p q r s : Option Addr) (c1 c2 c3 c4 : Nat) (w : World) (hn : ¬ (ah.length = al.length ∧ bl.length = al.length ∧ bh.length = al.length)) :
    Calls Try.prog 18 #[.agg #[.slice p al.length c1, .slice q ah.length c2], .agg #[.slice r bl.length c3, .slice s bh.length c4]] w (JRet w al ah bl bh none) := by
  have HQ := hid (jent_new w (.slice p al.length c1) (.slice q ah.length c2) (.slice r bl.length c3) (.slice s bh.length c4))
  obtain ⟨W, hW⟩ : ∃ W, ((w.alloc (.cells #[Value.slice p al.length c1, .slice q ah.length c2] 43)).alloc (.cells #[Value.slice r bl.length c3, .slice s bh.length c4] 43)).alloc (.cells #[Value.slice none 0 0, .slice none 0 0] 43) = W := ⟨_, rfl⟩
  rw [hW] at HQ
  have x0 := HQ.out.cells (Below.refl W.heap.size W)
  have y9 := HQ.out.outs (Below.refl W.heap.size W)
  have HY := hid (HQ.out.stored (Below.refl W.heap.size W) (.slice none 0 0) (.slice none 0 0) rfl)
  by_cases h1 : ah.length = al.length
  · have e1 := eq_both _ _ h1
    by_cases h2 : bl.length = al.length
    · have e2 := eq_both _ _ h2
      have e3 := ne_both bh.length al.length (fun h3 => hn ⟨h1, h2, h3⟩)
      clear h1 h2 hn
      go_enter Try.func18, Try.ntmps18
      go_wp2_with fail
      have y2 := HY.out
      refine bodyPost_ret (v := .tuple #[.agg #[.slice none 0 0, .slice none 0 0], .int .i64 0, .bool false]) (by simp [results, Try.results18, go_sem, y2.1]) rfl ?_
      exact JRet.none y2.2.1
    · have e2 := ne_both _ _ h2
      clear h1 h2 hn
      go_enter Try.func18, Try.ntmps18
      go_wp2_with fail
      have y2 := HY.out
      refine bodyPost_ret (v := .tuple #[.agg #[.slice none 0 0, .slice none 0 0], .int .i64 0, .bool false]) (by simp [results, Try.results18, go_sem, y2.1]) rfl ?_
      exact JRet.none y2.2.1
  · have e1 := ne_both _ _ h1
    clear h1 hn
    go_enter Try.func18, Try.ntmps18
    go_wp2_with fail
    have y2 := HY.out
    refine bodyPost_ret (v := .tuple #[.agg #[.slice none 0 0, .slice none 0 0], .int .i64 0, .bool false]) (by simp [results, Try.results18, go_sem, y2.1]) rfl ?_
    exact JRet.none y2.2.1

def putsKd (a : Act) (u62 u65 u66 u8 : Value) : Act := (((a.put (some 48) u62).put (some 51) u65).put (some 52) u66).put (some 10) u8
def opsKd : Array Oper := #[{ dst := some 46, op := Op.fieldAddr 43 (Operand.tmp 2) 0, type := 0, pos := "ref.go:71", after := #[], guard := none }, { dst := some 47, op := Op.load 41 (Operand.tmp 46), type := 41, pos := "ref.go:71", after := #[{ on := 0, ground := Ground.data }], guard := none }, { dst := some 48, op := Op.call { callee := Callee.value (Operand.func 35), args := #[Operand.tmp 47], argTypes := #[41] }, type := 41, pos := "ref.go:71", after := #[{ on := 1, ground := Ground.data }], guard := none }, { dst := some 49, op := Op.fieldAddr 43 (Operand.tmp 3) 1, type := 0, pos := "ref.go:71", after := #[], guard := none }, { dst := some 50, op := Op.load 41 (Operand.tmp 49), type := 41, pos := "ref.go:71", after := #[{ on := 3, ground := Ground.data }], guard := none }, { dst := some 51, op := Op.call { callee := Callee.value (Operand.func 35), args := #[Operand.tmp 50], argTypes := #[41] }, type := 41, pos := "ref.go:71", after := #[{ on := 4, ground := Ground.data }, { on := 2, ground := Ground.chain }], guard := none }, { dst := some 52, op := Op.build 43 #[(0, Operand.tmp 48), (1, Operand.tmp 51)], type := 43, pos := "ref.go:71", after := #[{ on := 2, ground := Ground.data }, { on := 5, ground := Ground.data }], guard := none }, { dst := some 10, op := Op.alloc 43, type := 0, pos := "ref.go:71", after := #[], guard := none }, { dst := none, op := Op.store 43 (Operand.tmp 10) (Operand.tmp 52), type := 0, pos := "ref.go:71", after := #[{ on := 7, ground := Ground.data }, { on := 6, ground := Ground.data }, { on := 5, ground := Ground.chain }, { on := 0, ground := Ground.phase }, { on := 1, ground := Ground.phase }, { on := 2, ground := Ground.phase }, { on := 3, ground := Ground.phase }, { on := 4, ground := Ground.phase }, { on := 5, ground := Ground.phase }, { on := 6, ground := Ground.phase }, { on := 7, ground := Ground.phase }], guard := none }]
theorem readyKdb : ∀ f2 f5 f6 f7 f8 : Bool, ((Region.ready .any opsKd #[true, true, f2, true, true, f5, f6, f7, f8]).all fun i => (decide (i = 2) && !f2) || ((decide (i = 5) && (!f5 && f2)) || ((decide (i = 6) && (!f6 && (f2 && f5))) || ((decide (i = 7) && !f7) || (decide (i = 8) && (!f8 && (f2 && (f5 && (f6 && f7))))))))) = true := by decide +kernel
theorem readyKd (f2 f5 f6 f7 f8 : Bool) (i : Nat) (h : i ∈ Region.ready .any opsKd #[true, true, f2, true, true, f5, f6, f7, f8]) : (i = 2 ∧ f2 = false) ∨ (i = 5 ∧ f5 = false ∧ f2 = true) ∨ (i = 6 ∧ f6 = false ∧ f2 = true ∧ f5 = true) ∨ (i = 7 ∧ f7 = false) ∨ (i = 8 ∧ f8 = false ∧ f2 = true ∧ f5 = true ∧ f6 = true ∧ f7 = true) := by
  have := List.all_eq_true.1 (readyKdb f2 f5 f6 f7 f8) i h
  simpa only [Bool.or_eq_true, Bool.and_eq_true, decide_eq_true_eq, Bool.not_eq_true'] using this
theorem doneKd : ∀ f2 f5 f6 f7 f8 : Bool, Region.ready .any opsKd #[true, true, f2, true, true, f5, f6, f7, f8] = [] → f2 = true ∧ f5 = true ∧ f6 = true ∧ f7 = true ∧ f8 = true := by decide +kernel
set_option maxRecDepth 100000 in
set_option maxHeartbeats 16000000 in
theorem rjoined_ok (al ah bl bh : List Nat) (p q r s : Option Addr) (c1 c2 c3 c4 : Nat) (w : World) (hp : Pt w p al) (hq : Pt w q ah) (hr : Pt w r bl) (hs : Pt w s bh) (h1 : ah.length = al.length) (h2 : bl.length = al.length) (h3 : bh.length = al.length) (hl : al.length ≤ 1000000) :
    Calls Try.prog 18 #[.agg #[.slice p al.length c1, .slice q ah.length c2], .agg #[.slice r bl.length c3, .slice s bh.length c4]] w (JRet w al ah bl bh (joinL al ah bl bh)) := by
  have HQ := hid (jent_new w (.slice p al.length c1) (.slice q ah.length c2) (.slice r bl.length c3) (.slice s bh.length c4))
  obtain ⟨W, hW⟩ : ∃ W, ((w.alloc (.cells #[Value.slice p al.length c1, .slice q ah.length c2] 43)).alloc (.cells #[Value.slice r bl.length c3, .slice s bh.length c4] 43)).alloc (.cells #[Value.slice none 0 0, .slice none 0 0] 43) = W := ⟨_, rfl⟩
  rw [hW] at HQ
  have x0 := HQ.out.cells (Below.refl W.heap.size W)
  have up : ∀ {V : World}, Below W.heap.size W V → Below w.heap.size w V := fun hb => HQ.out.below.trans (hb.mono HQ.out.below.size)
  have HUP : Hid (∀ {V : World}, Below W.heap.size W V → Below w.heap.size w V) := hid up
  have HPP := hid hp; have HPQ := hid hq; have HPR := hid hr; have HPS := hid hs
  have HX := hid fun (V : World) (hb : Below W.heap.size W V) => HQ.out.cells hb
  have HXS := hid fun (V : World) (hb : Below W.heap.size W V) => And.intro (HQ.out.cells hb).1.1 (HQ.out.cells hb).2.2
  have HXT := hid fun (V : World) (hb : Below W.heap.size W V) => And.intro (HQ.out.cells hb).2.1 (HQ.out.cells hb).1.2
  have e1 := eq_both _ _ h1
  have e2 := eq_both _ _ h2
  have e3 := eq_both _ _ h3
  have HLL := hid (show al.length ≤ 1000000 ∧ ah.length = al.length ∧ bl.length = al.length ∧ bh.length = al.length from ⟨hl, h1, h2, h3⟩)
  clear up hp hq hr hs h1 h2 h3
  go_enter Try.func18, Try.ntmps18
  go_wp2_with fail
  clear hW e1 e2 e3 x0
  go_loopw [8] (fun i wr => ∃ k : Nat, k ≤ al.length ∧ i = .int .i64 (k : Int) ∧ (∀ j, j < k → twoB al bh al ah bl bh j = false ∧ twoB bl ah bl bh al ah j = false) ∧ Below W.heap.size W wr) (fun i _ => al.length - (intOf i).toNat)
  case atStart => exact ⟨0, Nat.zero_le _, rfl, fun j hj => absurd hj (Nat.not_lt_zero _), Below.refl _ _⟩
  case round =>
    obtain ⟨k, hk, rfl, hno, hb0⟩ := hrel
    rename World => wo
    have HNO := hid hno
    have HB0 := hid hb0
    have y9 := HQ.out.outs hb0
    have HYN := hid (HQ.out.stored hb0 (.slice none 0 0) (.slice none 0 0) rfl)
    by_cases hlt : k < al.length
    · clear hno hb0 y9
      go_wp2_with fail
      go_loopw [9] (fun i wr => ∃ t : Nat, t ≤ 2 ∧ i = .int .i64 (t : Int) ∧ (1 ≤ t → twoB al bh al ah bl bh k = false) ∧ (2 ≤ t → twoB bl ah bl bh al ah k = false) ∧ Below wo.heap.size wo wr) (fun i _ => 2 - (intOf i).toNat)
      case atStart => exact ⟨0, Nat.zero_le _, rfl, fun h => absurd h (by omega), fun h => absurd h (by omega), Below.refl _ _⟩
      case round =>
        obtain ⟨t, ht, rfl, hf0, hf1, hb⟩ := hrel
        rename World => wr
        have HBI := hid hb
        have HBR := hid (HB0.out.trans (hb.mono HB0.out.size))
        have HF0 := hid hf0; have HF1 := hid hf1
        have HNP := hid (show 0 < al.length by omega)
        have HNQ := hid (show 0 < bh.length by have := HLL.out; omega)
        have HCL := hid fun (V : World) (hV : Below wr.heap.size wr V) => copy_row al p c1 V (HPP.out.below (HUP.out (HBR.out.trans (hV.mono HBR.out.size)))) HNP.out HLL.out.1
        have HCH := hid fun (V : World) (hV : Below wr.heap.size wr V) => copy_row bh s c4 V (HPS.out.below (HUP.out (HBR.out.trans (hV.mono HBR.out.size)))) HNQ.out (by have := HLL.out; omega)
        clear hf0 hf1 hb
        by_cases hlt2 : t < 2
        · have hzz : (0 : Int) ≤ (t : Int) := by omega
          have e43 : decide ((t : Int) < 2) = true := decide_eq_true (by omega)
          go_upto_region 10 with (fail)
          go_cut [10] (fun s10 wx => OneP wr al bh al.length bh.length s10 wx)
          case first =>
            refine wp_region_held_drew (S := (fun V => V.cell? ⟨w.heap.size, 0, none⟩ = some (.slice p al.length c1) ∧ V.cell? ⟨w.heap.size + 1, 1, none⟩ = some (.slice s bh.length c4))) (by kernel_rfl) (by exact (HXS.out _ HBR.out.drew)) (fun hHeld => ?_)
            refine wpAnyH_take (i := 0) (oi := { dst := some 46, op := Op.fieldAddr 43 (Operand.tmp 2) 0, type := 0, pos := "ref.go:71", after := #[], guard := none }) (v := ?vd0) rfl (by kernel_rfl) (by kernel_rfl) (by kernel_rfl) (fun _ _ _ h => h) (Or.inl ⟨by rfl, ?hyd0⟩) (by assumption) ?restd0
            case hyd0 => (intro w hSw; (try dsimp only at hSw); go_simp; (try with_reducible rfl))
            simp only [Act.put, List.setIfInBounds_toArray, List.set_cons_zero, List.set_cons_succ]
            refine wpAnyH_take (i := 1) (oi := { dst := some 47, op := Op.load 41 (Operand.tmp 46), type := 41, pos := "ref.go:71", after := #[{ on := 0, ground := Ground.data }], guard := none }) (v := ?vd1) rfl (by kernel_rfl) (by kernel_rfl) (by kernel_rfl) (fun _ _ _ h => h) (Or.inl ⟨by rfl, ?hyd1⟩) (by assumption) ?restd1
            case hyd1 => (intro w hSw; (try dsimp only at hSw); go_simp; (try with_reducible rfl))
            simp only [Act.put, List.setIfInBounds_toArray, List.set_cons_zero, List.set_cons_succ]
            refine wpAnyH_take (i := 3) (oi := { dst := some 49, op := Op.fieldAddr 43 (Operand.tmp 3) 1, type := 0, pos := "ref.go:71", after := #[], guard := none }) (v := ?vd3) rfl (by kernel_rfl) (by kernel_rfl) (by kernel_rfl) (fun _ _ _ h => h) (Or.inl ⟨by rfl, ?hyd3⟩) (by assumption) ?restd3
            case hyd3 => (intro w hSw; (try dsimp only at hSw); go_simp; (try with_reducible rfl))
            simp only [Act.put, List.setIfInBounds_toArray, List.set_cons_zero, List.set_cons_succ]
            refine wpAnyH_take (i := 4) (oi := { dst := some 50, op := Op.load 41 (Operand.tmp 49), type := 41, pos := "ref.go:71", after := #[{ on := 3, ground := Ground.data }], guard := none }) (v := ?vd4) rfl (by kernel_rfl) (by kernel_rfl) (by kernel_rfl) (fun _ _ _ h => h) (Or.inl ⟨by rfl, ?hyd4⟩) (by assumption) ?restd4
            case hyd4 => (intro w hSw; (try dsimp only at hSw); go_simp; (try with_reducible rfl))
            simp only [Act.put, List.setIfInBounds_toArray, List.set_cons_zero, List.set_cons_succ]
            refine inv_start fun A0 hA0 => ?_
            refine wpAnyH_inv (fun l a v => ∃ f2 f5 f6 f7 f8 u62 u65 u66 u8 a1 c1 a2 c2 g, l = #[true, true, f2, true, true, f5, f6, f7, f8] ∧ a = putsKd A0 u62 u65 u66 u8 ∧ KK wr al bh al.length bh.length f2 f5 f6 f7 f8 u62 u65 u66 u8 a1 c1 a2 c2 g v) ?hS ?hst ?hen _ _ _ _ ?hI ?hl
            case hS =>
              rintro l a v ⟨_, _, _, _, _, _, _, _, _, _, _, _, _, _, _, _, hj⟩
              exact (HXS.out _ (HBR.out.trans (hj.below.mono HBR.out.size)))
            case hI =>
              exact ⟨false, false, false, false, false, _, _, _, _, 0, 0, 0, 0, 0, rfl, by rw [hA0]; rfl, ⟨(Below.refl _ _).drew, nofun, nofun, nofun, nofun, nofun⟩⟩
            case hl => decide
            case hen =>
              rintro l a v ⟨f2, f5, f6, f7, f8, u62, u65, u66, u8, a1, c1, a2, c2, g, rfl, rfl, hj⟩ hr
              obtain ⟨rfl, rfl, rfl, rfl, rfl⟩ := doneKd _ _ _ _ _ hr
              have HJ := hid hj.fin
              clear hj hr
              subst hA0
              simp only [putsKd, Act.put, List.setIfInBounds_toArray, List.set_cons_zero, List.set_cons_succ]
              go_wp2_with fail
              go_meet
              exact HJ.out
            case hst =>
              rintro l a v i ⟨f2, f5, f6, f7, f8, u62, u65, u66, u8, a1, c1, a2, c2, g, rfl, rfl, hj⟩ hi
              have HJ := hid hj
              have HBv := hid hj.below
              clear hj
              rcases readyKd _ _ _ _ _ _ hi with ⟨rfl, rfl⟩ | ⟨rfl, rfl, rfl⟩ | ⟨rfl, rfl, rfl, rfl⟩ | ⟨rfl, rfl⟩ | ⟨rfl, rfl, rfl, rfl, rfl, rfl⟩
              all_goals clear hi
              · refine op_step (i := 2) (o := { dst := some 48, op := Op.call { callee := Callee.value (Operand.func 35), args := #[Operand.tmp 47], argTypes := #[41] }, type := 41, pos := "ref.go:71", after := #[{ on := 1, ground := Ground.data }], guard := none }) rfl (fun K hK => ?_)
                subst hA0
                simp only [putsKd, Act.put, List.setIfInBounds_toArray, List.set_cons_zero, List.set_cons_succ]
                go_simp
                go_at_call 35
                refine (HCL.out _ HBv.out).mono ?_
                rintro e w4 ⟨a, c5, rfl, hr, hg, hb⟩
                refine hK.out _ _ ?_
                exact ⟨true, f5, f6, f7, f8, _, _, _, _, a, c5, _, _, _, rfl, rfl, HJ.out.call1 hr hg hb⟩
              · refine op_step (i := 5) (o := { dst := some 51, op := Op.call { callee := Callee.value (Operand.func 35), args := #[Operand.tmp 50], argTypes := #[41] }, type := 41, pos := "ref.go:71", after := #[{ on := 4, ground := Ground.data }, { on := 2, ground := Ground.chain }], guard := none }) rfl (fun K hK => ?_)
                subst hA0
                simp only [putsKd, Act.put, List.setIfInBounds_toArray, List.set_cons_zero, List.set_cons_succ]
                go_simp
                go_at_call 35
                refine (HCH.out _ HBv.out).mono ?_
                rintro e w4 ⟨a, c5, rfl, hr, hg, hb⟩
                refine hK.out _ _ ?_
                exact ⟨true, true, f6, f7, f8, _, _, _, _, _, _, a, c5, _, rfl, rfl, HJ.out.call2 hr hg hb⟩
              · refine op_step (i := 6) (o := { dst := some 52, op := Op.build 43 #[(0, Operand.tmp 48), (1, Operand.tmp 51)], type := 43, pos := "ref.go:71", after := #[{ on := 2, ground := Ground.data }, { on := 5, ground := Ground.data }], guard := none }) rfl (fun K hK => ?_)
                subst hA0
                obtain ⟨rfl, _⟩ := HJ.out.k2 rfl
                obtain ⟨_, rfl, _⟩ := HJ.out.k5 rfl
                simp only [putsKd, Act.put, List.setIfInBounds_toArray, List.set_cons_zero, List.set_cons_succ]
                go_simp
                refine hK.out _ _ ?_
                exact ⟨true, true, true, f7, f8, _, _, _, _, _, _, _, _, _, rfl, rfl, HJ.out.bld⟩
              · refine op_step (i := 7) (o := { dst := some 10, op := Op.alloc 43, type := 0, pos := "ref.go:71", after := #[], guard := none }) rfl (fun K hK => ?_)
                subst hA0
                simp only [putsKd, Act.put, List.setIfInBounds_toArray, List.set_cons_zero, List.set_cons_succ]
                go_simp
                refine hK.out _ _ ?_
                exact ⟨f2, f5, f6, true, f8, _, _, _, _, _, _, _, _, _, rfl, rfl, HJ.out.al⟩
              · refine op_step (i := 8) (o := { dst := none, op := Op.store 43 (Operand.tmp 10) (Operand.tmp 52), type := 0, pos := "ref.go:71", after := #[{ on := 7, ground := Ground.data }, { on := 6, ground := Ground.data }, { on := 5, ground := Ground.chain }, { on := 0, ground := Ground.phase }, { on := 1, ground := Ground.phase }, { on := 2, ground := Ground.phase }, { on := 3, ground := Ground.phase }, { on := 4, ground := Ground.phase }, { on := 5, ground := Ground.phase }, { on := 6, ground := Ground.phase }, { on := 7, ground := Ground.phase }], guard := none }) rfl (fun K hK => ?_)
                subst hA0
                obtain ⟨rfl, _⟩ := HJ.out.k7 rfl
                obtain ⟨_, _, rfl⟩ := HJ.out.k6 rfl
                have zz := HJ.out.zero
                simp only [putsKd, Act.put, List.setIfInBounds_toArray, List.set_cons_zero, List.set_cons_succ]
                go_simp
                refine hK.out _ _ ?_
                exact ⟨true, true, true, true, true, _, _, _, _, _, _, _, _, _, rfl, rfl, HJ.out.st HNP.out HNQ.out⟩
          case rest =>
            obtain ⟨g7, a1, k1, a2, k2, rfl, v1, v2, v3, v4, v5, v6, v7⟩ := hcut
            rename World => V1
            have HLT := hid (show w.heap.size + 3 ≤ a1 ∧ w.heap.size + 3 ≤ a2 ∧ w.heap.size + 3 ≤ g7 ∧ w.heap.size + 3 ≤ wr.heap.size ∧ wr.heap.size ≤ g7 by have := HQ.out.size; have := HBR.out.size; omega)
            have HB1 := hid (HBR.out.trans (v7.mono HBR.out.size))
            have HB1I := hid (HBI.out.trans (v7.mono HBI.out.size))
            have HV := hid (And.intro v2 (And.intro v3 v4))
            clear v1 v2 v3 v4 v5 v6 v7 HCL HCH hzz e43
            obtain rfl | rfl : t = 0 ∨ t = 1 := by omega
            · obtain ⟨V2, hV2⟩ : ∃ V2, V1 = V2 := ⟨_, rfl⟩
              subst hV2
              have HG2 := hid HV.out.1; have HR1 := hid HV.out.2.1; have HR2 := hid HV.out.2.2
              have HBI := HB1I
              have HBW2 := HB1
              have zg2 := two_cells HG2.out
              have x2 := HX.out _ HB1.out
              go_wp2_with fail
              have hh := refHalves_ok al bh (some ⟨a1, 0, none⟩) (some ⟨a2, 0, none⟩) k1 k2 (k : Int) V1 (HR1.out.pt (mem_of HPP.out.fit)) (HR2.out.pt (mem_of HPS.out.fit)) (by have := HLL.out; omega)
              have HHV := hid hh
              clear hh
              go_wp2_with fail
              refine HHV.out.mono ?_
              rintro e w3 ⟨p1, d1, p2, d2, p3, d3, p4, d4, rfl, q1, q2, q3, q4, hb3⟩
              obtain ⟨t1, t2, t3⟩ := two_new w3 (.cells #[.slice p1 (xlo al bh (k : Int)).length d1, .slice p2 (xhi al bh (k : Int)).length d2] 43) (.cells #[.slice p3 (ylo al bh (k : Int)).length d3, .slice p4 (yhi al bh (k : Int)).length d4] 43)
              have HV3 := hid (show Below V1.heap.size V1 w3 from hb3)
              have HV4' := hid (HV3.out.trans (t3.mono HV3.out.size))
              cases hf : halfB al bh (k : Int) with
              | false =>
                have HT := hid (show twoB al bh al ah bl bh k = false by unfold twoB; rw [hf, Bool.false_and])
                have HVE := hid (HBI.out.trans (HV4'.out.mono HBI.out.size))
                clear t1 t2 t3 q1 q2 q3 q4 hb3 hf
                go_wp2_with fail
                go_roundw
                case rel => exact ⟨1, by omega, rfl, fun _ => HT.out, fun h => absurd h (by omega), HVE.out⟩
                case measure => simp [intOf]
              | true =>
                have HH := (show twoB al bh al ah bl bh k = (sameBoxB (xlo al bh (k : Int)) (xhi al bh (k : Int)) al ah && sameBoxB (ylo al bh (k : Int)) (yhi al bh (k : Int)) bl bh) by unfold twoB; rw [hf, Bool.true_and])
                obtain ⟨e1, e2, e3, e4⟩ := half_eqs hf
                have hll := HLL.out
                have L1 : (xlo al bh (k : Int)).length ≤ 1000000 := by rw [e1]; omega
                have L2 : (xhi al bh (k : Int)).length ≤ 1000000 := by rw [e2, List.length_set]; omega
                have L3 : (ylo al bh (k : Int)).length ≤ 1000000 := by rw [e3, List.length_set]; omega
                have L4 : (yhi al bh (k : Int)).length ≤ 1000000 := by rw [e4]; omega
                clear e1 e2 e3 e4 hll
                generalize xlo al bh (k : Int) = X1 at *
                generalize xhi al bh (k : Int) = X2 at *
                generalize ylo al bh (k : Int) = X3 at *
                generalize yhi al bh (k : Int) = X4 at *
                obtain ⟨V4, hV4⟩ : ∃ V4, (w3.alloc (.cells #[.slice p1 X1.length d1, .slice p2 X2.length d2] 43)).alloc (.cells #[.slice p3 X3.length d3, .slice p4 X4.length d4] 43) = V4 := ⟨_, rfl⟩
                rw [hV4] at t1 t2 t3
                have HV4 := hid (HV3.out.trans (t3.mono HV3.out.size))
                have HBW4 := hid (HBW2.out.trans (HV4.out.mono HBW2.out.size))
                have HXY : Hid (∀ V : World, Below V4.heap.size V4 V → ((V.cell? ⟨w.heap.size, 0, none⟩ = some (.slice p al.length c1) ∧ V.cell? ⟨w.heap.size, 1, none⟩ = some (.slice q ah.length c2)) ∧ (V.cell? ⟨w.heap.size + 1, 0, none⟩ = some (.slice r bl.length c3) ∧ V.cell? ⟨w.heap.size + 1, 1, none⟩ = some (.slice s bh.length c4))) ∧
                    ((V.cell? ⟨w3.heap.size, 0, none⟩ = some (.slice p1 X1.length d1) ∧ V.cell? ⟨w3.heap.size, 1, none⟩ = some (.slice p2 X2.length d2)) ∧ (V.cell? ⟨w3.heap.size + 1, 0, none⟩ = some (.slice p3 X3.length d3) ∧ V.cell? ⟨w3.heap.size + 1, 1, none⟩ = some (.slice p4 X4.length d4)))) := hid fun V hV => by
                  have f1 := two_cells ((hV.block w3.heap.size (Array.getElem?_eq_some_iff.1 t1).1).trans t1)
                  have f2 := two_cells ((hV.block (w3.heap.size + 1) (Array.getElem?_eq_some_iff.1 t2).1).trans t2)
                  exact ⟨HX.out V (HBW4.out.trans (hV.mono HBW4.out.size)), ⟨f1.1, f1.2.1⟩, ⟨f2.1, f2.2.1⟩⟩
                have QX := hid (And.intro (q1.below t3) (And.intro (q2.below t3) (And.intro (q3.below t3) (q4.below t3))))
                have HS1 := hid fun (V : World) (hV : Below V4.heap.size V4 V) => sameBox_ok X1 X2 al ah p1 p2 p q d1 d2 c1 c2 V (QX.out.1.below hV) (QX.out.2.1.below hV) (HPP.out.below (HUP.out (HBW4.out.trans (hV.mono HBW4.out.size)))) (HPQ.out.below (HUP.out (HBW4.out.trans (hV.mono HBW4.out.size)))) L1 L2
                have HS2 := hid fun (V : World) (hV : Below V4.heap.size V4 V) => sameBox_ok X3 X4 bl bh p3 p4 r s d3 d4 c3 c4 V (QX.out.2.2.1.below hV) (QX.out.2.2.2.below hV) (HPR.out.below (HUP.out (HBW4.out.trans (hV.mono HBW4.out.size)))) (HPS.out.below (HUP.out (HBW4.out.trans (hV.mono HBW4.out.size)))) L3 L4
                generalize sameBoxB X1 X2 al ah = s1 at HS1 HH
                generalize sameBoxB X3 X4 bl bh = s2 at HS2 HH
                have HC := hid (Below.refl V4.heap.size V4)
                have HH := hid HH
                have HG4 : Hid (∀ V : World, Below V4.heap.size V4 V → V.heap[g7]? = some (.cells #[.slice (some ⟨a1, 0, none⟩) al.length k1, .slice (some ⟨a2, 0, none⟩) bh.length k2] 43)) := hid fun V hV => (hV.block g7 (Nat.lt_of_lt_of_le (Array.getElem?_eq_some_iff.1 HG2.out).1 HV4.out.size)).trans ((HV4.out.block g7 (Array.getElem?_eq_some_iff.1 HG2.out).1).trans HG2.out)
                have z4 := HXY.out _ HC.out
                clear L1 L2 L3 L4 t1 t2 t3 q1 q2 q3 q4 hb3 hf
                go_wp2_with fail
                clear hV4
                cases s1 with
                | true =>
                  refine (HS1.out _ HC.out).mono ?_
                  rintro e w6 ⟨rfl, hb⟩
                  have HC := hid (HC.out.trans (hb.mono HC.out.size))
                  clear hb z4
                  have z4 := HXY.out _ HC.out
                  go_wp2_with fail
                  cases s2 with
                  | true =>
                    refine (HS2.out _ HC.out).mono ?_
                    rintro e w6 ⟨rfl, hb⟩
                    have HC := hid (HC.out.trans (hb.mono HC.out.size))
                    clear hb z4
                    have z4 := HXY.out _ HC.out
                    have ht : twoB al bh al ah bl bh k = true := HH.out
                    have z1 : zmin al bl = al := (two_box ht).1
                    have z2 : zmax ah bh = bh := (two_box ht).2.1
                    have hok : okJ al ah bl bh = true := (hit_two.2 (.inl ht)).1
                    have HJ := hid (joinL_some hok hlt (hit_two.2 (.inl ht)).2 (hit_none hok HNO.out))
                    have HZ := hid (And.intro z1 z2)
                    clear ht z1 z2 hok
                    have hg4 := two_cells (HG4.out _ HC.out)
                    have y9 := HQ.out.outs (HBW4.out.trans (HC.out.mono HBW4.out.size))
                    have HY := hid (HQ.out.stored (HBW4.out.trans (HC.out.mono HBW4.out.size)) (.slice (some ⟨a1, 0, none⟩) al.length k1) (.slice (some ⟨a2, 0, none⟩) bh.length k2) rfl)
                    have HRA := hid ((HR1.out.below (HV4.out.trans (HC.out.mono HV4.out.size))))
                    have HRB := hid ((HR2.out.below (HV4.out.trans (HC.out.mono HV4.out.size))))
                    go_wp2_with fail
                    have y2 := HY.out
                    refine bodyPost_ret (v := .tuple #[.agg #[.slice (some ⟨a1, 0, none⟩) al.length k1, .slice (some ⟨a2, 0, none⟩) bh.length k2], .int .i64 (k : Int), .bool true]) (by simp [results, Try.results18, go_sem, y2.1]) rfl ?_
                    rw [HJ.out]
                    have hlt3 := HLT.out
                    exact ⟨_, k1, _, k2, by simp only [jlo, jhi, HZ.out.1, HZ.out.2]; rfl, by simp only [jlo, HZ.out.1]; exact (rw_same HRA.out (y2.2.2 _ (by omega))).pt (mem_of HPP.out.fit), by simp only [jhi, HZ.out.2]; exact (rw_same HRB.out (y2.2.2 _ (by omega))).pt (mem_of HPS.out.fit), y2.2.1⟩
                  | false =>
                    refine (HS2.out _ HC.out).mono ?_
                    rintro e w6 ⟨rfl, hb⟩
                    have HC := hid (HC.out.trans (hb.mono HC.out.size))
                    clear hb z4
                    have z4 := HXY.out _ HC.out
                    have HT := hid (show twoB al bh al ah bl bh k = false from HH.out)
                    have HVE := hid (HBI.out.trans ((HV4.out.trans (HC.out.mono HV4.out.size)).mono HBI.out.size))
                    go_wp2_with fail
                    go_roundw
                    case rel => exact ⟨1, by omega, rfl, fun _ => HT.out, fun h => absurd h (by omega), HVE.out⟩
                    case measure => simp [intOf]
                | false =>
                  refine (HS1.out _ HC.out).mono ?_
                  rintro e w6 ⟨rfl, hb⟩
                  have HC := hid (HC.out.trans (hb.mono HC.out.size))
                  clear hb z4
                  have z4 := HXY.out _ HC.out
                  cases s2
                  all_goals
                    have HT := hid (show twoB al bh al ah bl bh k = false from HH.out)
                    have HVE := hid (HBI.out.trans ((HV4.out.trans (HC.out.mono HV4.out.size)).mono HBI.out.size))
                    go_wp2_with fail
                    go_roundw
                    case rel => exact ⟨1, by omega, rfl, fun _ => HT.out, fun h => absurd h (by omega), HVE.out⟩
                    case measure => simp [intOf]
            · have HT0 := hid (HF0.out (by omega))
              have x1 := HXT.out _ HB1.out
              have zg1 := two_cells HV.out.1
              have HCA := hid fun (V : World) (hV : Below V1.heap.size V1 V) => copy_row bl r c3 V (HPR.out.below (HUP.out (HB1.out.trans (hV.mono HB1.out.size)))) (by have := HLL.out; have := HNP.out; omega) (by have := HLL.out; omega)
              have HCB := hid fun (V : World) (hV : Below V1.heap.size V1 V) => copy_row ah q c2 V (HPQ.out.below (HUP.out (HB1.out.trans (hV.mono HB1.out.size)))) (by have := HLL.out; have := HNP.out; omega) (by have := HLL.out; omega)
              have HZ7 : Hid (∀ (X : World), (X.cell? ⟨w.heap.size + 1, 0, none⟩ = some (.slice r bl.length c3) ∧ X.cell? ⟨w.heap.size, 1, none⟩ = some (.slice q ah.length c2)) → ∀ (u v : Value), ((X.setCell ⟨g7, 0, none⟩ u).setCell ⟨g7, 1, none⟩ v).cell? ⟨w.heap.size + 1, 0, none⟩ = some (.slice r bl.length c3) ∧ ((X.setCell ⟨g7, 0, none⟩ u).setCell ⟨g7, 1, none⟩ v).cell? ⟨w.heap.size, 1, none⟩ = some (.slice q ah.length c2)) := hid fun X h u v => by
                have hlt7 := HLT.out
                refine ⟨(World.cell?_of_block ?_).trans h.1, (World.cell?_of_block ?_).trans h.2⟩
                · rw [Below.heap_setCell _ ⟨_, 1, none⟩ _ _ (by show w.heap.size + 1 ≠ g7; omega), Below.heap_setCell _ ⟨_, 0, none⟩ _ _ (by show w.heap.size + 1 ≠ g7; omega)]
                · rw [Below.heap_setCell _ ⟨_, 1, none⟩ _ _ (by show w.heap.size ≠ g7; omega), Below.heap_setCell _ ⟨_, 0, none⟩ _ _ (by show w.heap.size ≠ g7; omega)]
              go_wp2_with fail
              go_region_held3 (fun V => V.cell? ⟨w.heap.size + 1, 0, none⟩ = some (.slice r bl.length c3) ∧ V.cell? ⟨w.heap.size, 1, none⟩ = some (.slice q ah.length c2)) (first | exact x1 | exact z5 | exact z6 | exact z7 _ _ | go_keep)
                (first
                  | (go_at_call 35; refine (HCA.out _ (Below.refl _ _).drew).mono ?_; rintro e w5 ⟨b1, m1, rfl, hr5, hg5, hb5⟩; have HR5 := hid hr5; have HG5 := hid (show V1.heap.size ≤ b1 from hg5); have HB5 := hid (show Below V1.heap.size V1 w5 from (Below.refl _ V1).drew.trans hb5); have z5 := HXT.out _ (HB1.out.trans (HB5.out.mono HB1.out.size)); clear hr5 hg5 hb5)
                  | (go_at_call 35; refine (HCB.out _ HB5.out).mono ?_; rintro e w6 ⟨b2, m2, rfl, hr6, hg6, hb6⟩; have HR6 := hid hr6; have HG6 := hid hg6; have HR5' := hid (HR5.out.below hb6); have HB6 := hid (HB5.out.trans (hb6.mono HB5.out.size)); have z6 := HXT.out _ (HB1.out.trans (HB6.out.mono HB1.out.size)); have zg6 := two_cells ((HB6.out.block g7 (Array.getElem?_eq_some_iff.1 HV.out.1).1).trans HV.out.1); have z7 := HZ7.out w6 z6; clear hr6 hg6 hb6 zg1)
                  | fail)
              have hgv := (Array.getElem?_eq_some_iff.1 HV.out.1).1
              have h5 := HG5.out
              have h6 := HG6.out
              have h56 := HR5.out.lt
              have hb1s := HB1.out.size
              have hqs := HQ.out.size
              have hl7 := HLT.out
              have hg6' := (HB6.out.block g7 hgv).trans HV.out.1
              have HG2 := hid (two_set hg6' (.slice (some ⟨b1, 0, none⟩) bl.length m1) (.slice (some ⟨b2, 0, none⟩) ah.length m2))
              have HR1 := hid ((HR5'.out.far (p := ⟨g7, 0, none⟩) (by show b1 ≠ g7; omega) (.slice (some ⟨b1, 0, none⟩) bl.length m1)).far (p := ⟨g7, 1, none⟩) (by show b1 ≠ g7; omega) (.slice (some ⟨b2, 0, none⟩) ah.length m2))
              have HR2 := hid ((HR6.out.far (p := ⟨g7, 0, none⟩) (by show b2 ≠ g7; omega) (.slice (some ⟨b1, 0, none⟩) bl.length m1)).far (p := ⟨g7, 1, none⟩) (by show b2 ≠ g7; omega) (.slice (some ⟨b2, 0, none⟩) ah.length m2))
              have HBW2 := hid (((HB1.out.trans (HB6.out.mono HB1.out.size)).setCell (p := ⟨g7, 0, none⟩) (by show W.heap.size ≤ g7; omega) (.slice (some ⟨b1, 0, none⟩) bl.length m1)).setCell (p := ⟨g7, 1, none⟩) (by show W.heap.size ≤ g7; omega) (.slice (some ⟨b2, 0, none⟩) ah.length m2))
              have hwo : wo.heap.size ≤ wr.heap.size := HBI.out.size
              have HBI := hid (((HB1I.out.trans (HB6.out.mono HB1I.out.size)).setCell (p := ⟨g7, 0, none⟩) (by show wo.heap.size ≤ g7; omega) (.slice (some ⟨b1, 0, none⟩) bl.length m1)).setCell (p := ⟨g7, 1, none⟩) (by show wo.heap.size ≤ g7; omega) (.slice (some ⟨b2, 0, none⟩) ah.length m2))
              have HLT := hid (show w.heap.size + 3 ≤ b1 ∧ w.heap.size + 3 ≤ b2 by omega)
              clear z5 z6 z7 zg6 hg6' hgv h5 h6 h56 hb1s hqs hl7 hwo x1
              obtain ⟨V2, hV2⟩ : ∃ V2, (w6.setCell ⟨g7, 0, none⟩ (.slice (some ⟨b1, 0, none⟩) bl.length m1)).setCell ⟨g7, 1, none⟩ (.slice (some ⟨b2, 0, none⟩) ah.length m2) = V2 := ⟨_, rfl⟩
              rw [hV2] at HG2 HR1 HR2 HBW2 HBI
              have zg2 := two_cells HG2.out
              go_wp2_with fail
              clear hV2
              have hh := refHalves_ok bl ah (some ⟨b1, 0, none⟩) (some ⟨b2, 0, none⟩) m1 m2 (k : Int) V2 (HR1.out.pt (mem_of HPR.out.fit)) (HR2.out.pt (mem_of HPQ.out.fit)) (by have := HLL.out; omega)
              have HHV := hid hh
              clear hh
              go_wp2_with fail
              refine HHV.out.mono ?_
              rintro e w3 ⟨p1, d1, p2, d2, p3, d3, p4, d4, rfl, q1, q2, q3, q4, hb3⟩
              obtain ⟨t1, t2, t3⟩ := two_new w3 (.cells #[.slice p1 (xlo bl ah (k : Int)).length d1, .slice p2 (xhi bl ah (k : Int)).length d2] 43) (.cells #[.slice p3 (ylo bl ah (k : Int)).length d3, .slice p4 (yhi bl ah (k : Int)).length d4] 43)
              have HV3 := hid (show Below V2.heap.size V2 w3 from hb3)
              have HV4' := hid (HV3.out.trans (t3.mono HV3.out.size))
              cases hf : halfB bl ah (k : Int) with
              | false =>
                have HT := hid (show twoB bl ah bl bh al ah k = false by unfold twoB; rw [hf, Bool.false_and])
                have HVE := hid (HBI.out.trans (HV4'.out.mono HBI.out.size))
                clear t1 t2 t3 q1 q2 q3 q4 hb3 hf
                go_wp2_with fail
                go_roundw
                case rel => exact ⟨2, by omega, rfl, fun _ => HT0.out, fun _ => HT.out, HVE.out⟩
                case measure => simp [intOf]
              | true =>
                have HH := (show twoB bl ah bl bh al ah k = (sameBoxB (xlo bl ah (k : Int)) (xhi bl ah (k : Int)) bl bh && sameBoxB (ylo bl ah (k : Int)) (yhi bl ah (k : Int)) al ah) by unfold twoB; rw [hf, Bool.true_and])
                obtain ⟨e1, e2, e3, e4⟩ := half_eqs hf
                have hll := HLL.out
                have L1 : (xlo bl ah (k : Int)).length ≤ 1000000 := by rw [e1]; omega
                have L2 : (xhi bl ah (k : Int)).length ≤ 1000000 := by rw [e2, List.length_set]; omega
                have L3 : (ylo bl ah (k : Int)).length ≤ 1000000 := by rw [e3, List.length_set]; omega
                have L4 : (yhi bl ah (k : Int)).length ≤ 1000000 := by rw [e4]; omega
                clear e1 e2 e3 e4 hll
                generalize xlo bl ah (k : Int) = X1 at *
                generalize xhi bl ah (k : Int) = X2 at *
                generalize ylo bl ah (k : Int) = X3 at *
                generalize yhi bl ah (k : Int) = X4 at *
                obtain ⟨V4, hV4⟩ : ∃ V4, (w3.alloc (.cells #[.slice p1 X1.length d1, .slice p2 X2.length d2] 43)).alloc (.cells #[.slice p3 X3.length d3, .slice p4 X4.length d4] 43) = V4 := ⟨_, rfl⟩
                rw [hV4] at t1 t2 t3
                have HV4 := hid (HV3.out.trans (t3.mono HV3.out.size))
                have HBW4 := hid (HBW2.out.trans (HV4.out.mono HBW2.out.size))
                have HXY : Hid (∀ V : World, Below V4.heap.size V4 V → ((V.cell? ⟨w.heap.size, 0, none⟩ = some (.slice p al.length c1) ∧ V.cell? ⟨w.heap.size, 1, none⟩ = some (.slice q ah.length c2)) ∧ (V.cell? ⟨w.heap.size + 1, 0, none⟩ = some (.slice r bl.length c3) ∧ V.cell? ⟨w.heap.size + 1, 1, none⟩ = some (.slice s bh.length c4))) ∧
                    ((V.cell? ⟨w3.heap.size, 0, none⟩ = some (.slice p1 X1.length d1) ∧ V.cell? ⟨w3.heap.size, 1, none⟩ = some (.slice p2 X2.length d2)) ∧ (V.cell? ⟨w3.heap.size + 1, 0, none⟩ = some (.slice p3 X3.length d3) ∧ V.cell? ⟨w3.heap.size + 1, 1, none⟩ = some (.slice p4 X4.length d4)))) := hid fun V hV => by
                  have f1 := two_cells ((hV.block w3.heap.size (Array.getElem?_eq_some_iff.1 t1).1).trans t1)
                  have f2 := two_cells ((hV.block (w3.heap.size + 1) (Array.getElem?_eq_some_iff.1 t2).1).trans t2)
                  exact ⟨HX.out V (HBW4.out.trans (hV.mono HBW4.out.size)), ⟨f1.1, f1.2.1⟩, ⟨f2.1, f2.2.1⟩⟩
                have QX := hid (And.intro (q1.below t3) (And.intro (q2.below t3) (And.intro (q3.below t3) (q4.below t3))))
                have HS1 := hid fun (V : World) (hV : Below V4.heap.size V4 V) => sameBox_ok X1 X2 bl bh p1 p2 r s d1 d2 c3 c4 V (QX.out.1.below hV) (QX.out.2.1.below hV) (HPR.out.below (HUP.out (HBW4.out.trans (hV.mono HBW4.out.size)))) (HPS.out.below (HUP.out (HBW4.out.trans (hV.mono HBW4.out.size)))) L1 L2
                have HS2 := hid fun (V : World) (hV : Below V4.heap.size V4 V) => sameBox_ok X3 X4 al ah p3 p4 p q d3 d4 c1 c2 V (QX.out.2.2.1.below hV) (QX.out.2.2.2.below hV) (HPP.out.below (HUP.out (HBW4.out.trans (hV.mono HBW4.out.size)))) (HPQ.out.below (HUP.out (HBW4.out.trans (hV.mono HBW4.out.size)))) L3 L4
                generalize sameBoxB X1 X2 bl bh = s1 at HS1 HH
                generalize sameBoxB X3 X4 al ah = s2 at HS2 HH
                have HC := hid (Below.refl V4.heap.size V4)
                have HH := hid HH
                have HG4 : Hid (∀ V : World, Below V4.heap.size V4 V → V.heap[g7]? = some (.cells #[.slice (some ⟨b1, 0, none⟩) bl.length m1, .slice (some ⟨b2, 0, none⟩) ah.length m2] 43)) := hid fun V hV => (hV.block g7 (Nat.lt_of_lt_of_le (Array.getElem?_eq_some_iff.1 HG2.out).1 HV4.out.size)).trans ((HV4.out.block g7 (Array.getElem?_eq_some_iff.1 HG2.out).1).trans HG2.out)
                have z4 := HXY.out _ HC.out
                clear L1 L2 L3 L4 t1 t2 t3 q1 q2 q3 q4 hb3 hf
                go_wp2_with fail
                clear hV4
                cases s1 with
                | true =>
                  refine (HS1.out _ HC.out).mono ?_
                  rintro e w6 ⟨rfl, hb⟩
                  have HC := hid (HC.out.trans (hb.mono HC.out.size))
                  clear hb z4
                  have z4 := HXY.out _ HC.out
                  go_wp2_with fail
                  cases s2 with
                  | true =>
                    refine (HS2.out _ HC.out).mono ?_
                    rintro e w6 ⟨rfl, hb⟩
                    have HC := hid (HC.out.trans (hb.mono HC.out.size))
                    clear hb z4
                    have z4 := HXY.out _ HC.out
                    have ht : twoB bl ah bl bh al ah k = true := HH.out
                    have z1 : zmin al bl = bl := by rw [zmin_comm]; exact (two_box ht).1
                    have z2 : zmax ah bh = ah := by rw [zmax_comm]; exact (two_box ht).2.1
                    have hok : okJ al ah bl bh = true := (hit_two.2 (.inr ht)).1
                    have HJ := hid (joinL_some hok hlt (hit_two.2 (.inr ht)).2 (hit_none hok HNO.out))
                    have HZ := hid (And.intro z1 z2)
                    clear ht z1 z2 hok
                    have hg4 := two_cells (HG4.out _ HC.out)
                    have y9 := HQ.out.outs (HBW4.out.trans (HC.out.mono HBW4.out.size))
                    have HY := hid (HQ.out.stored (HBW4.out.trans (HC.out.mono HBW4.out.size)) (.slice (some ⟨b1, 0, none⟩) bl.length m1) (.slice (some ⟨b2, 0, none⟩) ah.length m2) rfl)
                    have HRA := hid ((HR1.out.below (HV4.out.trans (HC.out.mono HV4.out.size))))
                    have HRB := hid ((HR2.out.below (HV4.out.trans (HC.out.mono HV4.out.size))))
                    go_wp2_with fail
                    have y2 := HY.out
                    refine bodyPost_ret (v := .tuple #[.agg #[.slice (some ⟨b1, 0, none⟩) bl.length m1, .slice (some ⟨b2, 0, none⟩) ah.length m2], .int .i64 (k : Int), .bool true]) (by simp [results, Try.results18, go_sem, y2.1]) rfl ?_
                    rw [HJ.out]
                    have hlt3 := HLT.out
                    exact ⟨_, m1, _, m2, by simp only [jlo, jhi, HZ.out.1, HZ.out.2]; rfl, by simp only [jlo, HZ.out.1]; exact (rw_same HRA.out (y2.2.2 _ (by omega))).pt (mem_of HPR.out.fit), by simp only [jhi, HZ.out.2]; exact (rw_same HRB.out (y2.2.2 _ (by omega))).pt (mem_of HPQ.out.fit), y2.2.1⟩
                  | false =>
                    refine (HS2.out _ HC.out).mono ?_
                    rintro e w6 ⟨rfl, hb⟩
                    have HC := hid (HC.out.trans (hb.mono HC.out.size))
                    clear hb z4
                    have z4 := HXY.out _ HC.out
                    have HT := hid (show twoB bl ah bl bh al ah k = false from HH.out)
                    have HVE := hid (HBI.out.trans ((HV4.out.trans (HC.out.mono HV4.out.size)).mono HBI.out.size))
                    go_wp2_with fail
                    go_roundw
                    case rel => exact ⟨2, by omega, rfl, fun _ => HT0.out, fun _ => HT.out, HVE.out⟩
                    case measure => simp [intOf]
                | false =>
                  refine (HS1.out _ HC.out).mono ?_
                  rintro e w6 ⟨rfl, hb⟩
                  have HC := hid (HC.out.trans (hb.mono HC.out.size))
                  clear hb z4
                  have z4 := HXY.out _ HC.out
                  cases s2
                  all_goals
                    have HT := hid (show twoB bl ah bl bh al ah k = false from HH.out)
                    have HVE := hid (HBI.out.trans ((HV4.out.trans (HC.out.mono HV4.out.size)).mono HBI.out.size))
                    go_wp2_with fail
                    go_roundw
                    case rel => exact ⟨2, by omega, rfl, fun _ => HT0.out, fun _ => HT.out, HVE.out⟩
                    case measure => simp [intOf]
        · obtain rfl : t = 2 := by omega
          have HT0 := hid (HF0.out (by omega)); have HT1 := hid (HF1.out (by omega))
          clear HCL HCH HNP HNQ
          go_wp2_with fail
          go_roundw
          case rel => exact ⟨k + 1, by omega, by go_num, fun j hj => by rcases Nat.lt_succ_iff_lt_or_eq.1 hj with h | rfl; exact HNO.out j h; exact ⟨HT0.out, HT1.out⟩, HBR.out⟩
          case measure => simp [intOf]; omega
    · obtain rfl : k = al.length := by omega
      have HJN := hid (show joinL al ah bl bh = none by
        cases hok : okJ al ah bl bh with
        | false => exact joinL_no hok
        | true => exact joinL_none (hit_none hok HNO.out))
      clear hno hb0
      go_wp2_with fail
      have y2 := HYN.out
      refine bodyPost_ret (v := .tuple #[.agg #[.slice none 0 0, .slice none 0 0], .int .i64 0, .bool false]) (by simp [results, Try.results18, go_sem, y2.1]) rfl ?_
      rw [HJN.out]
      exact JRet.none y2.2.1
end Go.Proofs.Ytnmhdlincgefeaa.Rg

/- RegionJoins walked. -/
namespace Go.Proofs.Ytnmhdlincgefeaa.Rg
open Go.RowKit
open Go.Lib (hid)
open Go.Proofs.Ytnmhdlincgefeaa.Ky
open Go.Proofs.Ytnmhdlincgefeaa.Pt
theorem zmin_le (l m : List Nat) : (zmin l m).length ≤ l.length := by unfold zmin; simp; omega
theorem zmax_le (l m : List Nat) : (zmax l m).length ≤ l.length := by unfold zmax; simp; omega
theorem jlo_le (l m : List Nat) (r : Option Nat) : (jlo l m r).length ≤ l.length := by
  cases r with
  | none => exact Nat.zero_le _
  | some _ => exact zmin_le l m
theorem jhi_le (l m : List Nat) (r : Option Nat) : (jhi l m r).length ≤ l.length := by
  cases r with
  | none => exact Nat.zero_le _
  | some _ => exact zmax_le l m
theorem jlo_comm (l m : List Nat) (r : Option Nat) : jlo l m r = jlo m l r := by
  cases r with
  | none => rfl
  | some _ => exact zmin_comm l m
theorem jhi_comm (l m : List Nat) (r : Option Nat) : jhi l m r = jhi m l r := by
  cases r with
  | none => rfl
  | some _ => exact zmax_comm l m
/-- the document's Joined, whatever is asked -/
theorem rjoined_is {al ah bl bh : List Nat} {r : Option Nat} {L H : List Nat} (e : joinL al ah bl bh = r) (e1 : jlo al bl r = L) (e2 : jhi ah bh r = H) (p q r' s : Option Addr) (c1 c2 c3 c4 : Nat) (w : World) (hp : Pt w p al) (hq : Pt w q ah) (hr : Pt w r' bl) (hs : Pt w s bh) (hl : al.length ≤ 1000000) :
    Calls Try.prog 18 #[.agg #[.slice p al.length c1, .slice q ah.length c2], .agg #[.slice r' bl.length c3, .slice s bh.length c4]] w fun e w' => ∃ p c q c', e = .returned (.tuple #[.agg #[.slice p L.length c, .slice q H.length c'], .int .i64 (((r.getD 0 : Nat)) : Int), .bool r.isSome]) ∧ Pt w' p L ∧ Pt w' q H ∧ Below w.heap.size w w' := by
  have h : Calls Try.prog 18 #[.agg #[.slice p al.length c1, .slice q ah.length c2], .agg #[.slice r' bl.length c3, .slice s bh.length c4]] w (JRet w al ah bl bh (joinL al ah bl bh)) := by
    by_cases hn : ah.length = al.length ∧ bl.length = al.length ∧ bh.length = al.length
    · exact rjoined_ok al ah bl bh p q r' s c1 c2 c3 c4 w hp hq hr hs hn.1 hn.2.1 hn.2.2 hl
    · have ho : okJ al ah bl bh = false := by
        cases h : okJ al ah bl bh with
        | false => rfl
        | true =>
          have := okJ_len h
          exact absurd ⟨this.1.symm, this.2.1.symm, this.2.2.1.symm⟩ hn
      rw [joinL_no ho]
      exact rjoined_bad al ah bl bh p q r' s c1 c2 c3 c4 w hn
  rw [e] at h
  unfold JRet at h
  rw [e1, e2] at h
  exact h
end Go.Proofs.Ytnmhdlincgefeaa.Rg
namespace Go.Proofs.Ytnmhdlincgefeaa
open Go.RowKit
open Go.Lib (hid)
open Go.ChangeShapes Go.WideShapes Go.Joins
open Go.Proofs.Ytnmhdlincgefeaa.Ky
open Go.Proofs.Ytnmhdlincgefeaa.Pt
open Go.Proofs.Ytnmhdlincgefeaa.Rg
set_option maxRecDepth 100000 in
theorem RegionJoins_open0 {H : Type} {enc : TypeId × Value → H} {W : World} {base : Nat} {v : Value} {d : DataW H} {p : List MemPlace} (hv : Value.okWide Try.prog W .any base 43 v) (h : DataW.Trod enc Try.prog W 0 (fun _ => true) true 43 v d p) : BoxV W v := open_boxv hv h
set_option maxRecDepth 100000 in
theorem RegionJoins_open1 {H : Type} {enc : TypeId × Value → H} {W : World} {base : Nat} {v : Value} {d : DataW H} {p : List MemPlace} (hv : Value.okWide Try.prog W .any base 43 v) (h : DataW.Trod enc Try.prog W 0 (fun _ => true) true 43 v d p) : BoxV W v := open_boxv hv h
set_option maxRecDepth 100000 in
set_option maxHeartbeats 2000000 in
theorem rgjoins_few (al ah bl bh : List Nat) (p q r s : Option Addr) (c1 c2 c3 c4 : Nat) (w : World) (h : ¬ (al.length ≤ 20 ∧ ah.length ≤ 20 ∧ bl.length ≤ 20 ∧ bh.length ≤ 20)) :
    Calls Try.prog 4 #[.agg #[.slice p al.length c1, .slice q ah.length c2], .agg #[.slice r bl.length c3, .slice s bh.length c4]] w fun e w' => e = .returned (.bool true) ∧ Below w.heap.size w w' := by
  have H0 := hid ((((Jp.start w).box (.slice p al.length c1) (.slice q ah.length c2))).box (.slice r bl.length c3) (.slice s bh.length c4))
  simp only [World.size_alloc] at H0
  have HL := hid fun (V : World) => Rg.live_any V
  by_cases h1 : 20 < al.length
  · have e1 : decide ((20 : Int) < (al.length : Int)) = true := by simp; omega
    clear h h1
    go_enter Try.func4, Try.ntmps4
    have x := H0.out.cells (g := w.heap.size) (a := .slice p al.length c1) (b := .slice q ah.length c2) (by simp)
    go_wp2_with fail
    refine (HL.out _).mono ?_
    rintro e w2 ⟨rfl, hb⟩
    have H1 := hid (H0.out.step hb); clear hb
    go_wp2_with fail
    go_ret
    exact ⟨rfl, H1.out.below⟩
  · have e1 : decide ((20 : Int) < (al.length : Int)) = false := by simp; omega
    by_cases h2 : 20 < ah.length
    · have e2 : decide ((20 : Int) < (ah.length : Int)) = true := by simp; omega
      clear h h1 h2
      go_enter Try.func4, Try.ntmps4
      have x := H0.out.cells (g := w.heap.size) (a := .slice p al.length c1) (b := .slice q ah.length c2) (by simp)
      go_wp2_with fail
      refine (HL.out _).mono ?_
      rintro e w2 ⟨rfl, hb⟩
      have H1 := hid (H0.out.step hb); clear hb
      go_wp2_with fail
      go_ret
      exact ⟨rfl, H1.out.below⟩
    · have e2 : decide ((20 : Int) < (ah.length : Int)) = false := by simp; omega
      by_cases h3 : 20 < bl.length
      · have e3 : decide ((20 : Int) < (bl.length : Int)) = true := by simp; omega
        clear h h1 h2 h3
        go_enter Try.func4, Try.ntmps4
        have x := H0.out.cells (g := w.heap.size) (a := .slice p al.length c1) (b := .slice q ah.length c2) (by simp)
        have y := H0.out.cells (g := w.heap.size + 1) (a := .slice r bl.length c3) (b := .slice s bh.length c4) (by simp)
        go_wp2_with fail
        refine (HL.out _).mono ?_
        rintro e w2 ⟨rfl, hb⟩
        have H1 := hid (H0.out.step hb); clear hb
        go_wp2_with fail
        go_ret
        exact ⟨rfl, H1.out.below⟩
      · have e3 : decide ((20 : Int) < (bl.length : Int)) = false := by simp; omega
        have e4 : decide ((20 : Int) < (bh.length : Int)) = true := by simp; omega
        clear h h1 h2 h3
        go_enter Try.func4, Try.ntmps4
        have x := H0.out.cells (g := w.heap.size) (a := .slice p al.length c1) (b := .slice q ah.length c2) (by simp)
        have y := H0.out.cells (g := w.heap.size + 1) (a := .slice r bl.length c3) (b := .slice s bh.length c4) (by simp)
        go_wp2_with fail
        refine (HL.out _).mono ?_
        rintro e w2 ⟨rfl, hb⟩
        have H1 := hid (H0.out.step hb); clear hb
        go_wp2_with fail
        go_ret
        exact ⟨rfl, H1.out.below⟩
set_option maxRecDepth 100000 in
set_option maxHeartbeats 4000000 in
theorem rgjoins_go (al ah bl bh : List Nat) (p q r s : Option Addr) (c1 c2 c3 c4 : Nat) (w : World) (hp : Pt w p al) (hq : Pt w q ah) (hr : Pt w r bl) (hs : Pt w s bh) (h1 : al.length ≤ 20) (h2 : ah.length ≤ 20) (h3 : bl.length ≤ 20) (h4 : bh.length ≤ 20) :
    Calls Try.prog 4 #[.agg #[.slice p al.length c1, .slice q ah.length c2], .agg #[.slice r bl.length c3, .slice s bh.length c4]] w fun e w' => e = .returned (.bool true) ∧ Below w.heap.size w w' := by
  have H0 := hid ((((((((Jp.start w).more hp).more hq).more hr).more hs)).box (.slice p al.length c1) (.slice q ah.length c2)).box (.slice r bl.length c3) (.slice s bh.length c4))
  simp only [World.size_alloc] at H0
  have HL := hid fun (V : World) => Rg.live_any V
  have hx := Nat.le_trans (jlo_le al bl (joinL al ah bl bh)) h1
  have hy := Nat.le_trans (jhi_le ah bh (joinL al ah bl bh)) h2
  have HJ := hid fun (V : World) (g1 : Pt V p al) (g2 : Pt V q ah) (g3 : Pt V r bl) (g4 : Pt V s bh) => joined_is (r := joinL al ah bl bh) rfl rfl rfl p q r s c1 c2 c3 c4 V g1 g2 g3 g4 (by omega) (by omega)
  have HR := hid fun (V : World) (g1 : Pt V p al) (g2 : Pt V q ah) (g3 : Pt V r bl) (g4 : Pt V s bh) => rjoined_is (r := joinL al ah bl bh) rfl rfl rfl p q r s c1 c2 c3 c4 V g1 g2 g3 g4 (by omega)
  have HK := hid fun (V : World) (g1 : Pt V p al) (g2 : Pt V q ah) (g3 : Pt V r bl) (g4 : Pt V s bh) => joined_is (joinL_comm bl bh al ah) (jlo_comm bl al (joinL al ah bl bh)) (jhi_comm bh ah (joinL al ah bl bh)) r s p q c3 c4 c1 c2 V g3 g4 g1 g2 (by omega) (by omega)
  have HS := hid fun (p q r s : Option Addr) (c1 c2 c3 c4 : Nat) (V : World) (g1 : Pt V p (jlo al bl (joinL al ah bl bh))) (g2 : Pt V q (jhi ah bh (joinL al ah bl bh))) (g3 : Pt V r (jlo al bl (joinL al ah bl bh))) (g4 : Pt V s (jhi ah bh (joinL al ah bl bh))) => same_is _ _ p q r s c1 c2 c3 c4 V g1 g2 g3 g4 (by omega) (by omega)
  have e1 : decide ((20 : Int) < (al.length : Int)) = false := by simp; omega
  have e2 : decide ((20 : Int) < (ah.length : Int)) = false := by simp; omega
  have e3 : decide ((20 : Int) < (bl.length : Int)) = false := by simp; omega
  have e4 : decide ((20 : Int) < (bh.length : Int)) = false := by simp; omega
  clear hp hq hr hs h1 h2 h3 h4 hx hy
  generalize jlo al bl (joinL al ah bl bh) = L at *
  generalize jhi ah bh (joinL al ah bl bh) = H at *
  generalize (((joinL al ah bl bh).getD 0 : Nat) : Int) = z at *
  generalize (joinL al ah bl bh).isSome = b at *
  have f1 : (z == z) = true := by simp
  have f2 : (b == b) = true := by simp
  go_enter Try.func4, Try.ntmps4
  have x := H0.out.cells (g := w.heap.size) (a := .slice p al.length c1) (b := .slice q ah.length c2) (by simp)
  have y := H0.out.cells (g := w.heap.size + 1) (a := .slice r bl.length c3) (b := .slice s bh.length c4) (by simp)
  go_wp2_with fail
  refine (HJ.out _ (H0.out.pt (p := p) (by simp)) (H0.out.pt (p := q) (by simp)) (H0.out.pt (p := r) (by simp)) (H0.out.pt (p := s) (by simp))).mono ?_
  rintro e w2 ⟨p1, d1, p2, d2, rfl, g1, g2, hb⟩
  have H1 := hid ((((H0.out.step hb).more g1).more g2).box (.slice p1 L.length d1) (.slice p2 H.length d2)); clear hb H0 g1 g2 x y
  have x := H1.out.cells (g := w.heap.size) (a := .slice p al.length c1) (b := .slice q ah.length c2) (by simp)
  have y := H1.out.cells (g := w.heap.size + 1) (a := .slice r bl.length c3) (b := .slice s bh.length c4) (by simp)
  go_wp2_with fail
  refine (HR.out _ (H1.out.pt (p := p) (by simp)) (H1.out.pt (p := q) (by simp)) (H1.out.pt (p := r) (by simp)) (H1.out.pt (p := s) (by simp))).mono ?_
  rintro e w3 ⟨p3, d3, p4, d4, rfl, g1, g2, hb⟩
  have H2 := hid ((((H1.out.step hb).more g1).more g2).box (.slice p3 L.length d3) (.slice p4 H.length d4)); clear hb H1 g1 g2 x y
  have x := H2.out.cells (g := w.heap.size) (a := .slice p al.length c1) (b := .slice q ah.length c2) (by simp)
  have y := H2.out.cells (g := w.heap.size + 1) (a := .slice r bl.length c3) (b := .slice s bh.length c4) (by simp)
  go_wp2_with fail
  refine (HK.out _ (H2.out.pt (p := p) (by simp)) (H2.out.pt (p := q) (by simp)) (H2.out.pt (p := r) (by simp)) (H2.out.pt (p := s) (by simp))).mono ?_
  rintro e w4 ⟨p5, d5, p6, d6, rfl, g1, g2, hb⟩
  have H3 := hid ((((H2.out.step hb).more g1).more g2).box (.slice p5 L.length d5) (.slice p6 H.length d6)); clear hb H2 g1 g2 x y
  have x := H3.out.cells (g := w2.heap.size) (a := .slice p1 L.length d1) (b := .slice p2 H.length d2) (by simp)
  have y := H3.out.cells (g := w3.heap.size) (a := .slice p3 L.length d3) (b := .slice p4 H.length d4) (by simp)
  go_wp2_with fail
  refine (HS.out p1 p2 p3 p4 d1 d2 d3 d4 _ (H3.out.pt (p := p1) (by simp)) (H3.out.pt (p := p2) (by simp)) (H3.out.pt (p := p3) (by simp)) (H3.out.pt (p := p4) (by simp))).mono ?_
  rintro e w5 ⟨rfl, hb⟩
  have H4 := hid (H3.out.step hb); clear hb H3 x y
  have x := H4.out.cells (g := w4.heap.size) (a := .slice p5 L.length d5) (b := .slice p6 H.length d6) (by simp)
  have y := H4.out.cells (g := w2.heap.size) (a := .slice p1 L.length d1) (b := .slice p2 H.length d2) (by simp)
  go_wp2_with fail
  refine (HS.out p5 p6 p1 p2 d5 d6 d1 d2 _ (H4.out.pt (p := p5) (by simp)) (H4.out.pt (p := p6) (by simp)) (H4.out.pt (p := p1) (by simp)) (H4.out.pt (p := p2) (by simp))).mono ?_
  rintro e w6 ⟨rfl, hb⟩
  have H5 := hid (H4.out.step hb); clear hb H4 x y
  go_wp2_with fail
  refine (HL.out _).mono ?_
  rintro e w7 ⟨rfl, hb⟩
  have H6 := hid (H5.out.step hb); clear hb
  go_wp2_with fail
  go_ret
  exact ⟨rfl, H6.out.below⟩
theorem RegionJoins_walk (v u : Value) (w : World) (h : BoxV w v) (k : BoxV w u) :
    Calls Try.prog 4 #[v, u] w fun e w' => e = .returned (.bool true) ∧ Below w.heap.size w w' := by
  obtain ⟨_, _, rfl, ⟨p, al, c1, rfl, hp, _⟩, ⟨q, ah, c2, rfl, hq, _⟩⟩ := h
  obtain ⟨_, _, rfl, ⟨r, bl, c3, rfl, hr, _⟩, ⟨s, bh, c4, rfl, hs, _⟩⟩ := k
  by_cases hl : al.length ≤ 20 ∧ ah.length ≤ 20 ∧ bl.length ≤ 20 ∧ bh.length ≤ 20
  · exact rgjoins_go al ah bl bh p q r s c1 c2 c3 c4 w hp hq hr hs hl.1 hl.2.1 hl.2.2.1 hl.2.2.2
  · exact rgjoins_few al ah bl bh p q r s c1 c2 c3 c4 w hl
end Go.Proofs.Ytnmhdlincgefeaa

