/- Merged out of KyOpen, RgJp, RgBackW. -/
import Derived.Test.YtnmhdlincgefeaaKyPart
import Derived.Lib.SmallJoins
import Derived.ProofKit
import Derived.Deep.Slices
import Derived.ChangeSlices
import Derived.Test.YtnmhdlincgefeaaRgLive
import Derived.Test.YtnmhdlincgefeaaPtHalf4
/- Points, boxes and lists of numbers that came in, opened; short. -/
namespace Go.Proofs.Ytnmhdlincgefeaa.Ky
open Go.RowKit
open Go.Lib (hid)
open Go.ChangeShapes Go.WideShapes Go.Joins Go.Deep

section
variable {H : Type} {enc : TypeId × Value → H} {W : World} {base : Nat} {sp : Nat → Bool} {hd : Bool}
theorem c46 : Try.prog.cellsOf 55 = 1 := by kernel_rfl
theorem c3 : Try.prog.cellsOf 3 = 1 := by kernel_rfl
theorem c23 : Try.prog.cellsOf 41 = 1 := by kernel_rfl
theorem c40 : Try.prog.cellsOf 22 = 1 := by kernel_rfl
theorem c33 : Try.prog.cellsOf 43 = 2 := by kernel_rfl
/-- a value that is a point -/
def KeyV (w : World) (v : Value) : Prop := ∃ p l c, v = .slice p l.length c ∧ Pt w p l ∧ l.length ≤ 9223372036854775807
def IntsV (w : World) (v : Value) : Prop := ∃ p l c, v = .slice p l.length c ∧ Is w p l ∧ l.length ≤ 9223372036854775807
def BoxV (w : World) (v : Value) : Prop := ∃ x y, v = .agg #[x, y] ∧ KeyV w x ∧ KeyV w y
theorem wf_u32 {x : Int} (h : (Lit.int .u32 x).wf = true) : 0 ≤ x ∧ x < 4294967296 := by
  have h1 : IntKind.u32.min = 0 := rfl
  have h2 : IntKind.u32.max = 4294967295 := rfl
  simp [Lit.wf] at h
  omega
theorem wf_i64 {x : Int} (h : (Lit.int .i64 x).wf = true) : -9223372036854775808 ≤ x ∧ x ≤ 9223372036854775807 := by
  have h1 : IntKind.i64.min = -9223372036854775808 := rfl
  have h2 : IntKind.i64.max = 9223372036854775807 := rfl
  simp [Lit.wf] at h
  omega
theorem addr_at {a : Addr} {k : IntKind} {zs : List Int} {len : Nat} (hl : len ≤ zs.length) (hc : ∀ i, i < zs.length → W.cell? (a.add i) = some (.int k (zs.getD i 0))) (h0 : 0 < len) :
    ∃ b off, a = ⟨b, off, none⟩ ∧ b < W.heap.size ∧ ∀ j, j < len → W.cell? ⟨b, off + j, none⟩ = some (.int k (zs.getD j 0)) := by
  obtain ⟨blk, off, spot⟩ := a
  have hfirst := hc 0 (by omega)
  have hspot : spot = none := by simpa [Addr.add] using World.cell?_spot hfirst
  subst hspot
  have hadd : ∀ i, (⟨blk, off, none⟩ : Addr).add i = ⟨blk, off + i, none⟩ := fun i => by unfold Addr.add; split <;> simp_all
  refine ⟨blk, off, rfl, ?_, fun j hj => ?_⟩
  · rw [hadd] at hfirst; exact block_lt_of_cell hfirst
  · have := hc j (by omega); rw [hadd] at this; exact this
theorem key_trod {n : Nat} {cs : List Value} {x : DataW H × List MemPlace} {v : Value} (hcs0 : cs = [v]) (hf : DataW.trod enc Try.prog W base sp hd n 41 cs = some x) : KeyV W v := by
  rcases open_ints Try.underlying41 Try.underlying55 c46 hf with ⟨hcs, _⟩ | ⟨a, len, cap, zs, hcs, _, hlc, hcm, hzl, _, hc, hw⟩
  · rw [hcs] at hcs0
    simp at hcs0
    subst hcs0
    exact ⟨none, [], 0, rfl, Pt.nil _ _, by simp⟩
  · rw [hcs] at hcs0
    simp at hcs0
    subst hcs0
    have hl : len ≤ zs.length := by rw [hzl]; split <;> omega
    have hlen : ((zs.take len).map Int.toNat).length = len := by simp; omega
    have hat : ∀ j (hj : j < ((zs.take len).map Int.toNat).length), (((zs.take len).map Int.toNat)[j] : Int) = zs.getD j 0 ∧ ((zs.take len).map Int.toNat)[j] < 4294967296 := by
      intro j hj
      have hj2 : j < zs.length := by omega
      have hz := wf_u32 (hw zs[j] (List.getElem_mem hj2))
      rw [List.getElem_map, List.getElem_take, List.getD_eq_getElem?_getD, List.getElem?_eq_getElem hj2, Option.getD_some]
      omega
    refine ⟨some a, (zs.take len).map Int.toNat, cap, by rw [hlen], ⟨fun j hj => ?_, fun j hj => (hat j hj).2⟩, by rw [hlen]; unfold maxLen at hcm; omega⟩
    obtain ⟨b, off, rfl, hlt, hcell⟩ := addr_at hl hc (by omega : 0 < len)
    exact ⟨b, off, rfl, hlt, by rw [hcell j (by omega), (hat j hj).1]⟩
theorem ints_trod {n : Nat} {cs : List Value} {x : DataW H × List MemPlace} {v : Value} (hcs0 : cs = [v]) (hf : DataW.trod enc Try.prog W base sp hd n 22 cs = some x) : IntsV W v := by
  rcases open_ints Try.underlying22 Try.underlying3 c3 hf with ⟨hcs, _⟩ | ⟨a, len, cap, zs, hcs, _, hlc, hcm, hzl, _, hc, hw⟩
  · rw [hcs] at hcs0
    simp at hcs0
    subst hcs0
    exact ⟨none, [], 0, rfl, ⟨fun j hj => absurd hj (by simp), fun j hj => absurd hj (by simp)⟩, by simp⟩
  · rw [hcs] at hcs0
    simp at hcs0
    subst hcs0
    have hl : len ≤ zs.length := by rw [hzl]; split <;> omega
    have hlen : (zs.take len).length = len := by simp; omega
    have hat : ∀ j (hj : j < (zs.take len).length), (zs.take len)[j] = zs.getD j 0 ∧ -9223372036854775808 ≤ (zs.take len)[j] ∧ (zs.take len)[j] ≤ 9223372036854775807 := by
      intro j hj
      have hj2 : j < zs.length := by omega
      have hz := wf_i64 (hw zs[j] (List.getElem_mem hj2))
      rw [List.getElem_take, List.getD_eq_getElem?_getD, List.getElem?_eq_getElem hj2, Option.getD_some]
      exact ⟨rfl, hz⟩
    refine ⟨some a, zs.take len, cap, by rw [hlen], ⟨fun j hj => ?_, fun j hj => (hat j hj).2⟩, by rw [hlen]; unfold maxLen at hcm; omega⟩
    obtain ⟨b, off, rfl, hlt, hcell⟩ := addr_at hl hc (by omega : 0 < len)
    exact ⟨b, off, rfl, hlt, by rw [hcell j (by omega), (hat j hj).1]⟩
set_option maxRecDepth 100000 in
theorem open_key {v : Value} {d : DataW H} {p : List MemPlace} (hv : Value.okWide Try.prog W .any base 41 v) (h : DataW.Trod enc Try.prog W 0 (fun _ => true) true 41 v d p) : KeyV W v := by
  obtain ⟨a, len, cap, rfl⟩ := okWide_slice Try.underlying41 hv
  obtain ⟨fuel, hf⟩ := h
  exact key_trod (cs := (Value.slice a len cap).cells.toList) (by simp [Value.cells]) hf
theorem cell_one {l : List Value} {j c : Nat} {x : Value} (hx : l[j]? = some x) (hc : c = 1) : (l.drop j).take c = [x] := by
  subst hc
  obtain ⟨h, e⟩ := List.getElem?_eq_some_iff.1 hx
  rw [List.drop_eq_getElem_cons h, e]; rfl
set_option maxRecDepth 100000 in
theorem open_boxv {v : Value} {d : DataW H} {p : List MemPlace} (hv : Value.okWide Try.prog W .any base 43 v) (h : DataW.Trod enc Try.prog W 0 (fun _ => true) true 43 v d p) : BoxV W v := by
  obtain ⟨cs, rfl, hsz⟩ := okWide_struct Try.underlying43 hv
  obtain ⟨fuel, hf⟩ := h
  rw [c33] at hsz
  obtain ⟨l⟩ := cs
  have hl : l.length = 2 := hsz
  obtain ⟨x0, x1, rfl⟩ : ∃ x0 x1, l = [x0, x1] := by
    match l, hl with
    | [x0, x1], _ => exact ⟨x0, x1, rfl⟩
  obtain ⟨xs, m, _, _, _, hlen, hff⟩ := DataW.trod_struct Try.underlying43 hf
  have hlen2 : xs.length = 2 := hlen
  have some_at : ∀ j, j < 2 → (xs[j]?).isSome = true := fun j hj => by rw [List.getElem?_eq_getElem (by omega)]; rfl
  obtain ⟨y0, hy0⟩ := Option.isSome_iff_exists.1 (some_at 0 (by omega))
  obtain ⟨y1, hy1⟩ := Option.isSome_iff_exists.1 (some_at 1 (by omega))
  have h0 := hff 0 _ rfl
  have h1 := hff 1 _ rfl
  rw [hy0] at h0
  rw [hy1] at h1
  exact ⟨x0, x1, rfl, key_trod (cell_one rfl c23) h0, key_trod (cell_one rfl c23) h1⟩
end
theorem KeyV.pt {w : World} {v : Value} (h : KeyV w v) : ∃ p l c, v = .slice p l.length c ∧ Pt w p l ∧ l.length ≤ 9223372036854775807 := h
def shortB (ns : List Nat) : Bool := ns.all fun n => decide (n ≤ 20)
theorem shortB_take (ns : List Nat) (k : Nat) (h : k < ns.length) (h1 : shortB (ns.take k) = true) (h2 : ns[k] ≤ 20) : shortB (ns.take (k + 1)) = true := by
  unfold shortB at *
  rw [List.take_succ_eq_append_getElem h, List.all_append, h1]
  simp [h2]
theorem shortB_no (ns : List Nat) (k : Nat) (h : k < ns.length) (h2 : ¬ ns[k] ≤ 20) : shortB ns = false := by
  unfold shortB
  rw [List.all_eq_false]
  exact ⟨ns[k], List.getElem_mem h, by simpa using h2⟩
end Go.Proofs.Ytnmhdlincgefeaa.Ky

/- Boxes of the laws in memory, and what the calls about them say, told by what is known. -/
namespace Go.Proofs.Ytnmhdlincgefeaa.Rg
open Go.RowKit
open Go.Lib (hid)
open Go.Proofs.Ytnmhdlincgefeaa.Ky
open Go.Proofs.Ytnmhdlincgefeaa.Pt

/-- what is known on the way: points, boxes' blocks -/
structure Jp (w V : World) (P : List (Option Addr × List Nat)) (B : List (Nat × Value × Value)) : Prop where
  below : Below w.heap.size w V
  pts : ∀ x ∈ P, Pt V x.1 x.2
  bxs : ∀ x ∈ B, V.heap[x.1]? = some (.cells #[x.2.1, x.2.2] 43)
section
variable {w V V' : World} {P : List (Option Addr × List Nat)} {B : List (Nat × Value × Value)}
theorem Jp.start (w : World) : Jp w w [] [] := ⟨Below.refl _ _, fun x hx => absurd hx (by simp), fun x hx => absurd hx (by simp)⟩
theorem Jp.step (h : Jp w V P B) (hb : Below V.heap.size V V') : Jp w V' P B :=
  ⟨h.below.trans (hb.mono h.below.size), fun x hx => (h.pts x hx).below hb, fun x hx => (hb.block _ (Array.getElem?_eq_some_iff.1 (h.bxs x hx)).1).trans (h.bxs x hx)⟩
theorem Jp.alloc (h : Jp w V P B) (o : Obj) : Jp w (V.alloc o) P B := h.step (below_alloc V o)
theorem Jp.more (h : Jp w V P B) {p : Option Addr} {l : List Nat} (hp : Pt V p l) : Jp w V ((p, l) :: P) B :=
  ⟨h.below, fun x hx => by
    rcases List.mem_cons.1 hx with rfl | hx
    · exact hp
    · exact h.pts x hx, h.bxs⟩
theorem Jp.box (h : Jp w V P B) (a b : Value) : Jp w (V.alloc (.cells #[a, b] 43)) P ((V.heap.size, a, b) :: B) := by
  have h2 := h.alloc (.cells #[a, b] 43)
  refine ⟨h2.below, h2.pts, fun x hx => ?_⟩
  rcases List.mem_cons.1 hx with rfl | hx
  · exact heap_alloc_new _ _
  · exact h2.bxs x hx
theorem Jp.pt (h : Jp w V P B) {p : Option Addr} {l : List Nat} (hm : (p, l) ∈ P) : Pt V p l := h.pts _ hm
theorem Jp.cells (h : Jp w V P B) {g : Nat} {a b : Value} (hm : (g, a, b) ∈ B) : V.cell? ⟨g, 0, none⟩ = some a ∧ V.cell? ⟨g, 1, none⟩ = some b := by
  have hb := h.bxs _ hm
  exact ⟨by rw [cell_of_row _ _ _ _ _ _ hb]; rfl, by rw [cell_of_row _ _ _ _ _ _ hb]; rfl⟩
end
theorem xlo_len (lo hi : List Nat) (a : Int) : (xlo lo hi a).length ≤ lo.length := by unfold xlo; split <;> simp
theorem xhi_len (lo hi : List Nat) (a : Int) : (xhi lo hi a).length ≤ hi.length := by unfold xhi; split <;> simp
theorem ylo_len (lo hi : List Nat) (a : Int) : (ylo lo hi a).length ≤ lo.length := by unfold ylo; split <;> simp
theorem yhi_len (lo hi : List Nat) (a : Int) : (yhi lo hi a).length ≤ hi.length := by unfold yhi; split <;> simp
/-- Joined, where the answer is known -/
theorem joined_is {al ah bl bh : List Nat} {r : Option Nat} {L H : List Nat} (e : joinL al ah bl bh = r) (e1 : jlo al bl r = L) (e2 : jhi ah bh r = H) (p q r' s : Option Addr) (c1 c2 c3 c4 : Nat) (w : World) (hp : Pt w p al) (hq : Pt w q ah) (hr : Pt w r' bl) (hs : Pt w s bh) (hl : al.length ≤ 1000000) (hl2 : bl.length ≤ 1000000) :
    Calls Try.prog 17 #[.agg #[.slice p al.length c1, .slice q ah.length c2], .agg #[.slice r' bl.length c3, .slice s bh.length c4]] w fun e w' => ∃ p c q c', e = .returned (.tuple #[.agg #[.slice p L.length c, .slice q H.length c'], .int .i64 (((r.getD 0 : Nat)) : Int), .bool r.isSome]) ∧ Pt w' p L ∧ Pt w' q H ∧ Below w.heap.size w w' := by
  have h := joined_any al ah bl bh p q r' s c1 c2 c3 c4 w hp hq hr hs hl hl2
  rw [e] at h
  unfold JRet at h
  rw [e1, e2] at h
  exact h
/-- two boxes are one -/
theorem same_is (l h : List Nat) (p q r s : Option Addr) (c1 c2 c3 c4 : Nat) (w : World) (h1 : Pt w p l) (h2 : Pt w q h) (h3 : Pt w r l) (h4 : Pt w s h) (g1 : l.length ≤ 1000000) (g2 : h.length ≤ 1000000) :
    Calls Try.prog 19 #[.agg #[.slice p l.length c1, .slice q h.length c2], .agg #[.slice r l.length c3, .slice s h.length c4]] w fun e w' => e = .returned (.bool true) ∧ Below w.heap.size w w' := by
  have := sameBox_ok l h l h p q r s c1 c2 c3 c4 w h1 h2 h3 h4 g1 g2
  rw [show sameBoxB l h l h = true from sameBoxB_iff.2 ⟨rfl, rfl⟩] at this
  exact this
end Go.Proofs.Ytnmhdlincgefeaa.Rg

/- RegionBack walked. -/
namespace Go.Proofs.Ytnmhdlincgefeaa
open Go.RowKit
open Go.Lib (hid)
open Go.ChangeShapes Go.WideShapes Go.Joins
open Go.Proofs.Ytnmhdlincgefeaa.Ky
open Go.Proofs.Ytnmhdlincgefeaa.Pt
open Go.Proofs.Ytnmhdlincgefeaa.Rg
set_option maxRecDepth 100000 in
theorem RegionBack_open0 {H : Type} {enc : TypeId × Value → H} {W : World} {base : Nat} {v : Value} {d : DataW H} {p : List MemPlace} (hv : Value.okWide Try.prog W .any base 43 v) (h : DataW.Trod enc Try.prog W 0 (fun _ => true) true 43 v d p) : BoxV W v := open_boxv hv h
set_option maxRecDepth 100000 in
set_option maxHeartbeats 2000000 in
theorem rgback_few (lo hi : List Nat) (p q : Option Addr) (c c' : Nat) (a : Int) (w : World) (h : ¬ (lo.length ≤ 6 ∧ hi.length ≤ 6)) :
    Calls Try.prog 5 #[.agg #[.slice p lo.length c, .slice q hi.length c'], .int .i64 a] w fun e w' => e = .returned (.bool true) ∧ Below w.heap.size w w' := by
  have HB := hid (below_alloc w (.cells #[.slice p lo.length c, .slice q hi.length c'] 43))
  have HL := hid fun (V : World) => Rg.live_any V
  by_cases h1 : 6 < lo.length
  · have e1 : decide ((6 : Int) < (lo.length : Int)) = true := by simp; omega
    clear h h1
    go_enter Try.func5, Try.ntmps5
    go_wp2_with fail
    refine (HL.out _).mono ?_
    rintro e w2 ⟨rfl, hb⟩
    have HB2 := hid (HB.out.trans (hb.mono HB.out.size)); clear hb
    go_wp2_with fail
    go_ret
    exact ⟨rfl, HB2.out⟩
  · have e1 : decide ((6 : Int) < (lo.length : Int)) = false := by simp; omega
    have e2 : decide ((6 : Int) < (hi.length : Int)) = true := by simp; omega
    clear h h1
    go_enter Try.func5, Try.ntmps5
    go_wp2_with fail
    refine (HL.out _).mono ?_
    rintro e w2 ⟨rfl, hb⟩
    have HB2 := hid (HB.out.trans (hb.mono HB.out.size)); clear hb
    go_wp2_with fail
    go_ret
    exact ⟨rfl, HB2.out⟩
set_option maxRecDepth 100000 in
set_option maxHeartbeats 4000000 in
theorem rgback_no (lo hi : List Nat) (p q : Option Addr) (c c' : Nat) (a : Int) (w : World) (hp : Pt w p lo) (hq : Pt w q hi) (h1 : lo.length ≤ 6) (h2 : hi.length ≤ 6) (hh : halfB lo hi a = false) :
    Calls Try.prog 5 #[.agg #[.slice p lo.length c, .slice q hi.length c'], .int .i64 a] w fun e w' => e = .returned (.bool true) ∧ Below w.heap.size w w' := by
  have H0 := hid (((((Jp.start w).more hp).more hq)).box (.slice p lo.length c) (.slice q hi.length c'))
  have HL := hid fun (V : World) => Rg.live_any V
  have HRH := hid fun (V : World) (g : Pt V p lo) (g' : Pt V q hi) => refHalves_ok lo hi p q c c' a V g g' (by omega)
  have e1 : decide ((6 : Int) < (lo.length : Int)) = false := by simp; omega
  have e2 : decide ((6 : Int) < (hi.length : Int)) = false := by simp; omega
  unfold HalfPost at HRH
  rw [hh] at HRH
  clear hp hq h1 h2 hh
  generalize xlo lo hi a = XL at *
  generalize xhi lo hi a = XH at *
  generalize ylo lo hi a = YL at *
  generalize yhi lo hi a = YH at *
  go_enter Try.func5, Try.ntmps5
  have x := H0.out.cells (g := w.heap.size) (a := .slice p lo.length c) (b := .slice q hi.length c') (by simp)
  go_wp2_with fail
  refine (HRH.out _ (H0.out.pt (p := p) (by simp)) (H0.out.pt (p := q) (by simp))).mono ?_
  rintro e w2 ⟨p1, c1, p2, c2, p3, c3, p4, c4, rfl, _, _, _, _, hb⟩
  have H1 := hid (((H0.out.step hb).box (.slice p1 XL.length c1) (.slice p2 XH.length c2)).box (.slice p3 YL.length c3) (.slice p4 YH.length c4)); clear hb H0 x
  simp only [World.size_alloc] at H1
  go_wp2_with fail
  refine (HL.out _).mono ?_
  rintro e w3 ⟨rfl, hb⟩
  have H2 := hid (H1.out.step hb); clear hb
  go_wp2_with fail
  go_ret
  exact ⟨rfl, H2.out.below⟩
set_option maxRecDepth 100000 in
set_option maxHeartbeats 4000000 in
theorem rgback_go (lo hi : List Nat) (p q : Option Addr) (c c' : Nat) (i : Nat) (w : World) (hp : Pt w p lo) (hq : Pt w q hi) (h1 : lo.length ≤ 6) (h2 : hi.length ≤ 6) (hh : halfB lo hi (i : Int) = true) :
    Calls Try.prog 5 #[.agg #[.slice p lo.length c, .slice q hi.length c'], .int .i64 (i : Int)] w fun e w' => e = .returned (.bool true) ∧ Below w.heap.size w w' := by
  have H0 := hid (((((Jp.start w).more hp).more hq)).box (.slice p lo.length c) (.slice q hi.length c'))
  have HL := hid fun (V : World) => Rg.live_any V
  have HRH := hid fun (V : World) (g : Pt V p lo) (g' : Pt V q hi) => refHalves_ok lo hi p q c c' (i : Int) V g g' (by omega)
  have e1 : decide ((6 : Int) < (lo.length : Int)) = false := by simp; omega
  have e2 : decide ((6 : Int) < (hi.length : Int)) = false := by simp; omega
  have f2 : ((i : Int) == (i : Int)) = true := by simp
  have hx1 := Nat.le_trans (xlo_len lo hi i) h1
  have hy1 := Nat.le_trans (ylo_len lo hi i) h1
  have HJ := hid (@joined_is _ _ _ _ _ lo hi (join_half hh).1 (join_half hh).2.1 (join_half hh).2.2)
  have HS := hid fun (p q r s : Option Addr) (c1 c2 c3 c4 : Nat) (V : World) (g1 : Pt V p lo) (g2 : Pt V q hi) (g3 : Pt V r lo) (g4 : Pt V s hi) => same_is lo hi p q r s c1 c2 c3 c4 V g1 g2 g3 g4 (by omega) (by omega)
  unfold HalfPost at HRH
  rw [hh] at HRH
  clear hp hq h1 h2 hh
  generalize xlo lo hi i = XL at *
  generalize xhi lo hi i = XH at *
  generalize ylo lo hi i = YL at *
  generalize yhi lo hi i = YH at *
  have HX := hid (And.intro hx1 hy1)
  clear hx1 hy1
  go_enter Try.func5, Try.ntmps5
  have x := H0.out.cells (g := w.heap.size) (a := .slice p lo.length c) (b := .slice q hi.length c') (by simp)
  go_wp2_with fail
  refine (HRH.out _ (H0.out.pt (p := p) (by simp)) (H0.out.pt (p := q) (by simp))).mono ?_
  rintro e w2 ⟨p1, c1, p2, c2, p3, c3, p4, c4, rfl, g1, g2, g3, g4, hb⟩
  have H1 := hid (((((((H0.out.step hb).more g1).more g2).more g3).more g4).box (.slice p1 XL.length c1) (.slice p2 XH.length c2)).box (.slice p3 YL.length c3) (.slice p4 YH.length c4)); clear hb H0 g1 g2 g3 g4 x
  simp only [World.size_alloc] at H1
  have x := H1.out.cells (g := w2.heap.size) (a := .slice p1 XL.length c1) (b := .slice p2 XH.length c2) (by simp)
  have y := H1.out.cells (g := w2.heap.size + 1) (a := .slice p3 YL.length c3) (b := .slice p4 YH.length c4) (by simp)
  go_wp2_with fail
  refine (HJ.out p1 p2 p3 p4 c1 c2 c3 c4 _ (H1.out.pt (p := p1) (l := XL) (by simp)) (H1.out.pt (p := p2) (l := XH) (by simp)) (H1.out.pt (p := p3) (l := YL) (by simp)) (H1.out.pt (p := p4) (l := YH) (by simp)) (by have := HX.out.1; omega) (by have := HX.out.2; omega)).mono ?_
  rintro e w3 ⟨q1, d1, q2, d2, rfl, g1, g2, hb⟩
  have H2 := hid ((((H1.out.step hb).more g1).more g2).box (.slice q1 lo.length d1) (.slice q2 hi.length d2)); clear hb H1 g1 g2 x y
  have x := H2.out.cells (g := w3.heap.size) (a := .slice q1 lo.length d1) (b := .slice q2 hi.length d2) (by simp)
  have y := H2.out.cells (g := w.heap.size) (a := .slice p lo.length c) (b := .slice q hi.length c') (by simp)
  rw [show ((some i : Option Nat).getD 0) = i from rfl, show (some i : Option Nat).isSome = true from rfl]
  go_wp2_with fail
  refine (HS.out q1 q2 p q d1 d2 c c' _ (H2.out.pt (p := q1) (l := lo) (by simp)) (H2.out.pt (p := q2) (l := hi) (by simp)) (H2.out.pt (p := p) (l := lo) (by simp)) (H2.out.pt (p := q) (l := hi) (by simp))).mono ?_
  rintro e w4 ⟨rfl, hb⟩
  have H3 := hid (H2.out.step hb); clear hb H2 x y
  go_wp2_with fail
  refine (HL.out _).mono ?_
  rintro e w5 ⟨rfl, hb⟩
  have H4 := hid (H3.out.step hb); clear hb
  go_wp2_with fail
  go_ret
  exact ⟨rfl, H4.out.below⟩
theorem half_nat {lo hi : List Nat} {a : Int} (h : halfB lo hi a = true) : ∃ i : Nat, a = (i : Int) := by
  obtain ⟨i, e, _⟩ := half_facts h
  exact ⟨i, e⟩
theorem RegionBack_walk (v : Value) (a : Int) (w : World) (h : BoxV w v) (_ : (Lit.int .i64 a).wf = true) :
    Calls Try.prog 5 #[v, .int .i64 a] w fun e w' => e = .returned (.bool true) ∧ Below w.heap.size w w' := by
  obtain ⟨_, _, rfl, ⟨p, lo, c, rfl, hp, _⟩, ⟨q, hi, c', rfl, hq, _⟩⟩ := h
  by_cases hl : lo.length ≤ 6 ∧ hi.length ≤ 6
  · cases hh : halfB lo hi a with
    | false => exact rgback_no lo hi p q c c' a w hp hq hl.1 hl.2 hh
    | true =>
      obtain ⟨i, rfl⟩ := half_nat hh
      exact rgback_go lo hi p q c c' i w hp hq hl.1 hl.2 hh
  · exact rgback_few lo hi p q c c' a w hl
end Go.Proofs.Ytnmhdlincgefeaa

