/- The law's own live. -/
import Derived.Test.YtkjcbfdplhcjpaaPtMerge
import Derived.Test.YtkjcbfdplhcjpaaBkOpen
import Derived.Test.YtkjcbfdplhcjpaaKyZip
namespace Go.Proofs.Ytkjcbfdplhcjpaa.Pt
open Go.RowKit
open Go.Lib (hid)
open Go.Proofs.Ytkjcbfdplhcjpaa.Ky
open Go.Proofs.Ytkjcbfdplhcjpaa.Bk

/-- what is known on the way: points, boxes' blocks, lists of records -/
structure Cp (w V : World) (P : List (Option Addr × List Nat)) (B : List (Nat × Value × Value)) (R : List (Option Addr × List Rec)) : Prop where
  below : Below w.heap.size w V
  pts : ∀ x ∈ P, Pt V x.1 x.2
  bxs : ∀ x ∈ B, V.heap[x.1]? = some (.cells #[x.2.1, x.2.2] 35)
  rcs : ∀ x ∈ R, Rs (fun _ => False) V x.1 x.2
section
variable {w V V' : World} {P : List (Option Addr × List Nat)} {B : List (Nat × Value × Value)} {R : List (Option Addr × List Rec)}
theorem Cp.start (w : World) : Cp w w [] [] [] := ⟨Below.refl _ _, fun x hx => absurd hx (by simp), fun x hx => absurd hx (by simp), fun x hx => absurd hx (by simp)⟩
theorem Cp.step (h : Cp w V P B R) (hb : Below V.heap.size V V') : Cp w V' P B R :=
  ⟨h.below.trans (hb.mono h.below.size), fun x hx => (h.pts x hx).below hb, fun x hx => (hb.block _ (Array.getElem?_eq_some_iff.1 (h.bxs x hx)).1).trans (h.bxs x hx), fun x hx => (h.rcs x hx).below hb⟩
theorem Cp.alloc (h : Cp w V P B R) (o : Obj) : Cp w (V.alloc o) P B R := h.step (below_alloc V o)
theorem Cp.more (h : Cp w V P B R) {p : Option Addr} {l : List Nat} (hp : Pt V p l) : Cp w V ((p, l) :: P) B R :=
  ⟨h.below, fun x hx => by
    rcases List.mem_cons.1 hx with rfl | hx
    · exact hp
    · exact h.pts x hx, h.bxs, h.rcs⟩
theorem Cp.list (h : Cp w V P B R) {p : Option Addr} {L : List Rec} {D : Nat → Prop} (hp : Rs D V p L) : Cp w V P B ((p, L) :: R) :=
  ⟨h.below, h.pts, h.bxs, fun x hx => by
    rcases List.mem_cons.1 hx with rfl | hx
    · exact hp.less (fun _ _ h => h.elim)
    · exact h.rcs x hx⟩
theorem Cp.point (h : Cp w V P B R) (l : List Nat) (hf : ∀ x ∈ l, x < 4294967296) {cs : Array Value} (hc : cs = kcs l) : Cp w (V.alloc (.cells cs 66)) ((some ⟨V.heap.size, 0, none⟩, l) :: P) B R := by
  subst hc
  exact (h.alloc _).more ((show Own (V.alloc (.cells (kcs l) 66)) V.heap.size l from heap_alloc_new _ _).pt hf)
theorem Cp.box (h : Cp w V P B R) (a b : Value) : Cp w (V.alloc (.cells #[a, b] 35)) P ((V.heap.size, a, b) :: B) R := by
  have h2 := h.alloc (.cells #[a, b] 35)
  refine ⟨h2.below, h2.pts, fun x hx => ?_, h2.rcs⟩
  rcases List.mem_cons.1 hx with rfl | hx
  · exact heap_alloc_new _ _
  · exact h2.bxs x hx
theorem Cp.pt (h : Cp w V P B R) {p : Option Addr} {l : List Nat} (hm : (p, l) ∈ P) : Pt V p l := h.pts _ hm
theorem Cp.rs (h : Cp w V P B R) {p : Option Addr} {L : List Rec} (hm : (p, L) ∈ R) : Rs (fun _ => False) V p L := h.rcs _ hm
theorem Cp.cells (h : Cp w V P B R) {g : Nat} {a b : Value} (hm : (g, a, b) ∈ B) : V.cell? ⟨g, 0, none⟩ = some a ∧ V.cell? ⟨g, 1, none⟩ = some b := by
  have hb := h.bxs _ hm
  exact ⟨by rw [cell_of_row _ _ _ _ _ _ hb]; rfl, by rw [cell_of_row _ _ _ _ _ _ hb]; rfl⟩
theorem Cp.two (h : Cp w V P B R) {q q' : Option Addr} {k k' : List Nat} (c c' : Nat) (t t' : ByteArray) (hm : (q, k) ∈ P) (hm' : (q', k') ∈ P) : Cp w (V.alloc (.cells #[.slice q k.length c, .string t, .slice q' k'.length c', .string t'] 33)) P B ((some ⟨V.heap.size, 0, none⟩, [(k, t), (k', t')]) :: R) :=
  (h.alloc _).list (Rs.mk ((RC.one (Pt.ptd ((h.pt hm).alloc _))).app (RC.one (Pt.ptd ((h.pt hm').alloc _)))) (read_four V _ _ _ _ _))
end
def E0 : ByteArray := ⟨#[]⟩
def X : Rec := ([1, 7], E0)
def Y : Rec := ([5, 7], E0)
theorem big_XY : bigR [X, Y] := by unfold bigR X Y E0; simp; decide
theorem big_X : bigR [X] := by unfold bigR X E0; simp; decide
theorem big_Y : bigR [Y] := by unfold bigR Y E0; simp; decide
section
variable {D D' : Nat → Prop} {V : World} {p q r s : Option Addr} {c c' c'' c3 : Nat}
theorem v1 (h : Pt V p [0, 7]) (h' : Pt V q [9, 7]) : Calls Try.prog 45 #[.agg #[.slice p 2 c, .slice q 2 c'], .int .i64 0] V fun e w' => ∃ p1 c1 p2 c2 p3 c3 p4 c4, e = .returned (.tuple #[.agg #[.slice p1 2 c1, .slice p2 2 c2], .agg #[.slice p3 2 c3, .slice p4 2 c4], .bool true]) ∧
    Pt w' p1 [0, 7] ∧ Pt w' p2 [4, 7] ∧ Pt w' p3 [5, 7] ∧ Pt w' p4 [9, 7] ∧ Below V.heap.size V w' := by
  have := halves_ok [0, 7] [9, 7] p q c c' 0 V h h' (by decide)
  unfold HalfPost at this
  rw [show halfB [0, 7] [9, 7] 0 = true by decide, show xlo [0, 7] [9, 7] 0 = [0, 7] by decide, show xhi [0, 7] [9, 7] 0 = [4, 7] by decide, show ylo [0, 7] [9, 7] 0 = [5, 7] by decide, show yhi [0, 7] [9, 7] 0 = [9, 7] by decide] at this
  exact this
theorem v2 (h : Pt V p [0, 7]) (h' : Pt V q [9, 7]) : Calls Try.prog 45 #[.agg #[.slice p 2 c, .slice q 2 c'], .int .i64 1] V fun e w' => ∃ p1 c1 p2 c2 p3 c3 p4 c4, e = .returned (.tuple #[.agg #[.slice p1 0 c1, .slice p2 0 c2], .agg #[.slice p3 0 c3, .slice p4 0 c4], .bool false]) ∧ Below V.heap.size V w' := by
  have := halves_ok [0, 7] [9, 7] p q c c' 1 V h h' (by decide)
  unfold HalfPost at this
  rw [show halfB [0, 7] [9, 7] 1 = false by decide, show xlo [0, 7] [9, 7] 1 = [] by decide, show xhi [0, 7] [9, 7] 1 = [] by decide, show ylo [0, 7] [9, 7] 1 = [] by decide, show yhi [0, 7] [9, 7] 1 = [] by decide] at this
  exact this.mono fun e w' ⟨p1, c1, p2, c2, p3, c3, p4, c4, h1, _, _, _, _, h2⟩ => ⟨p1, c1, p2, c2, p3, c3, p4, c4, h1, h2⟩
theorem v3 (h : Rs D V p [X, Y]) : Calls Try.prog 51 #[.slice p 2 c, .int .i64 0, .int .u32 5] V fun e w' => ∃ p c p' c', e = .returned (.tuple #[.slice p 1 c, .slice p' 1 c', .int .i64 0]) ∧ (1 ≤ c ∧ 1 ≤ c') ∧ Rs (Lt V.heap.size) w' p [X] ∧ Rs (Lt V.heap.size) w' p' [Y] ∧ Below V.heap.size V w' := by
  have := split_ok [X, Y] p c 0 5 V h big_XY (by omega)
  rw [show splitR [X, Y] 0 5 = ([X], [Y], 0) by decide] at this
  exact this.mono fun e w' ⟨p, c, p', c', h1, ⟨h2, _, h3, _⟩, h4, h5, h6⟩ => ⟨p, c, p', c', h1, ⟨h2, h3⟩, h4, h5, h6⟩
theorem v4 (h : Rs D V p [X, Y]) : Calls Try.prog 51 #[.slice p 2 c, .int .i64 2, .int .u32 5] V fun e w' => ∃ x y, e = .returned (.tuple #[x, y, .int .i64 1]) ∧ Below V.heap.size V w' := by
  have := split_ok [X, Y] p c 2 5 V h big_XY (by omega)
  rw [show splitR [X, Y] 2 5 = ([], [], 1) by decide] at this
  exact this.mono fun e w' ⟨p, c, p', c', h1, _, _, _, h6⟩ => ⟨_, _, h1, h6⟩
theorem v5 (h : Pt V p [0, 7]) (h' : Pt V q [9, 7]) (hs : Rs D V s [X, Y]) : Calls Try.prog 47 #[.agg #[.slice p 2 c, .slice q 2 c'], .slice s 2 c'', .int .i64 1] V fun e w' => e = .returned (.tuple #[.int .i64 0, .bool true]) ∧ Below V.heap.size V w' := by
  have := choose_ok [0, 7] [9, 7] [X, Y] p q s c c' c'' 1 V h h' hs (by decide) big_XY
  rw [show chooseR [0, 7] [9, 7] [X, Y] 1 = (0, true) by decide] at this
  exact this
theorem v6 (h : Rs D V p [Y]) (h' : Rs D' V q [X]) (hc : 1 ≤ c) (hc' : 1 ≤ c') : Calls Try.prog 55 #[.slice p 1 c, .slice q 1 c'] V fun e w' => ∃ p, e = .returned (.slice p 2 2) ∧ Rs (Lt V.heap.size) w' p [X, Y] ∧ Below V.heap.size V w' := by
  have := merge_ok [Y] [X] p q c c' V h h' big_Y big_X (by decide) hc hc'
  rw [show mergeR [Y] [X] = [X, Y] by rw [merge_gt (by decide), merge_nil]] at this
  exact this
theorem v7 (al ah : List Nat) {n m : Nat} (hn : n = al.length) (hm : m = ah.length) (h1 : Pt V p al) (h2 : Pt V q ah) (h3 : Pt V r al) (h4 : Pt V s ah) (g1 : al.length ≤ 1000000) (g2 : ah.length ≤ 1000000) :
    Calls Try.prog 49 #[.agg #[.slice p n c, .slice q m c'], .agg #[.slice r n c'', .slice s m c3]] V fun e w' => e = .returned (.bool true) ∧ Below V.heap.size V w' := by
  subst hn; subst hm
  have := sameBox_ok al ah al ah p q r s c c' c'' c3 V h1 h2 h3 h4 g1 g2
  rw [show sameBoxB al ah al ah = true by simp [sameBoxB, sameB]] at this
  exact this
end
set_option maxRecDepth 100000 in
set_option maxHeartbeats 4000000 in
theorem live_any (w : World) : Calls Try.prog 44 #[] w fun e w' => e = .returned (.bool true) ∧ Below w.heap.size w w' := by
  have H0 := hid ((((Cp.start w).point [0, 7] (by decide) (cs := #[.int .u32 0, .int .u32 7]) rfl).point [9, 7] (by decide) (cs := #[.int .u32 9, .int .u32 7]) rfl).box (.slice (some ⟨w.heap.size, 0, none⟩) 2 2) (.slice (some ⟨w.heap.size + 1, 0, none⟩) 2 2))
  simp only [World.size_alloc] at H0
  go_enter Try.func44, Try.ntmps44
  go_wp2_with fail
  refine (v1 (H0.out.pt (p := some ⟨w.heap.size, 0, none⟩) (by simp)) (H0.out.pt (p := some ⟨w.heap.size + 1, 0, none⟩) (by simp))).mono ?_
  rintro e w1 ⟨p1, c1, p2, c2, p3, c3, p4, c4, rfl, h1, h2, h3, h4, hb⟩
  have H1' := hid (((((H0.out.step hb).more h1).more h2).more h3).more h4); clear hb h1 h2 h3 h4 H0
  have H1 := hid ((H1'.out.box (.slice p1 2 c1) (.slice p2 2 c2)).box (.slice p3 2 c3) (.slice p4 2 c4)); clear H1'
  simp only [World.size_alloc] at H1
  have x1 := H1.out.cells (g := w.heap.size + 1 + 1) (a := .slice (some ⟨w.heap.size, 0, none⟩) 2 2) (b := .slice (some ⟨w.heap.size + 1, 0, none⟩) 2 2) (by simp)
  go_wp2_with fail
  refine (v2 (H1.out.pt (p := some ⟨w.heap.size, 0, none⟩) (by simp)) (H1.out.pt (p := some ⟨w.heap.size + 1, 0, none⟩) (by simp))).mono ?_
  rintro e w2 ⟨n1, m1, n2, m2, n3, m3, n4, m4, rfl, hb⟩
  have H2' := hid (((H1.out.step hb).alloc (.cells #[.slice n1 0 m1, .slice n2 0 m2] 35)).alloc (.cells #[.slice n3 0 m3, .slice n4 0 m4] 35)); clear hb H1 x1
  have H2 := hid ((H2'.out.point [1, 7] (by decide) (cs := #[.int .u32 1, .int .u32 7]) rfl).point [5, 7] (by decide) (cs := #[.int .u32 5, .int .u32 7]) rfl); clear H2'
  simp only [World.size_alloc] at H2
  have H3 := hid (H2.out.two (q := some ⟨w2.heap.size + 1 + 1, 0, none⟩) (k := [1, 7]) (q' := some ⟨w2.heap.size + 1 + 1 + 1, 0, none⟩) (k' := [5, 7]) 2 2 ⟨#[]⟩ ⟨#[]⟩ (by simp) (by simp)); clear H2
  simp only [World.size_alloc] at H3
  go_wp2_with fail
  refine (v3 (H3.out.rs (p := some ⟨w2.heap.size + 1 + 1 + 1 + 1, 0, none⟩) (L := [X, Y]) (List.mem_cons_self ..))).mono ?_
  rintro e w3 ⟨pm, cm, pn, cn, rfl, hcc, hm, hn, hb⟩
  have H4 := hid (((H3.out.step hb).list hm).list hn); have HCC := hid hcc; clear hm hn hb hcc H3
  go_wp2_with fail
  refine (v4 (H4.out.rs (p := some ⟨w2.heap.size + 1 + 1 + 1 + 1, 0, none⟩) (L := [X, Y]) (by simp [X, Y, E0]))).mono ?_
  rintro e w4 ⟨z1, z2, rfl, hb⟩
  have H5 := hid (H4.out.step hb); clear hb H4
  have x5 := H5.out.cells (g := w.heap.size + 1 + 1) (a := .slice (some ⟨w.heap.size, 0, none⟩) 2 2) (b := .slice (some ⟨w.heap.size + 1, 0, none⟩) 2 2) (by simp)
  go_wp2_with fail
  refine (v5 (H5.out.pt (p := some ⟨w.heap.size, 0, none⟩) (by simp)) (H5.out.pt (p := some ⟨w.heap.size + 1, 0, none⟩) (by simp)) (H5.out.rs (p := some ⟨w2.heap.size + 1 + 1 + 1 + 1, 0, none⟩) (L := [X, Y]) (by simp [X, Y, E0]))).mono ?_
  rintro e w5 ⟨rfl, hb⟩
  have H6 := hid (H5.out.step hb); clear hb H5 x5
  have x6 := H6.out.cells (g := w1.heap.size) (a := .slice p1 2 c1) (b := .slice p2 2 c2) (by simp)
  have H7 := hid ((H6.out.point [0, 7] (by decide) (cs := #[.int .u32 0, .int .u32 7]) rfl).point [4, 7] (by decide) (cs := #[.int .u32 4, .int .u32 7]) rfl)
  simp only [World.size_alloc] at H7
  go_wp2_with fail
  refine (v7 [0, 7] [4, 7] rfl rfl (H7.out.pt (p := p1) (by simp)) (H7.out.pt (p := p2) (by simp)) (H7.out.pt (p := some ⟨w5.heap.size, 0, none⟩) (by simp)) (H7.out.pt (p := some ⟨w5.heap.size + 1, 0, none⟩) (by simp)) (by decide) (by decide)).mono ?_
  rintro e w6 ⟨rfl, hb⟩
  have H8 := hid (H7.out.step hb); clear hb H6 H7 x6
  have x8 := H8.out.cells (g := w1.heap.size + 1) (a := .slice p3 2 c3) (b := .slice p4 2 c4) (by simp)
  have H9 := hid ((H8.out.point [5, 7] (by decide) (cs := #[.int .u32 5, .int .u32 7]) rfl).point [9, 7] (by decide) (cs := #[.int .u32 9, .int .u32 7]) rfl)
  simp only [World.size_alloc] at H9
  go_wp2_with fail
  refine (v7 [5, 7] [9, 7] rfl rfl (H9.out.pt (p := p3) (by simp)) (H9.out.pt (p := p4) (by simp)) (H9.out.pt (p := some ⟨w6.heap.size, 0, none⟩) (by simp)) (H9.out.pt (p := some ⟨w6.heap.size + 1, 0, none⟩) (by simp)) (by decide) (by decide)).mono ?_
  rintro e w7 ⟨rfl, hb⟩
  have H10 := hid (H9.out.step hb); clear hb H8 H9 x8
  go_wp2_with fail
  refine (v6 (H10.out.rs (p := pn) (L := [Y]) (by simp [X, Y, E0])) (H10.out.rs (p := pm) (L := [X]) (by simp [X, Y, E0])) HCC.out.2 HCC.out.1).mono ?_
  rintro e w8 ⟨pr, rfl, hr, hb⟩
  have H11 := hid ((H10.out.step hb).list hr); clear hb hr H10
  go_wp2_with fail
  refine (v9 [X, Y] big_XY rfl (H11.out.rs (p := pr) (L := [X, Y]) (by simp [X, Y, E0])) (H11.out.rs (p := some ⟨w2.heap.size + 1 + 1 + 1 + 1, 0, none⟩) (L := [X, Y]) (by simp [X, Y, E0]))).mono ?_
  rintro e w9 ⟨rfl, hb⟩
  have H12 := hid (H11.out.step hb); clear hb H11
  go_wp2_with fail
  go_ret
  exact ⟨rfl, H12.out.below⟩
end Go.Proofs.Ytkjcbfdplhcjpaa.Pt
