/- The law's own live. -/
import Derived.Test.YtkjcbfdplhcjpaaBkDec2
namespace Go.Proofs.Ytkjcbfdplhcjpaa.Bk
open Go.RowKit
open Go.Lib (hid)
open Go.Proofs.Ytkjcbfdplhcjpaa.Ky
open Go.Proofs.Ytkjcbfdplhcjpaa

/-- what is known on the way: points, boxes of records, lists of records -/
structure Ct (w V : World) (P : List (Option Addr × List Nat)) (B : List (Nat × Value × Value)) (R : List (Option Addr × List Rec)) : Prop where
  below : Below w.heap.size w V
  pts : ∀ x ∈ P, Pt V x.1 x.2
  bxs : ∀ x ∈ B, V.heap[x.1]? = some (.cells #[x.2.1, x.2.2] 33)
  rcs : ∀ x ∈ R, Rs (fun _ => False) V x.1 x.2
section
variable {w V V' : World} {P : List (Option Addr × List Nat)} {B : List (Nat × Value × Value)} {R : List (Option Addr × List Rec)}
theorem Ct.start (w : World) : Ct w w [] [] [] := ⟨Below.refl _ _, fun x hx => absurd hx (by simp), fun x hx => absurd hx (by simp), fun x hx => absurd hx (by simp)⟩
theorem Ct.step (h : Ct w V P B R) (hb : Below V.heap.size V V') : Ct w V' P B R :=
  ⟨h.below.trans (hb.mono h.below.size), fun x hx => (h.pts x hx).below hb, fun x hx => (hb.block _ (Array.getElem?_eq_some_iff.1 (h.bxs x hx)).1).trans (h.bxs x hx), fun x hx => (h.rcs x hx).below hb⟩
theorem Ct.alloc (h : Ct w V P B R) (o : Obj) : Ct w (V.alloc o) P B R := h.step (below_alloc V o)
theorem Ct.drew (h : Ct w V P B R) : Ct w V.drew P B R := h.step (Below.refl _ _).drew
theorem Ct.drewN (h : Ct w V P B R) (n : Nat) : Ct w (V.drewN n) P B R := h.step (below_drewN (Below.refl _ _) n)
theorem Ct.more (h : Ct w V P B R) {p : Option Addr} {l : List Nat} (hp : Pt V p l) : Ct w V ((p, l) :: P) B R :=
  ⟨h.below, fun x hx => by
    rcases List.mem_cons.1 hx with rfl | hx
    · exact hp
    · exact h.pts x hx, h.bxs, h.rcs⟩
theorem Ct.list (h : Ct w V P B R) {p : Option Addr} {L : List Rec} {D : Nat → Prop} (hp : Rs D V p L) : Ct w V P B ((p, L) :: R) :=
  ⟨h.below, h.pts, h.bxs, fun x hx => by
    rcases List.mem_cons.1 hx with rfl | hx
    · exact hp.less (fun _ _ h => h.elim)
    · exact h.rcs x hx⟩
theorem Ct.point (h : Ct w V P B R) (l : List Nat) (hf : ∀ x ∈ l, x < 4294967296) {cs : Array Value} (hc : cs = kcs l) : Ct w (V.alloc (.cells cs 66)) ((some ⟨V.heap.size, 0, none⟩, l) :: P) B R := by
  subst hc
  exact (h.alloc _).more ((show Own (V.alloc (.cells (kcs l) 66)) V.heap.size l from heap_alloc_new _ _).pt hf)
theorem Ct.box (h : Ct w V P B R) (a b : Value) : Ct w (V.alloc (.cells #[a, b] 33)) P ((V.heap.size, a, b) :: B) R := by
  have h2 := h.alloc (.cells #[a, b] 33)
  refine ⟨h2.below, h2.pts, fun x hx => ?_, h2.rcs⟩
  rcases List.mem_cons.1 hx with rfl | hx
  · exact heap_alloc_new _ _
  · exact h2.bxs x hx
theorem Ct.pt (h : Ct w V P B R) {p : Option Addr} {l : List Nat} (hm : (p, l) ∈ P) : Pt V p l := h.pts _ hm
theorem Ct.rs (h : Ct w V P B R) {p : Option Addr} {L : List Rec} (hm : (p, L) ∈ R) : Rs (fun _ => False) V p L := h.rcs _ hm
theorem Ct.cells (h : Ct w V P B R) {g : Nat} {a b : Value} (hm : (g, a, b) ∈ B) : V.cell? ⟨g, 0, none⟩ = some a ∧ V.cell? ⟨g, 1, none⟩ = some b := by
  have hb := h.bxs _ hm
  exact ⟨by rw [cell_of_row _ _ _ _ _ _ hb]; rfl, by rw [cell_of_row _ _ _ _ _ _ hb]; rfl⟩
theorem Ct.one (h : Ct w V P B R) {q : Option Addr} {k : List Nat} (c : Nat) (t : ByteArray) (hm : (q, k) ∈ P) : Ct w (V.alloc (.cells #[.slice q k.length c, .string t] 33)) P B ((some ⟨V.heap.size, 0, none⟩, [(k, t)]) :: R) :=
  (h.alloc _).list (Rs.mk (RC.one (Pt.ptd ((h.pt hm).alloc _))) (read_new V _ _ _))
theorem read_four (W : World) (a b c d : Value) (T : TypeId) : ReadAt (W.alloc (.cells #[a, b, c, d] T)) (some ⟨W.heap.size, 0, none⟩) [a, b, c, d] := fun j y hj => by
  refine ⟨W.heap.size, 0, rfl, by simp, ?_⟩
  rw [cell_of_row _ _ _ _ _ _ (heap_alloc_new W _), Nat.zero_add]
  match j, hj with
  | 0, hj => simpa using hj
  | 1, hj => simpa using hj
  | 2, hj => simpa using hj
  | 3, hj => simpa using hj
theorem Ct.two (h : Ct w V P B R) {q q' : Option Addr} {k k' : List Nat} (c c' : Nat) (t t' : ByteArray) (hm : (q, k) ∈ P) (hm' : (q', k') ∈ P) : Ct w (V.alloc (.cells #[.slice q k.length c, .string t, .slice q' k'.length c', .string t'] 33)) P B ((some ⟨V.heap.size, 0, none⟩, [(k, t), (k', t')]) :: R) :=
  (h.alloc _).list (Rs.mk ((RC.one (Pt.ptd ((h.pt hm).alloc _))).app (RC.one (Pt.ptd ((h.pt hm').alloc _)))) (read_four V _ _ _ _ _))
end
def tx : ByteArray := ⟨#[120]⟩
def ty : ByteArray := ⟨#[121, 121]⟩
def X : Rec := ([1], tx)
def Y : Rec := ([5], ty)
theorem l1 : encOk [X] 1 2 = true := by decide
theorem l2 : encS [X] 1 2 = ⟨#[1, 0, 0, 0, 1, 1, 120]⟩ := by rw [encYes l1]; rfl
theorem l3 : encOk [Y, X] 1 2 = false := by decide
theorem l5 : putR [] Y = [Y] := by decide
theorem l6 : putR [Y] X = [X, Y] := by decide
theorem l7 : hasN [X, Y] [5] = true := by decide
theorem l8 : cutR [X, Y] [5] = [X] := by decide
theorem l9 : hasN [X, Y] [2] = false := by decide
theorem l10 : lessN [X, Y] [5] = 1 := by decide
theorem l11 : sizeR [X, Y] = 14 := by decide
theorem l12 : fitsB [X, Y] 2 = true := by decide
theorem l13 : fitsB [X, Y] 1 = false := by decide
theorem l4 : decR ⟨#[1, 0, 0, 0, 1, 1, 120]⟩ 1 2 = ([X], 0) := by
  have h1 : decOk 1 2 = true := by decide
  have h2 : readR [1, 0, 0, 0, 1, 1, 120] 1 = ([X], (7, false)) := by decide
  have h3 : readR (⟨#[1, 0, 0, 0, 1, 1, 120]⟩ : ByteArray).data.toList (1 : Int).toNat = ([X], (7, false)) := h2
  unfold decR
  rw [if_pos h1, h3]
  simp only [l2]
  rfl
theorem big_X : bigR [X] := by unfold bigR X tx; simp; decide
theorem big_Y : bigR [Y] := by unfold bigR Y ty; simp; decide
theorem big_YX : bigR [Y, X] := by unfold bigR X Y tx ty; simp; decide
theorem big_XY : bigR [X, Y] := by unfold bigR X Y tx ty; simp; decide
theorem up_XY : upL [X, Y] := by decide
theorem up_Y : upL [Y] := by decide
section
variable {D : Nat → Prop} {V : World} {p q : Option Addr} {c c' : Nat}
theorem v1 (h : Rs D V p [X]) : Calls Try.prog 72 #[.slice p 1 c, .int .i64 1, .int .i64 2] V fun e w' => e = .returned (.tuple #[.string ⟨#[1, 0, 0, 0, 1, 1, 120]⟩, .int .i64 0]) ∧ Below V.heap.size V w' := by
  have := encode_ok [X] p c 1 2 V h big_X
  rw [l1, l2] at this
  exact this
theorem v2 : Calls Try.prog 42 #[.string ⟨#[1, 0, 0, 0, 1, 1, 120]⟩, .int .i64 1, .int .i64 2] V fun e w' => ∃ p c, e = .returned (.tuple #[.slice p 1 c, .int .i64 0]) ∧ Rs (Lt V.heap.size) w' p [X] ∧ Below V.heap.size V w' := by
  have := decode_ok ⟨#[1, 0, 0, 0, 1, 1, 120]⟩ 1 2 V (by decide)
  rw [l4] at this
  exact this.mono fun e w' ⟨p, c, h1, _, _, h2, h3⟩ => ⟨p, c, h1, h2, h3⟩
theorem v3 (h : Rs D V p [Y, X]) : Calls Try.prog 72 #[.slice p 2 c, .int .i64 1, .int .i64 2] V fun e w' => ∃ s, e = .returned (.tuple #[.string s, .int .i64 1]) ∧ Below V.heap.size V w' := by
  have := encode_ok [Y, X] p c 1 2 V h big_YX
  rw [l3] at this
  exact this.mono fun e w' ⟨h1, h2⟩ => ⟨_, h1, h2⟩
theorem v4 (hq : Pt V q [5]) : Calls Try.prog 73 #[.slice none 0 0, .agg #[.slice q 1 c', .string ty]] V fun e w' => ∃ p, e = .returned (.slice p 1 1) ∧ Rs (Lt V.heap.size) w' p [Y] ∧ Below V.heap.size V w' := by
  have := put_ok (D := fun _ => False) [] [5] ty none q 0 c' V (Rs.nil _) hq ⟨by simp, by simp⟩ (Nat.le_refl _) (by decide) (by decide) (by decide) (by decide)
  rw [show putR [] ([5], ty) = [Y] from l5] at this
  exact this
theorem v5 (h : Rs D V p [Y]) (hq : Pt V q [1]) (hc : 1 ≤ c) : Calls Try.prog 73 #[.slice p 1 c, .agg #[.slice q 1 c', .string tx]] V fun e w' => ∃ p, e = .returned (.slice p 2 2) ∧ Rs (Lt V.heap.size) w' p [X, Y] ∧ Below V.heap.size V w' := by
  have := put_ok [Y] [1] tx p q c c' V h hq big_Y hc up_Y (by decide) (by decide) (by decide)
  rw [show putR [Y] ([1], tx) = [X, Y] from l6] at this
  exact this
theorem v6 (h : Rs D V p [X, Y]) (hq : Pt V q [5]) (hc : 2 ≤ c) : Calls Try.prog 74 #[.slice p 2 c, .slice q 1 c'] V fun e w' => ∃ p, e = .returned (.tuple #[.slice p 1 1, .bool true]) ∧ Rs (Lt V.heap.size) w' p [X] ∧ Below V.heap.size V w' := by
  have := cut_ok [X, Y] [5] p q c c' V h hq big_XY hc up_XY
  rw [l8, l7] at this
  exact this
theorem v7 (h : Rs D V p [X, Y]) (hq : Pt V q [2]) (hc : 2 ≤ c) : Calls Try.prog 74 #[.slice p 2 c, .slice q 1 c'] V fun e w' => ∃ x, e = .returned (.tuple #[x, .bool false]) ∧ Below V.heap.size V w' := by
  have := cut_ok [X, Y] [2] p q c c' V h hq big_XY hc up_XY
  rw [l9] at this
  exact this.mono fun e w' ⟨p, h1, h2, h3⟩ => ⟨_, h1, h3⟩
theorem v8 (h : Rs D V p [X, Y]) (hq : Pt V q [5]) : Calls Try.prog 75 #[.slice p 2 c, .slice q 1 c'] V fun e w' => e = .returned (.tuple #[.int .i64 1, .bool true]) ∧ Below V.heap.size V w' := by
  have := find_ok [X, Y] [5] p q c c' V h hq big_XY up_XY
  rw [l10, l7] at this
  exact this
theorem v9 {D' : Nat → Prop} (L : List Rec) (hb : bigR L) {n : Nat} (hn : n = L.length) (h : Rs D V p L) (h' : Rs D' V q L) : Calls Try.prog 32 #[.slice p n c, .slice q n c'] V fun e w' => e = .returned (.bool true) ∧ Below V.heap.size V w' := by
  subst hn
  exact (sameR_ok L L p q c c' V h h' hb).mono fun e w' ⟨h1, n, h2⟩ => ⟨by rw [h1]; simp, by rw [h2]; exact below_drewN (Below.refl _ _) n⟩
theorem v10 (h : Rs D V p [X, Y]) : Calls Try.prog 76 #[.slice p 2 c] V fun e w' => e = .returned (.int .i64 14) ∧ Below V.heap.size V w' := by
  have := size_ok [X, Y] p c V h big_XY
  rw [l11] at this
  exact this
theorem v11 (h : Rs D V p [X, Y]) : Calls Try.prog 77 #[.slice p 2 c, .int .i64 2] V fun e w' => e = .returned (.bool true) ∧ Below V.heap.size V w' := by
  have := fits_ok [X, Y] p c 2 V h big_XY
  rw [l12] at this
  exact this
theorem v12 (h : Rs D V p [X, Y]) : Calls Try.prog 77 #[.slice p 2 c, .int .i64 1] V fun e w' => e = .returned (.bool false) ∧ Below V.heap.size V w' := by
  have := fits_ok [X, Y] p c 1 V h big_XY
  rw [l13] at this
  exact this
end
set_option maxRecDepth 100000 in
set_option maxHeartbeats 4000000 in
theorem live_any (w : World) : Calls Try.prog 41 #[] w fun e w' => e = .returned (.bool true) ∧ Below w.heap.size w w' := by
  have H0 := hid (((((Ct.start w).point [1] (by simp) (cs := #[.int .u32 1]) rfl).box (.slice (some ⟨w.heap.size, 0, none⟩) 1 1) (.string tx)).point [5] (by simp) (cs := #[.int .u32 5]) rfl).box (.slice (some ⟨w.heap.size + 1 + 1, 0, none⟩) 1 1) (.string ty))
  simp only [World.size_alloc] at H0
  have H1 := hid (H0.out.one (q := some ⟨w.heap.size, 0, none⟩) (k := [1]) 1 tx (by simp))
  simp only [World.size_alloc] at H1
  go_enter Try.func41, Try.ntmps41
  go_wp2_with fail
  refine (v1 (H1.out.rs (L := [X]) (List.mem_cons_self ..))).mono ?_
  rintro e w1 ⟨rfl, hb⟩
  have H2 := hid (H0.out.step ((below_alloc _ _).trans (hb.mono (below_alloc _ _).size))); clear hb H0 H1
  go_wp2_with fail
  refine v2.mono ?_
  rintro e w2 ⟨pd, cd, rfl, hr, hb⟩
  have H3 := hid ((H2.out.step hb).list hr); clear hb hr H2
  have x := H3.out.cells (g := w.heap.size + 1) (a := .slice (some ⟨w.heap.size, 0, none⟩) 1 1) (b := .string tx) (by simp)
  have y := H3.out.cells (g := w.heap.size + 1 + 1 + 1) (a := .slice (some ⟨w.heap.size + 1 + 1, 0, none⟩) 1 1) (b := .string ty) (by simp)
  have H4 := hid (H3.out.two (q := some ⟨w.heap.size + 1 + 1, 0, none⟩) (k := [5]) (q' := some ⟨w.heap.size, 0, none⟩) (k' := [1]) 1 1 ty tx (by simp) (by simp))
  go_wp2_with fail
  refine (v3 (H4.out.rs (L := [Y, X]) (List.mem_cons_self ..))).mono ?_
  rintro e w3 ⟨s3, rfl, hb⟩
  have H5 := hid (H3.out.step ((below_alloc _ _).trans (hb.mono (below_alloc _ _).size))); clear hb H3 H4 x y
  go_wp2_with fail
  have H6 := hid H5.out.drew
  have x := H6.out.cells (g := w.heap.size + 1) (a := .slice (some ⟨w.heap.size, 0, none⟩) 1 1) (b := .string tx) (by simp)
  have y := H6.out.cells (g := w.heap.size + 1 + 1 + 1) (a := .slice (some ⟨w.heap.size + 1 + 1, 0, none⟩) 1 1) (b := .string ty) (by simp)
  have HS := hid fun (V : World) (h : Ct w V [(some ⟨w.heap.size + 1 + 1, 0, none⟩, [5]), (some ⟨w.heap.size, 0, none⟩, [1])] [(w.heap.size + 1 + 1 + 1, .slice (some ⟨w.heap.size + 1 + 1, 0, none⟩) 1 1, .string ty), (w.heap.size + 1, .slice (some ⟨w.heap.size, 0, none⟩) 1 1, .string tx)] [(pd, [X])]) => (show (V.cell? ⟨w.heap.size + 1, 0, none⟩ = some (.slice (some ⟨w.heap.size, 0, none⟩) 1 1) ∧ V.cell? ⟨w.heap.size + 1, 1, none⟩ = some (.string tx)) ∧ (V.cell? ⟨w.heap.size + 1 + 1 + 1, 0, none⟩ = some (.slice (some ⟨w.heap.size + 1 + 1, 0, none⟩) 1 1) ∧ V.cell? ⟨w.heap.size + 1 + 1 + 1, 1, none⟩ = some (.string ty)) from ⟨h.cells (by simp), h.cells (by simp)⟩)
  have z := HS.out _ H6.out
  go_region_held3 (fun V => (V.cell? ⟨w.heap.size + 1, 0, none⟩ = some (.slice (some ⟨w.heap.size, 0, none⟩) 1 1) ∧ V.cell? ⟨w.heap.size + 1, 1, none⟩ = some (.string tx)) ∧ (V.cell? ⟨w.heap.size + 1 + 1 + 1, 0, none⟩ = some (.slice (some ⟨w.heap.size + 1 + 1, 0, none⟩) 1 1) ∧ V.cell? ⟨w.heap.size + 1 + 1 + 1, 1, none⟩ = some (.string ty))) (first | exact z | exact z4 | exact z5 | go_keep)
    (first
      | (go_at_call 73; (with_reducible refine (v4 (H6.out.pt (p := some ⟨w.heap.size + 1 + 1, 0, none⟩) (by simp))).mono ?_); rintro e w4 ⟨p4, rfl, hr, hb⟩; have H7 := hid (H6.out.step hb); have z4 := HS.out _ H7.out; have HR4 := hid hr; clear hr hb)
      | (go_at_call 73; (with_reducible refine (v5 HR4.out (H7.out.pt (p := some ⟨w.heap.size, 0, none⟩) (by simp)) (Nat.le_refl _)).mono ?_); rintro e w5 ⟨pm, rfl, hr, hb⟩; have H8' := hid (H7.out.step hb); have z5 := HS.out _ H8'.out; have H8 := hid (H8'.out.list hr); clear hr hb)
      | fail)
  clear x y z z4 z5 HS HR4 H5 H6 H7 H8'
  have H9 := hid (H8.out.point [5] (by simp) (cs := #[.int .u32 5]) rfl)
  go_wp2_with fail
  refine (v6 (H9.out.rs (p := pm) (by simp)) (H9.out.pt (p := some ⟨w5.heap.size, 0, none⟩) (by simp)) (Nat.le_refl _)).mono ?_
  rintro e w6 ⟨pn, rfl, hr, hb⟩
  have H10 := hid ((H8.out.step ((below_alloc _ _).trans (hb.mono (below_alloc _ _).size))).list hr); clear hr hb H8 H9
  have H11 := hid (H10.out.point [2] (by simp) (cs := #[.int .u32 2]) rfl)
  go_wp2_with fail
  refine (v7 (H11.out.rs (p := pm) (by simp)) (H11.out.pt (p := some ⟨w6.heap.size, 0, none⟩) (by simp)) (Nat.le_refl _)).mono ?_
  rintro e w7 ⟨xn, rfl, hb⟩
  have H12 := hid (H10.out.step ((below_alloc _ _).trans (hb.mono (below_alloc _ _).size))); clear hb H10 H11
  have H13 := hid (H12.out.point [5] (by simp) (cs := #[.int .u32 5]) rfl)
  go_wp2_with fail
  refine (v8 (H13.out.rs (p := pm) (by simp)) (H13.out.pt (p := some ⟨w7.heap.size, 0, none⟩) (by simp))).mono ?_
  rintro e w8 ⟨rfl, hb⟩
  have H14 := hid (H12.out.step ((below_alloc _ _).trans (hb.mono (below_alloc _ _).size))); clear hb H12 H13
  have x := H14.out.cells (g := w.heap.size + 1) (a := .slice (some ⟨w.heap.size, 0, none⟩) 1 1) (b := .string tx) (by simp)
  have y := H14.out.cells (g := w.heap.size + 1 + 1 + 1) (a := .slice (some ⟨w.heap.size + 1 + 1, 0, none⟩) 1 1) (b := .string ty) (by simp)
  have H15 := hid (H14.out.one (q := some ⟨w.heap.size, 0, none⟩) (k := [1]) 1 tx (by simp))
  go_wp2_with fail
  refine (v9 [X] big_X rfl (H15.out.rs (p := pd) (by simp)) (H15.out.rs (p := some ⟨w8.heap.size, 0, none⟩) (L := [X]) (List.mem_cons_self ..))).mono ?_
  rintro e w9 ⟨rfl, hb⟩
  have H16 := hid (H14.out.step ((below_alloc _ _).trans (hb.mono (below_alloc _ _).size))); clear hb H14 H15 x y
  have x := H16.out.cells (g := w.heap.size + 1) (a := .slice (some ⟨w.heap.size, 0, none⟩) 1 1) (b := .string tx) (by simp)
  have y := H16.out.cells (g := w.heap.size + 1 + 1 + 1) (a := .slice (some ⟨w.heap.size + 1 + 1, 0, none⟩) 1 1) (b := .string ty) (by simp)
  have H17 := hid (H16.out.two (q := some ⟨w.heap.size, 0, none⟩) (k := [1]) (q' := some ⟨w.heap.size + 1 + 1, 0, none⟩) (k' := [5]) 1 1 tx ty (by simp) (by simp))
  go_wp2_with fail
  refine (v9 [X, Y] big_XY rfl (H17.out.rs (p := pm) (by simp)) (H17.out.rs (p := some ⟨w9.heap.size, 0, none⟩) (L := [X, Y]) (List.mem_cons_self ..))).mono ?_
  rintro e w10 ⟨rfl, hb⟩
  have H18 := hid (H16.out.step ((below_alloc _ _).trans (hb.mono (below_alloc _ _).size))); clear hb H16 H17 x y
  have x := H18.out.cells (g := w.heap.size + 1) (a := .slice (some ⟨w.heap.size, 0, none⟩) 1 1) (b := .string tx) (by simp)
  have y := H18.out.cells (g := w.heap.size + 1 + 1 + 1) (a := .slice (some ⟨w.heap.size + 1 + 1, 0, none⟩) 1 1) (b := .string ty) (by simp)
  have H19 := hid (H18.out.one (q := some ⟨w.heap.size, 0, none⟩) (k := [1]) 1 tx (by simp))
  go_wp2_with fail
  refine (v9 [X] big_X rfl (H19.out.rs (p := pn) (by simp)) (H19.out.rs (p := some ⟨w10.heap.size, 0, none⟩) (L := [X]) (List.mem_cons_self ..))).mono ?_
  rintro e w11 ⟨rfl, hb⟩
  have H20 := hid (H18.out.step ((below_alloc _ _).trans (hb.mono (below_alloc _ _).size))); clear hb H18 H19 x y
  go_wp2_with fail
  refine (v10 (H20.out.rs (p := pm) (by simp))).mono ?_
  rintro e w12 ⟨rfl, hb⟩
  have H21 := hid (H20.out.step hb); clear hb H20
  go_wp2_with fail
  refine (v11 (H21.out.rs (p := pm) (by simp))).mono ?_
  rintro e w13 ⟨rfl, hb⟩
  have H22 := hid (H21.out.step hb); clear hb H21
  go_wp2_with fail
  refine (v12 (H22.out.rs (p := pm) (by simp))).mono ?_
  rintro e w14 ⟨rfl, hb⟩
  have H23 := hid (H22.out.step hb); clear hb H22
  go_wp2_with fail
  go_ret
  exact ⟨rfl, H23.out.below⟩
end Go.Proofs.Ytkjcbfdplhcjpaa.Bk
