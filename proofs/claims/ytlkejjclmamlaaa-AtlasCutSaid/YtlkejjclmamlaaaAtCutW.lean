/- AtlasCut walked. -/
import Derived.Test.YtlkejjclmamlaaaAtBackW
namespace Go.Proofs.Ytlkejjclmamlaaa
open Go.RowKit
open Go.Lib (hid)
open Go.ChangeShapes Go.WideShapes Go.Joins
open Go.Proofs.Ytlkejjclmamlaaa.Ky Go.Proofs.Ytlkejjclmamlaaa.Bk Go.Proofs.Ytlkejjclmamlaaa.At

/-- a row of the call's own that may be written: its first cells are l -/
def Rw (w : World) (g : Nat) (l : List Nat) : Prop := ∃ cur, w.heap[g]? = some (.cells cur 66 (0, 0)) ∧ l.length ≤ cur.size ∧ cur.toList.take l.length = kl l
section
variable {w w' : World} {g : Nat} {l : List Nat}
theorem Rw.lt (h : Rw w g l) : g < w.heap.size := by
  obtain ⟨cur, h1, _⟩ := h
  exact (Array.getElem?_eq_some_iff.1 h1).1
theorem Rw.cell (h : Rw w g l) (i : Nat) (hi : i < l.length) : w.cell? ⟨g, i, none⟩ = some (.int .u32 (l[i] : Int)) := by
  obtain ⟨cur, h1, h2, h3⟩ := h
  rw [cell_of_row _ _ _ _ _ _ h1]
  have h4 : (cur.toList.take l.length)[i]? = (kl l)[i]? := by rw [h3]
  rw [List.getElem?_take, if_pos hi, Array.getElem?_toList] at h4
  rw [h4]
  simp [kl, hi]
theorem Rw.frozen (h : Rw w g l) (i : Nat) : w.frozen? ⟨g, i, none⟩ = false := by
  obtain ⟨cur, h1, _⟩ := h
  exact frozen_of_row _ _ _ _ _ h1
theorem Rw.below (h : Rw w g l) (hb : Below w.heap.size w w') : Rw w' g l := by
  have hlt := h.lt
  obtain ⟨cur, h1, h2⟩ := h
  exact ⟨cur, (hb.block g hlt).trans h1, h2⟩
theorem Rw.far (h : Rw w g l) {p : Addr} (hp : g ≠ p.block) (u : Value) : Rw (w.setCell p u) g l := by
  obtain ⟨cur, h1, h2⟩ := h
  exact ⟨cur, (Below.heap_setCell w p u g hp).trans h1, h2⟩
theorem Rw.set (h : Rw w g l) (i x : Nat) (_ : i < l.length) : Rw (w.setCell ⟨g, i, none⟩ (.int .u32 (x : Int))) g (l.set i x) := by
  obtain ⟨cur, h1, h2, h3⟩ := h
  refine ⟨_, heap_setCell_same _ _ _ _ _ _ h1, by simp; omega, ?_⟩
  rw [List.length_set, Array.toList_setIfInBounds, List.take_set, h3]
  simp [kl]
theorem Rw.pt (h : Rw w g l) (hf : ∀ x ∈ l, x < 4294967296) : Pt w (some ⟨g, 0, none⟩) l :=
  ⟨fun j hj => ⟨g, 0, rfl, h.lt, by rw [Nat.zero_add]; exact h.cell j hj⟩, fun j hj => hf _ (List.getElem_mem hj)⟩
theorem Rw.drew (h : Rw w g l) : Rw w.drew g l := h
theorem Rw.drewN (h : Rw w g l) (n : Nat) : Rw (w.drewN n) g l := h
theorem Rw.ne_box (h : Rw w g l) (hl : 0 < l.length) {b : Nat} {p q : Option Addr} {n c n' c' : Nat} (hb : w.heap[b]? = some (.cells #[.slice p n c, .slice q n' c'] 35)) : g ≠ b := by
  rintro rfl
  have h1 := h.cell 0 hl
  rw [cell_of_row _ _ _ _ _ _ hb] at h1
  cases h1
end
/-- out of what an append gives -/
theorem row_full {w w' : World} {v : Value} {l : List Nat} (h0 : 0 < l.length) (h : Full w 66 1 0 l.length (kl l) v w') : ∃ c, v = .slice (some ⟨w.heap.size, 0, none⟩) l.length c ∧ Rw w' w.heap.size l ∧ Below w.heap.size w w' := by
  obtain ⟨p', c', rfl, _, hb, _, ho⟩ := h
  obtain ⟨h1, rfl⟩ := ho h0
  refine ⟨c', by rw [Nat.zero_add], ?_, hb⟩
  rcases h1.2 with ⟨hv, _⟩ | ⟨g, cap, cur, hv, _, hh, h5, _, hs, ht⟩
  · cases hv
  · injection hv with e1 _ e3
    injection e1 with e1
    injection e1 with e1
    subst e1
    subst e3
    exact ⟨cur, hh, by omega, by rw [← ht]; congr 1; omega⟩
set_option maxHeartbeats 1000000 in
theorem copy_row (l : List Nat) (p : Option Addr) (c : Nat) (w : World) (h : Pt w p l) (h0 : 0 < l.length) (hl : l.length ≤ 1000000) :
    Calls Try.prog 35 #[.slice p l.length c] w fun e w' => ∃ c', e = .returned (.slice (some ⟨w.heap.size, 0, none⟩) l.length c') ∧ Rw w' w.heap.size l ∧ Below w.heap.size w w' := by
  have HP := hid h; have H0 := hid h0; clear h h0
  go_enter Try.func35, Try.ntmps35
  go_wp2_with (at_builtin; refine wpList_app rfl _ _ _ rfl rfl rfl (key_full _ none _ l _ HP.out (by omega)) ?_)
  intro v' w1 hF
  obtain ⟨c', rfl, hr, hb⟩ := row_full H0.out hF
  have HN := hid hr
  have HB := hid hb
  clear hF hr hb
  go_wp2_with fail
  go_ret
  exact ⟨c', rfl, HN.out, HB.out⟩
/-- a box of the call's own, one of its points a row of the call's own -/
structure Bx1 (w W : World) (gb gr : Nat) (x y : Value) (l : List Nat) : Prop where
  box : W.heap[gb]? = some (.cells #[x, y] 35 (0, 0))
  row : Rw W gr l
  ne : gb ≠ gr
  hb : w.heap.size ≤ gb
  hr : w.heap.size ≤ gr
  below : Below w.heap.size w W
section
variable {w W W' : World} {gb gr : Nat} {x y : Value} {l : List Nat}
theorem Bx1.lt (h : Bx1 w W gb gr x y l) : gb < W.heap.size := (Array.getElem?_eq_some_iff.1 h.box).1
theorem Bx1.step (h : Bx1 w W gb gr x y l) (hb : Below W.heap.size W W') : Bx1 w W' gb gr x y l :=
  ⟨(hb.block gb h.lt).trans h.box, h.row.below hb, h.ne, h.hb, h.hr, h.below.trans (hb.mono h.below.size)⟩
theorem Bx1.set (h : Bx1 w W gb gr x y l) {a m : Nat} (ha : a < l.length) : Bx1 w (W.setCell ⟨gr, a, none⟩ (.int .u32 (m : Int))) gb gr x y (l.set a m) :=
  ⟨(Below.heap_setCell _ _ _ _ h.ne).trans h.box, h.row.set a m ha, h.ne, h.hb, h.hr, h.below.setCell h.hr _⟩
theorem Bx1.far (h : Bx1 w W gb gr x y l) {p : Addr} {u : Value} (h1 : gb ≠ p.block) (h2 : gr ≠ p.block) (h3 : w.heap.size ≤ p.block) : Bx1 w (W.setCell p u) gb gr x y l :=
  ⟨(Below.heap_setCell _ _ _ _ h1).trans h.box, h.row.far h2 _, h.ne, h.hb, h.hr, h.below.setCell h3 _⟩
theorem Bx1.base {w0 : World} (h : Bx1 w W gb gr x y l) (hb : Below w0.heap.size w0 w) : Bx1 w0 W gb gr x y l :=
  ⟨h.box, h.row, h.ne, Nat.le_trans hb.size h.hb, Nat.le_trans hb.size h.hr, hb.trans (h.below.mono hb.size)⟩
theorem bx_a {w5 : World} (hr : Rw w5 w.heap.size l) (hb : Below w.heap.size w w5) (x y : Value) : Bx1 w (w5.alloc (.cells #[x, y] 35 (0, 0))) w5.heap.size w.heap.size x y l :=
  ⟨heap_alloc_new w5 _, hr.below (below_alloc w5 _), fun e => by have := hr.lt; omega, hb.size, Nat.le_refl _, hb.trans ((below_alloc w5 _).mono hb.size)⟩
theorem bx_b {w5 : World} {u v : Value} (hr : Rw w5 (w.heap.size + 1) l) (hb : Below (w.heap.size + 1) (w.alloc (.cells #[u, v] 35 (0, 0))) w5) (x y : Value) :
    Bx1 w ((w5.setCell ⟨w.heap.size, 0, none⟩ x).setCell ⟨w.heap.size, 1, none⟩ y) w.heap.size (w.heap.size + 1) x y l := by
  have h0 := (hb.block w.heap.size (by omega)).trans (heap_alloc_new w _)
  have h1 := heap_setCell_same w5 w.heap.size 0 _ _ x h0
  have h2 := heap_setCell_same _ w.heap.size 1 _ _ y h1
  have hB : Below w.heap.size w w5 := (below_alloc w (.cells #[u, v] 35 (0, 0))).trans (hb.mono (by omega))
  exact ⟨by rw [h2]; simp, (hr.far (p := ⟨w.heap.size, 0, none⟩) (by simp) _).far (p := ⟨w.heap.size, 1, none⟩) (by simp) _, by omega, Nat.le_refl _, by omega, (hB.setCell (p := ⟨w.heap.size, 0, none⟩) (Nat.le_refl _) _).setCell (p := ⟨w.heap.size, 1, none⟩) (Nat.le_refl _) _⟩
theorem two_far {b g : Nat} {x y u v : Value} (h : b ≠ g) (hc : w.cell? ⟨g, 0, none⟩ = some x ∧ w.cell? ⟨g, 1, none⟩ = some y) :
    ((w.setCell ⟨b, 0, none⟩ u).setCell ⟨b, 1, none⟩ v).cell? ⟨g, 0, none⟩ = some x ∧ ((w.setCell ⟨b, 0, none⟩ u).setCell ⟨b, 1, none⟩ v).cell? ⟨g, 1, none⟩ = some y := by
  have ne : ∀ i j, (⟨b, i, none⟩ : Addr) ≠ ⟨g, j, none⟩ := fun i j e => h (congrArg Addr.block e)
  rw [World.cell?_setCell_other (h := ne _ _), World.cell?_setCell_other (h := ne _ _), World.cell?_setCell_other (h := ne _ _), World.cell?_setCell_other (h := ne _ _)]
  exact hc
theorem set_fit {l : List Nat} {a m : Nat} (h : ∀ x ∈ l, x < 4294967296) (hm : m < 4294967296) : ∀ x ∈ l.set a m, x < 4294967296 := fun x hx => by
  rcases List.mem_or_eq_of_mem_set hx with h1 | rfl
  · exact h x h1
  · exact hm
end
theorem in_iff {k lo hi : List Nat} : inB k lo hi = true ↔ (lo.length = k.length ∧ k.length = hi.length ∧ ∀ i (h : i < k.length) (h1 : i < lo.length) (h2 : i < hi.length), lo[i] ≤ k[i] ∧ k[i] ≤ hi[i]) := by
  unfold inB
  rw [Bool.and_eq_true, leAll_iff, leAll_iff]
  constructor
  · rintro ⟨⟨a1, a2⟩, b1, b2⟩
    exact ⟨a1, b1, fun i h h1 h2 => ⟨a2 i h1 h, b2 i h h2⟩⟩
  · rintro ⟨a1, b1, c⟩
    exact ⟨⟨a1, fun i h1 h => (c i h h1 (by omega)).1⟩, b1, fun i h h2 => (c i h (by omega) h2).2⟩
theorem cut_in {k lo hi : List Nat} {a m : Nat} (ha : a < lo.length) (hb : a < hi.length) (h1 : lo[a] ≤ m) (h2 : m < hi[a]) :
    (if inB k lo (hi.set a m) = true then 1 else 0) + (if inB k (lo.set a (m + 1)) hi = true then 1 else 0) = (if inB k lo hi = true then 1 else (0 : Nat)) := by
  by_cases hk : inB k lo hi = true
  · obtain ⟨l1, l2, hc⟩ := in_iff.1 hk
    have hka : a < k.length := by omega
    rw [if_pos hk]
    by_cases hm : k[a] ≤ m
    · have e1 : inB k lo (hi.set a m) = true := in_iff.2 ⟨l1, by simpa using l2, fun i h g1 g2 => ⟨(hc i h g1 (by simpa using g2)).1, by
        rw [List.getElem_set]
        split
        · rename_i e; subst e; exact hm
        · exact (hc i h g1 (by simpa using g2)).2⟩⟩
      have e2 : ¬ inB k (lo.set a (m + 1)) hi = true := fun h => by
        obtain ⟨_, _, c⟩ := in_iff.1 h
        have := (c a hka (by simpa using ha) hb).1
        rw [List.getElem_set_self] at this
        omega
      rw [if_pos e1, if_neg e2]
    · have e1 : ¬ inB k lo (hi.set a m) = true := fun h => by
        obtain ⟨_, _, c⟩ := in_iff.1 h
        have := (c a hka ha (by simpa using hb)).2
        rw [List.getElem_set_self] at this
        omega
      have e2 : inB k (lo.set a (m + 1)) hi = true := in_iff.2 ⟨by simpa using l1, l2, fun i h g1 g2 => ⟨by
        rw [List.getElem_set]
        split
        · rename_i e; subst e; omega
        · exact (hc i h (by simpa using g1) g2).1, (hc i h (by simpa using g1) g2).2⟩⟩
      rw [if_neg e1, if_pos e2]
  · rw [if_neg hk]
    have e1 : ¬ inB k lo (hi.set a m) = true := fun h => hk (by
      obtain ⟨l1, l2, hc⟩ := in_iff.1 h
      refine in_iff.2 ⟨l1, by simpa using l2, fun i hi1 g1 g2 => ⟨(hc i hi1 g1 (by simpa using g2)).1, ?_⟩⟩
      have := (hc i hi1 g1 (by simpa using g2)).2
      rw [List.getElem_set] at this
      split at this
      · rename_i e; subst e; omega
      · exact this)
    have e2 : ¬ inB k (lo.set a (m + 1)) hi = true := fun h => hk (by
      obtain ⟨l1, l2, hc⟩ := in_iff.1 h
      refine in_iff.2 ⟨by simpa using l1, l2, fun i hi1 g1 g2 => ⟨?_, (hc i hi1 (by simpa using g1) g2).2⟩⟩
      have := (hc i hi1 (by simpa using g1) g2).1
      rw [List.getElem_set] at this
      split at this
      · rename_i e; subst e; omega
      · exact this)
    rw [if_neg e1, if_neg e2]
theorem win_cut {lo hi : List Nat} {a m : Nat} (ha : a < lo.length) (hb : a < hi.length) (h1 : lo[a] ≤ m) (h2 : m < hi[a]) (M : List Rec) :
    (winR M lo (hi.set a m)).length + (winR M (lo.set a (m + 1)) hi).length = (winR M lo hi).length := by
  induction M with
  | nil => rfl
  | cons r M ih =>
    have h := cut_in (k := r.1) ha hb h1 h2
    unfold winR at ih ⊢
    simp only [List.filter_cons]
    by_cases e1 : inB r.1 lo (hi.set a m) = true <;> by_cases e2 : inB r.1 (lo.set a (m + 1)) hi = true <;> by_cases e3 : inB r.1 lo hi = true <;> simp [e1, e2, e3] at h ⊢ <;> omega
theorem box_cut {lo hi : List Nat} {d : Int} {a m : Nat} (h : boxB lo hi d = true) (ha : a < lo.length) (hb : a < hi.length) (h1 : lo[a] ≤ m) (h2 : m < hi[a]) : boxB lo (hi.set a m) d = true ∧ boxB (lo.set a (m + 1)) hi d = true := by
  unfold boxB at h ⊢
  rw [Bool.and_eq_true] at h ⊢
  obtain ⟨g1, g2⟩ := leAll_iff.1 h.2
  refine ⟨⟨h.1, leAll_iff.2 ⟨by simpa using g1, fun i hi1 hi2 => ?_⟩⟩, ?_⟩
  · rw [List.getElem_set]
    split
    · rename_i e; subst e; exact h1
    · exact g2 i hi1 (by simpa using hi2)
  · rw [Bool.and_eq_true, List.length_set]
    refine ⟨h.1, leAll_iff.2 ⟨by simpa using g1, fun i hi1 hi2 => ?_⟩⟩
    rw [List.getElem_set]
    split
    · rename_i e; subst e; omega
    · exact g2 i (by simpa using hi1) hi2
set_option maxRecDepth 100000 in
theorem AtlasCut_open0 {H : Type} {enc : TypeId × Value → H} {W : World} {base : Nat} {v : Value} {d : DataW H} {p : List MemPlace} (hv : Value.okWide Try.prog W .any base 62 v) (h : DataW.Trod enc Try.prog W 0 (fun _ => true) true 62 v d p) : CutV W v := open_cutA hv h
set_option maxRecDepth 100000 in
set_option maxHeartbeats 64000000 in
theorem Cut_go (d : Int) (P : Option Addr) (L : List Rec) (C : Nat) (q : Option Addr) (lo : List Nat) (c2 : Nat) (r : Option Addr) (hi : List Nat) (c3 : Nat) (at' : Int) (w : World) (hP : Rs (fun _ => False) w P L) (hL : L.length ≤ 9223372036854775807) (hq : Pt w q lo) (hr : Pt w r hi) (hll : lo.length ≤ 9223372036854775807) :
    Calls Try.prog 6 #[.agg #[.int .i64 d, .slice P L.length C, .slice q lo.length c2, .slice r hi.length c3, .int .i64 at']] w fun e w' => e = .returned (.bool true) ∧ Below w.heap.size w w' := by
  obtain ⟨V, hV⟩ : ∃ V, w.alloc (.cells #[.int .i64 d, .slice P L.length C, .slice q lo.length c2, .slice r hi.length c3, .int .i64 at'] 62 (0, 0)) = V := ⟨_, rfl⟩
  have HB := hid (show Below w.heap.size w V by rw [← hV]; exact below_alloc w _)
  have hA : V.heap[w.heap.size]? = some (.cells #[.int .i64 d, .slice P L.length C, .slice q lo.length c2, .slice r hi.length c3, .int .i64 at'] 62 (0, 0)) := by rw [← hV]; exact heap_alloc_new w _
  have a0 : V.cell? ⟨w.heap.size, 0, none⟩ = some (.int .i64 d) := by rw [cell_of_row _ _ _ _ _ _ hA]; rfl
  have a1 : V.cell? ⟨w.heap.size, 1, none⟩ = some (.slice P L.length C) := by rw [cell_of_row _ _ _ _ _ _ hA]; rfl
  have a2 : V.cell? ⟨w.heap.size, 2, none⟩ = some (.slice q lo.length c2) := by rw [cell_of_row _ _ _ _ _ _ hA]; rfl
  have a3 : V.cell? ⟨w.heap.size, 3, none⟩ = some (.slice r hi.length c3) := by rw [cell_of_row _ _ _ _ _ _ hA]; rfl
  have a4 : V.cell? ⟨w.heap.size, 4, none⟩ = some (.int .i64 at') := by rw [cell_of_row _ _ _ _ _ _ hA]; rfl
  have HP := hid (And.intro (hP.below HB.out) (And.intro (hq.below HB.out) (hr.below HB.out)))
  clear hA hP hq hr
  go_enter Try.func6, Try.ntmps6
  go_wp2_with fail
  have n0 := World.new_ne V ⟨w.heap.size, 0, none⟩ a0
  go_region_held3 (fun w' => (w'.cell? ⟨w.heap.size, 0, none⟩ = some (.int .i64 d) ∧ w'.cell? ⟨w.heap.size, 1, none⟩ = some (.slice P L.length C) ∧ w'.cell? ⟨w.heap.size, 2, none⟩ = some (.slice q lo.length c2)) ∧ w'.cell? ⟨w.heap.size, 3, none⟩ = some (.slice r hi.length c3) ∧ w'.cell? ⟨w.heap.size, 4, none⟩ = some (.int .i64 at')) (first | exact ⟨⟨a0, a1, a2⟩, a3, a4⟩ | go_keep) (fail)
  have HBE0 := hid (show Below w.heap.size w (V.alloc (.cells #[.slice q lo.length c2, .slice r hi.length c3] 35 (0, 0))).drew from (HB.out.trans ((below_alloc V _).mono HB.out.size)).drew)
  have HR0 := hid (show (V.alloc (.cells #[.slice q lo.length c2, .slice r hi.length c3] 35 (0, 0))).drew.heap[V.heap.size]? = some (.cells #[.slice q lo.length c2, .slice r hi.length c3] 35 (0, 0)) from heap_alloc_new V _)
  have HP0 := hid (And.intro ((HP.out.1.alloc (.cells #[.slice q lo.length c2, .slice r hi.length c3] 35 (0, 0))).drew) (And.intro ((HP.out.2.1.alloc (.cells #[.slice q lo.length c2, .slice r hi.length c3] 35 (0, 0))).drew) ((HP.out.2.2.alloc (.cells #[.slice q lo.length c2, .slice r hi.length c3] 35 (0, 0))).drew)))
  clear a0 a1 a2 a3 a4 n0 HP HB hV
  generalize (V.alloc (.cells #[.slice q lo.length c2, .slice r hi.length c3] 35 (0, 0))).drew = V0 at HBE0 HR0 HP0 ⊢
  generalize V.heap.size = g at HR0 ⊢
  have HBE := hid fun (w' : World) (hb : Below V0.heap.size V0 w') => HBE0.out.trans (hb.mono HBE0.out.size)
  have HGL := hid (Array.getElem?_eq_some_iff.1 HR0.out).1
  have HR := hid fun (w' : World) (hb : Below V0.heap.size V0 w') => (show w'.cell? ⟨g, 0, none⟩ = some (.slice q lo.length c2) ∧ w'.cell? ⟨g, 1, none⟩ = some (.slice r hi.length c3) from by
    have h := two_cells ((hb.block g HGL.out).trans HR0.out)
    exact ⟨h.1, h.2.1⟩)
  obtain ⟨r0, r1⟩ := HR.out _ (Below.refl _ _)
  have HK := hid fun (w' : World) (hb : Below V0.heap.size V0 w') => (And.intro (HP0.out.2.1.below hb) (HP0.out.2.2.below hb))
  have HLS := hid fun (w' : World) (hb : Below V0.heap.size V0 w') => HP0.out.1.below hb
  by_cases hd : 1 ≤ d ∧ d ≤ 6
  · have HD := hid hd
    clear hd
    go_wp2_with fail
    refine (aw_new (X := No) d V0 V0 (Below.refl _ _) HD.out (fun _ h => h.elim)).mono ?_
    rintro e w1 ⟨rfl, ha, _⟩
    have HA := hid ha; clear ha
    clear r0 r1
    generalize hb0 : V0.heap.size = b0 at HA ⊢
    clear hb0
    obtain ⟨r0, r1⟩ := HR.out _ HA.out.below
    have HFW := hid (few_ok L P C w1 (HLS.out _ HA.out.below) hL)
    have HN := hid HA.out.below
    have HBX := hid (refCheckBox_ok lo hi q r c2 c3 d w1 (HK.out _ HA.out.below).1 (HK.out _ HA.out.below).2 hll)
    cases hf : fewB L with
    | false =>
      rw [hf] at HFW
      clear hf
      go_wp2_with (first
        | (go_at_call 31; refine HFW.out.mono ?_; rintro e w' ⟨rfl, rfl⟩)
        | (go_at_call 32; refine HBX.out.mono ?_; rintro e w4 ⟨rfl, hb⟩; replace HN := hid (HN.out.trans (hb.mono HN.out.size)); clear hb)
        | (go_at_call 14; refine (live_any _).mono ?_; rintro e w5 ⟨rfl, hb⟩; have H2 := hid (HN.out.trans (hb.mono HN.out.size)); clear hb))
      go_ret
      exact ⟨rfl, HBE.out _ H2.out⟩
    | true =>
      rw [hf] at HFW
      have HFR := hid (fewB_iff.1 hf)
      have hlen := (fewB_iff.1 hf).1
      clear hf
      cases hbx : boxB lo hi d with
      | false =>
        rw [hbx, err_false false rfl] at HBX
        clear hbx
        go_wp2_with (first
          | (go_at_call 31; refine HFW.out.mono ?_; rintro e w' ⟨rfl, rfl⟩)
          | (go_at_call 32; refine HBX.out.mono ?_; rintro e w4 ⟨rfl, hb⟩; replace HN := hid (HN.out.trans (hb.mono HN.out.size)); clear hb)
          | (go_at_call 14; refine (live_any _).mono ?_; rintro e w5 ⟨rfl, hb⟩; have H2 := hid (HN.out.trans (hb.mono HN.out.size)); clear hb))
        go_ret
        exact ⟨rfl, HBE.out _ H2.out⟩
      | true =>
        rw [hbx, err_true true rfl] at HBX
        have HBB := hid hbx
        clear hbx
        by_cases hat : 0 ≤ at' ∧ at' < d
        · obtain ⟨a, rfl⟩ : ∃ a : Nat, at' = (a : Int) := ⟨at'.toNat, by omega⟩
          have HAT := hid (show (a : Int) < d from hat.2)
          have z1 : decide ((a : Int) < 0) = false := by simp
          have z2 : decide (d ≤ (a : Int)) = false := by simp; omega
          clear hat
          go_wp2_with (first
            | (go_at_call 31; refine HFW.out.mono ?_; rintro e w' ⟨rfl, rfl⟩)
            | (go_at_call 32; refine HBX.out.mono ?_; rintro e w2 ⟨rfl, hb⟩; replace HA := hid (HA.out.next hb); clear hb))
          clear z1 z2 r0 r1 HFW HN HBX
          go_loopw [9] (fun i wr => ∃ (j : Nat) (M : List Rec) (v : Value), j ≤ L.length ∧ i = .int .i64 j ∧ Aw V0 wr No b0 v d M ∧ M.length ≤ j) (fun i _ => L.length - (intOf i).toNat)
          case atStart => exact ⟨0, [], _, by omega, rfl, HA.out, by simp⟩
          case round =>
            obtain ⟨j, M, v, hj, rfl, ha, hm⟩ := hrel
            clear HA
            have HA := hid ha; clear ha
            rename World => wr
            by_cases hlt : j < L.length
            · obtain ⟨g1, off, q1, c1, hpe, hgl, d1, d2, hq1⟩ := (HLS.out _ HA.out.below).at j hlt
              subst hpe
              have HQ := hid hq1.pt
              have HM := hid (stepP_len d M L[j])
              generalize L[j].1 = k1 at HQ d1
              generalize L[j].2 = t1 at d2
              clear hq1 HM
              by_cases hr : recB k1 t1 d = true
              · have HPT := hid (aw_put HA.out k1 t1 q1 c1 HQ.out hr (by omega))
                have HML := hid (show (putR M (k1, t1)).length ≤ j + 1 by rw [putR_length]; split <;> omega)
                clear hr
                go_wp2_with (go_at_call 19; refine HPT.out.mono ?_; rintro e w2 ⟨rfl, v', ha, _, _, _⟩; have HA2 := hid ha; clear ha)
                go_roundw
                case rel => exact ⟨j + 1, _, v', by omega, by go_num, HA2.out, HML.out⟩
                case measure => simp [intOf]; omega
              · have hr2 : recB k1 t1 d = false := by simpa using hr
                have HPT := hid (aw_put_bad HA.out k1 t1 q1 c1 hr2)
                clear hr hr2
                go_wp2_with (go_at_call 19; refine HPT.out.mono ?_; rintro e w2 ⟨rfl, hb⟩; have HA2 := hid (HA.out.next hb); clear hb)
                go_roundw
                case rel => exact ⟨j + 1, M, v, by omega, by go_num, HA2.out, by omega⟩
                case measure => simp [intOf]; omega
            · obtain rfl : j = L.length := by omega
              have HML := hid hm
              clear hm hlt hj
              obtain ⟨r0, r1⟩ := HR.out _ HA.out.below
              have HWI := hid (window_ok lo hi q r c2 c3 wr HA.out.atl (HK.out _ HA.out.below).1 (HK.out _ HA.out.below).2 HBB.out)
              have HWU := hid (show upL (winR M lo hi) from List.Pairwise.sublist List.filter_sublist HA.out.atl.up)
              have HWB := hid (winR_big HA.out.atl.big lo hi)
              have HWM := hid (show ∀ x ∈ winR M lo hi, inB x.1 lo hi = true from fun x hx => (List.mem_filter.1 hx).2)
              obtain ⟨WL, hWL⟩ : ∃ WL, winR M lo hi = WL := ⟨_, rfl⟩
              have HWL := hid hWL
              rw [hWL] at HWI HWU HWB HWM
              clear hWL
              have hwlen := HWB.out.1
              go_wp2_with fail
              refine HWI.out.mono ?_
              rintro e w3 ⟨pw, rfl, hr, hb⟩
              have HX := hid hr
              have HA3 := hid (HA.out.next hb); clear hr hb HWI HA r0 r1
              go_wp2_with fail
              go_loopw [12] (fun i wq => ∃ (m : Nat), m ≤ WL.length ∧ i = .int .i64 m ∧ Below w3.heap.size w3 wq) (fun i _ => WL.length - (intOf i).toNat)
              case atStart => exact ⟨0, by omega, rfl, Below.refl _ _⟩
              case round =>
                obtain ⟨m, hm, rfl, hbq⟩ := hrel
                have HQB := hid hbq; clear hbq
                rename World => w9
                have HA9 := hid (HA3.out.next HQB.out)
                have HX9 := hid (HX.out.below HQB.out)
                obtain ⟨r0, r1⟩ := HR.out _ HA9.out.below
                by_cases hmj : m < WL.length
                · obtain ⟨g4, off4, q4, c4, hpe4, hgl4, e4, _, hq4⟩ := HX9.out.at m hmj
                  have HQ4 := hid hq4.pt
                  subst hpe4
                  have hz6 : (0 : Int) ≤ (m : Int) := by omega
                  have hz7 : (m : Int) < (WL.length : Int) := by omega
                  have hin := HWM.out _ (List.getElem_mem hmj)
                  have hsm4 := (HWB.out.2 _ (List.getElem_mem hmj)).1
                  have HI := hid fun (w' : World) (hb : Below w9.heap.size w9 w') => refIn_ok WL[m].1 lo hi q4 q r c4 c2 c3 w' ((HQ4.out).below hb) (HK.out _ (HA9.out.next hb).below).1 (HK.out _ (HA9.out.next hb).below).2 (by omega)
                  rw [hin] at HI
                  have HE4 := hid fun (w' : World) (hb : Below w9.heap.size w9 w') => (hb.cell (p := ⟨g4, off4 + m * 2, none⟩) hgl4).trans e4
                  clear hq4 hin
                  by_cases hm0 : m = 0
                  · subst hm0
                    have hw0 : 0 < WL.length := hmj
                    have hw1 : decide (0 < WL.length) = true := by simpa using hmj
                    have hw2 : (0 : Int) < (WL.length : Int) := by omega
                    clear hsm4 hz6 hz7
                    generalize (WL[0]'hmj).1 = k4 at e4 HQ4 HI HE4
                    simp only [Nat.zero_mul, Nat.add_zero] at e4 HE4
                    go_wp2_with fail
                    refine wp_region_held_drew (S := fun w' => (w'.cell? ⟨g, 0, none⟩ = some (.slice q lo.length c2) ∧ w'.cell? ⟨g, 1, none⟩ = some (.slice r hi.length c3)) ∧ w'.cell? ⟨g4, off4, none⟩ = some (.slice q4 k4.length c4)) (by kernel_rfl) ⟨⟨r0, r1⟩, e4⟩ (fun hHeld => ?_)
                    refine wpAnyH_take (i := 0) (oi := { dst := some 82, op := Op.move (Operand.tmp 10), type := 40, pos := "law.go:154", after := #[], guard := none }) (v := ?vz0) rfl (by kernel_rfl) (by kernel_rfl) (by kernel_rfl) (fun _ _ _ h => h) (Or.inl ⟨by rfl, ?hyz0⟩) (by assumption) ?restz0
                    case hyz0 => (intro w hSw; (try dsimp only at hSw); go_simp; (try with_reducible rfl))
                    simp only [Act.put, List.setIfInBounds_toArray, List.set_cons_zero, List.set_cons_succ]
                    refine wpAnyH_take (i := 1) (oi := { dst := some 83, op := Op.move (Operand.tmp 12), type := 3, pos := "law.go:154", after := #[], guard := none }) (v := ?vz1) rfl (by kernel_rfl) (by kernel_rfl) (by kernel_rfl) (fun _ _ _ h => h) (Or.inl ⟨by rfl, ?hyz1⟩) (by assumption) ?restz1
                    case hyz1 => (intro w hSw; (try dsimp only at hSw); go_simp; (try with_reducible rfl))
                    simp only [Act.put, List.setIfInBounds_toArray, List.set_cons_zero, List.set_cons_succ]
                    refine wpAnyH_take (i := 2) (oi := { dst := some 84, op := Op.indexAddr 40 (Operand.tmp 82) (Operand.tmp 83), type := 0, pos := "law.go:154", after := #[{ on := 0, ground := Ground.data }, { on := 1, ground := Ground.data }], guard := none }) (v := ?vz2) rfl (by kernel_rfl) (by kernel_rfl) (by kernel_rfl) (fun _ _ _ h => h) (Or.inl ⟨by rfl, ?hyz2⟩) (by assumption) ?restz2
                    case hyz2 => (intro w hSw; (try dsimp only at hSw); go_simp; (try with_reducible rfl))
                    simp only [Act.put, List.setIfInBounds_toArray, List.set_cons_zero, List.set_cons_succ]
                    refine wpAnyH_take (i := 3) (oi := { dst := some 85, op := Op.fieldAddr 33 (Operand.tmp 84) 0, type := 0, pos := "law.go:154", after := #[{ on := 2, ground := Ground.data }], guard := none }) (v := ?vz3) rfl (by kernel_rfl) (by kernel_rfl) (by kernel_rfl) (fun _ _ _ h => h) (Or.inl ⟨by rfl, ?hyz3⟩) (by assumption) ?restz3
                    case hyz3 => (intro w hSw; (try dsimp only at hSw); go_simp; (try with_reducible rfl))
                    simp only [Act.put, List.setIfInBounds_toArray, List.set_cons_zero, List.set_cons_succ]
                    refine wpAnyH_take (i := 4) (oi := { dst := some 86, op := Op.load 31 (Operand.tmp 85), type := 31, pos := "law.go:154", after := #[{ on := 3, ground := Ground.data }], guard := none }) (v := ?vz4) rfl (by kernel_rfl) (by kernel_rfl) (by kernel_rfl) (fun _ _ _ h => h) (Or.inl ⟨by rfl, ?hyz4⟩) (by assumption) ?restz4
                    case hyz4 => (intro w hSw; (try dsimp only at hSw); go_simp; (try with_reducible rfl))
                    simp only [Act.put, List.setIfInBounds_toArray, List.set_cons_zero, List.set_cons_succ]
                    refine wpAnyH_take (i := 5) (oi := { dst := some 87, op := Op.load 35 (Operand.tmp 5), type := 35, pos := "law.go:154", after := #[], guard := none }) (v := ?vz5) rfl (by kernel_rfl) (by kernel_rfl) (by kernel_rfl) (fun _ _ _ h => h) (Or.inl ⟨by rfl, ?hyz5⟩) (by assumption) ?restz5
                    case hyz5 => (intro w hSw; (try dsimp only at hSw); go_simp; (try with_reducible rfl))
                    simp only [Act.put, List.setIfInBounds_toArray, List.set_cons_zero, List.set_cons_succ]
                    refine wpAnyH_ready (rs := [6]) (by kernel_rfl) (by simp) (AllReadyH.cons (o := { dst := some 88, op := Op.call { callee := Callee.value (Operand.func 33), args := #[Operand.tmp 86, Operand.tmp 87], argTypes := #[31, 35] }, type := 4, pos := "law.go:154", after := #[{ on := 4, ground := Ground.data }, { on := 5, ground := Ground.data }], guard := none }) rfl (fun K hK => ?_) AllReadyH.nil)
                    go_simp
                    go_at_call 33
                    refine (HI.out _ (Below.refl _ _).drew).mono ?_
                    rintro e w5 ⟨rfl, hb⟩
                    have H5 := hid ((show Below w9.heap.size w9 w9.drew from (Below.refl _ _).drew).trans hb)
                    have x5 := And.intro (HR.out _ (HA9.out.next H5.out).below) (HE4.out _ H5.out)
                    clear hb
                    go_wp2_with fail
                    refine hK.out _ _ x5 (fun hHeld => ?_)
                    clear hK K
                    refine wpAnyH_take (i := 7) (oi := { dst := some 89, op := Op.unOp UnOp.not 4 (Operand.tmp 88), type := 4, pos := "law.go:154", after := #[{ on := 6, ground := Ground.data }], guard := none }) (v := ?vz7) rfl (by kernel_rfl) (by kernel_rfl) (by kernel_rfl) (fun _ _ _ h => h) (Or.inl ⟨by rfl, ?hyz7⟩) (by assumption) ?restz7
                    case hyz7 => (intro w hSw; (try dsimp only at hSw); go_simp; (try with_reducible rfl))
                    simp only [Act.put, List.setIfInBounds_toArray, List.set_cons_zero, List.set_cons_succ]
                    refine wpAnyH_take (i := 8) (oi := { dst := some 90, op := Op.move (Operand.tmp 89), type := 4, pos := "law.go:154", after := #[{ on := 7, ground := Ground.data }, { on := 6, ground := Ground.chain }], guard := none }) (v := ?vz8) rfl (by kernel_rfl) (by kernel_rfl) (by kernel_rfl) (fun _ _ _ h => h) (Or.inl ⟨by rfl, ?hyz8⟩) (by assumption) ?restz8
                    case hyz8 => (intro w hSw; (try dsimp only at hSw); go_simp; (try with_reducible rfl))
                    simp only [Act.put, List.setIfInBounds_toArray, List.set_cons_zero, List.set_cons_succ]
                    refine wpAnyH_take (i := 9) (oi := { dst := some 91, op := Op.move (Operand.tmp 12), type := 3, pos := "law.go:154", after := #[{ on := 8, ground := Ground.guard }], guard := some (8, false) }) (v := ?vz9) rfl (by kernel_rfl) (by kernel_rfl) (by kernel_rfl) (fun _ _ _ h => h) (Or.inl ⟨by rfl, ?hyz9⟩) (by assumption) ?restz9
                    case hyz9 => (intro w hSw; (try dsimp only at hSw); go_simp; (try with_reducible rfl))
                    simp only [Act.put, List.setIfInBounds_toArray, List.set_cons_zero, List.set_cons_succ]
                    refine wpAnyH_take (i := 10) (oi := { dst := some 92, op := Op.binOp BinOp.gtr 3 (Operand.tmp 91) (Operand.const (Value.int IntKind.i64 0)) 3, type := 4, pos := "law.go:154", after := #[{ on := 9, ground := Ground.data }, { on := 8, ground := Ground.guard }], guard := some (8, false) }) (v := ?vz10) rfl (by kernel_rfl) (by kernel_rfl) (by kernel_rfl) (fun _ _ _ h => h) (Or.inl ⟨by rfl, ?hyz10⟩) (by assumption) ?restz10
                    case hyz10 => (intro w hSw; (try dsimp only at hSw); go_simp; (try with_reducible rfl))
                    simp only [Act.put, List.setIfInBounds_toArray, List.set_cons_zero, List.set_cons_succ]
                    refine wpAnyH_take (i := 11) (oi := { dst := some 93, op := Op.move (Operand.tmp 92), type := 4, pos := "law.go:154", after := #[{ on := 10, ground := Ground.data }, { on := 8, ground := Ground.chain }, { on := 8, ground := Ground.guard }], guard := some (8, false) }) (v := ?vz11) rfl (by kernel_rfl) (by kernel_rfl) (by kernel_rfl) (fun _ _ _ h => h) (Or.inl ⟨by rfl, ?hyz11⟩) (by assumption) ?restz11
                    case hyz11 => (intro w hSw; (try dsimp only at hSw); go_simp; (try with_reducible rfl))
                    simp only [Act.put, List.setIfInBounds_toArray, List.set_cons_zero, List.set_cons_succ]
                    refine wpAnyH_take (i := 12) (oi := { dst := some 94, op := Op.move (Operand.tmp 10), type := 40, pos := "law.go:154", after := #[{ on := 11, ground := Ground.guard }], guard := some (11, true) }) (v := _) rfl (by kernel_rfl) (by kernel_rfl) (by kernel_rfl) (fun _ _ _ h => h) (Or.inr ⟨by rfl, rfl⟩) (by assumption) ?_
                    simp only [Act.put, List.setIfInBounds_toArray, List.set_cons_zero, List.set_cons_succ]
                    refine wpAnyH_take (i := 13) (oi := { dst := some 95, op := Op.move (Operand.tmp 12), type := 3, pos := "law.go:154", after := #[{ on := 11, ground := Ground.guard }], guard := some (11, true) }) (v := _) rfl (by kernel_rfl) (by kernel_rfl) (by kernel_rfl) (fun _ _ _ h => h) (Or.inr ⟨by rfl, rfl⟩) (by assumption) ?_
                    simp only [Act.put, List.setIfInBounds_toArray, List.set_cons_zero, List.set_cons_succ]
                    refine wpAnyH_take (i := 14) (oi := { dst := some 96, op := Op.binOp BinOp.sub 3 (Operand.tmp 95) (Operand.const (Value.int IntKind.i64 1)) 3, type := 3, pos := "law.go:154", after := #[{ on := 13, ground := Ground.data }, { on := 11, ground := Ground.guard }], guard := some (11, true) }) (v := _) rfl (by kernel_rfl) (by kernel_rfl) (by kernel_rfl) (fun _ _ _ h => h) (Or.inr ⟨by rfl, rfl⟩) (by assumption) ?_
                    simp only [Act.put, List.setIfInBounds_toArray, List.set_cons_zero, List.set_cons_succ]
                    refine wpAnyH_take (i := 15) (oi := { dst := some 97, op := Op.indexAddr 40 (Operand.tmp 94) (Operand.tmp 96), type := 0, pos := "law.go:154", after := #[{ on := 12, ground := Ground.data }, { on := 14, ground := Ground.data }, { on := 11, ground := Ground.guard }], guard := some (11, true) }) (v := _) rfl (by kernel_rfl) (by kernel_rfl) (by kernel_rfl) (fun _ _ _ h => h) (Or.inr ⟨by rfl, rfl⟩) (by assumption) ?_
                    simp only [Act.put, List.setIfInBounds_toArray, List.set_cons_zero, List.set_cons_succ]
                    refine wpAnyH_take (i := 16) (oi := { dst := some 98, op := Op.fieldAddr 33 (Operand.tmp 97) 0, type := 0, pos := "law.go:154", after := #[{ on := 15, ground := Ground.data }, { on := 11, ground := Ground.guard }], guard := some (11, true) }) (v := _) rfl (by kernel_rfl) (by kernel_rfl) (by kernel_rfl) (fun _ _ _ h => h) (Or.inr ⟨by rfl, rfl⟩) (by assumption) ?_
                    simp only [Act.put, List.setIfInBounds_toArray, List.set_cons_zero, List.set_cons_succ]
                    refine wpAnyH_take (i := 17) (oi := { dst := some 99, op := Op.load 31 (Operand.tmp 98), type := 31, pos := "law.go:154", after := #[{ on := 16, ground := Ground.data }, { on := 11, ground := Ground.guard }], guard := some (11, true) }) (v := _) rfl (by kernel_rfl) (by kernel_rfl) (by kernel_rfl) (fun _ _ _ h => h) (Or.inr ⟨by rfl, rfl⟩) (by assumption) ?_
                    simp only [Act.put, List.setIfInBounds_toArray, List.set_cons_zero, List.set_cons_succ]
                    refine wpAnyH_take (i := 18) (oi := { dst := some 100, op := Op.move (Operand.tmp 10), type := 40, pos := "law.go:154", after := #[{ on := 11, ground := Ground.guard }], guard := some (11, true) }) (v := _) rfl (by kernel_rfl) (by kernel_rfl) (by kernel_rfl) (fun _ _ _ h => h) (Or.inr ⟨by rfl, rfl⟩) (by assumption) ?_
                    simp only [Act.put, List.setIfInBounds_toArray, List.set_cons_zero, List.set_cons_succ]
                    refine wpAnyH_take (i := 19) (oi := { dst := some 101, op := Op.move (Operand.tmp 12), type := 3, pos := "law.go:154", after := #[{ on := 11, ground := Ground.guard }], guard := some (11, true) }) (v := _) rfl (by kernel_rfl) (by kernel_rfl) (by kernel_rfl) (fun _ _ _ h => h) (Or.inr ⟨by rfl, rfl⟩) (by assumption) ?_
                    simp only [Act.put, List.setIfInBounds_toArray, List.set_cons_zero, List.set_cons_succ]
                    refine wpAnyH_take (i := 20) (oi := { dst := some 102, op := Op.indexAddr 40 (Operand.tmp 100) (Operand.tmp 101), type := 0, pos := "law.go:154", after := #[{ on := 18, ground := Ground.data }, { on := 19, ground := Ground.data }, { on := 11, ground := Ground.guard }], guard := some (11, true) }) (v := _) rfl (by kernel_rfl) (by kernel_rfl) (by kernel_rfl) (fun _ _ _ h => h) (Or.inr ⟨by rfl, rfl⟩) (by assumption) ?_
                    simp only [Act.put, List.setIfInBounds_toArray, List.set_cons_zero, List.set_cons_succ]
                    refine wpAnyH_take (i := 21) (oi := { dst := some 103, op := Op.fieldAddr 33 (Operand.tmp 102) 0, type := 0, pos := "law.go:154", after := #[{ on := 20, ground := Ground.data }, { on := 11, ground := Ground.guard }], guard := some (11, true) }) (v := _) rfl (by kernel_rfl) (by kernel_rfl) (by kernel_rfl) (fun _ _ _ h => h) (Or.inr ⟨by rfl, rfl⟩) (by assumption) ?_
                    simp only [Act.put, List.setIfInBounds_toArray, List.set_cons_zero, List.set_cons_succ]
                    refine wpAnyH_take (i := 22) (oi := { dst := some 104, op := Op.load 31 (Operand.tmp 103), type := 31, pos := "law.go:154", after := #[{ on := 21, ground := Ground.data }, { on := 11, ground := Ground.guard }], guard := some (11, true) }) (v := _) rfl (by kernel_rfl) (by kernel_rfl) (by kernel_rfl) (fun _ _ _ h => h) (Or.inr ⟨by rfl, rfl⟩) (by assumption) ?_
                    simp only [Act.put, List.setIfInBounds_toArray, List.set_cons_zero, List.set_cons_succ]
                    refine wpAnyH_take (i := 23) (oi := { dst := some 105, op := Op.call { callee := Callee.value (Operand.func 34), args := #[Operand.tmp 99, Operand.tmp 104], argTypes := #[31, 31] }, type := 3, pos := "law.go:154", after := #[{ on := 17, ground := Ground.data }, { on := 22, ground := Ground.data }, { on := 11, ground := Ground.chain }, { on := 11, ground := Ground.guard }], guard := some (11, true) }) (v := _) rfl (by kernel_rfl) (by kernel_rfl) (by kernel_rfl) (fun _ _ _ h => h) (Or.inr ⟨by rfl, rfl⟩) (by assumption) ?_
                    simp only [Act.put, List.setIfInBounds_toArray, List.set_cons_zero, List.set_cons_succ]
                    refine wpAnyH_take (i := 24) (oi := { dst := some 106, op := Op.binOp BinOp.geq 3 (Operand.tmp 105) (Operand.const (Value.int IntKind.i64 0)) 3, type := 4, pos := "law.go:154", after := #[{ on := 23, ground := Ground.data }, { on := 11, ground := Ground.guard }], guard := some (11, true) }) (v := _) rfl (by kernel_rfl) (by kernel_rfl) (by kernel_rfl) (fun _ _ _ h => h) (Or.inr ⟨by rfl, rfl⟩) (by assumption) ?_
                    simp only [Act.put, List.setIfInBounds_toArray, List.set_cons_zero, List.set_cons_succ]
                    refine wpAnyH_take (i := 25) (oi := { dst := some 107, op := Op.pick (Operand.tmp 93) (Operand.tmp 106) (Operand.const (Value.bool false)), type := 4, pos := "law.go:154", after := #[{ on := 11, ground := Ground.data }, { on := 24, ground := Ground.data }, { on := 8, ground := Ground.guard }], guard := some (8, false) }) (v := ?vz25) rfl (by kernel_rfl) (by kernel_rfl) (by kernel_rfl) (fun _ _ _ h => h) (Or.inl ⟨by rfl, ?hyz25⟩) (by assumption) ?restz25
                    case hyz25 => (intro w hSw; (try dsimp only at hSw); go_simp; (try with_reducible rfl))
                    simp only [Act.put, List.setIfInBounds_toArray, List.set_cons_zero, List.set_cons_succ]
                    refine wpAnyH_take (i := 26) (oi := { dst := some 108, op := Op.pick (Operand.tmp 90) (Operand.const (Value.bool true)) (Operand.tmp 107), type := 4, pos := "law.go:154", after := #[{ on := 8, ground := Ground.data }, { on := 25, ground := Ground.data }], guard := none }) (v := ?vz26) rfl (by kernel_rfl) (by kernel_rfl) (by kernel_rfl) (fun _ _ _ h => h) (Or.inl ⟨by rfl, ?hyz26⟩) (by assumption) ?restz26
                    case hyz26 => (intro w hSw; (try dsimp only at hSw); go_simp; (try with_reducible rfl))
                    simp only [Act.put, List.setIfInBounds_toArray, List.set_cons_zero, List.set_cons_succ]
                    refine wpAnyH_done (by kernel_rfl) ?_ _
                    go_wp2_with fail
                    go_roundw
                    case rel => exact ⟨1, by omega, by go_num, HQB.out.trans (H5.out.mono HQB.out.size)⟩
                    case measure => simp [intOf]; omega
                  · have hy1 : decide ((0 : Int) < (m : Int)) = true := by simp; omega
                    have hy2 : decide (0 < m) = true := by simp; omega
                    obtain ⟨m1, hm3⟩ : ∃ m1, m - 1 = m1 := ⟨_, rfl⟩
                    have HM1L := hid (show m1 < WL.length by omega)
                    obtain ⟨g2, off2, q2, d2, hpe2, hgl2, e2, _, hq2⟩ := HX9.out.at m1 HM1L.out
                    cases hpe2
                    have hcmp := List.pairwise_iff_getElem.1 HWU.out m1 m HM1L.out hmj (by omega)
                    have HQ2 := hid hq2.pt
                    have hsm2 := (HWB.out.2 _ (List.getElem_mem HM1L.out)).1
                    have HE2 := hid fun (w' : World) (hb : Below w9.heap.size w9 w') => (hb.cell (p := ⟨g4, off4 + m1 * 2, none⟩) hgl4).trans e2
                    clear hq2
                    generalize (WL[m1]'HM1L.out).1 = k2 at e2 HQ2 hsm2 HE2 hcmp
                    generalize (WL[m]'hmj).1 = k4 at e4 HQ4 HI HE4 hcmp hsm4
                    have HS := hid fun (w' : World) (hb : Below w9.heap.size w9 w') => refCompare_ok k2 k4 q2 q4 d2 c4 w' (HQ2.out.below hb) (HQ4.out.below hb) (by omega)
                    have hz1 : (m : Int) - 1 = (m1 : Int) := by omega
                    have hz2 : IntKind.i64.wrap ((m : Int) - 1) = (m1 : Int) := by rw [IntKind.wrap_i64]; omega
                    have hz3 : IntKind.i64.wrap (m1 : Int) = (m1 : Int) := by rw [IntKind.wrap_i64]; omega
                    have hz4 : (0 : Int) ≤ (m1 : Int) := by omega
                    have hz5 : (m1 : Int) < (WL.length : Int) := by omega
                    have hzc : decide (0 ≤ cmp k2 k4) = false := by simp; omega
                    clear hm3 hcmp hm0 hsm2 hsm4
                    generalize cmp k2 k4 = z at HS hzc
                    go_wp2_with fail
                    go_region_held3 (fun w' => (w'.cell? ⟨g, 0, none⟩ = some (.slice q lo.length c2) ∧ w'.cell? ⟨g, 1, none⟩ = some (.slice r hi.length c3)) ∧ w'.cell? ⟨g4, off4 + m * 2, none⟩ = some (.slice q4 k4.length c4) ∧ w'.cell? ⟨g4, off4 + m1 * 2, none⟩ = some (.slice q2 k2.length d2)) (first | exact ⟨⟨r0, r1⟩, e4, e2⟩ | exact x5 | exact x6 | go_keep)
                      (first
                        | (go_at_call 33; refine (HI.out _ (Below.refl _ _).drew).mono ?_; rintro e w5 ⟨rfl, hb⟩; have H5 := hid ((show Below w9.heap.size w9 w9.drew from (Below.refl _ _).drew).trans hb); have x5 := And.intro (HR.out _ (HA9.out.next H5.out).below) (And.intro (HE4.out _ H5.out) (HE2.out _ H5.out)); clear hb)
                        | (go_at_call 34; refine (HS.out _ H5.out).mono ?_; rintro e w6 ⟨rfl, n6, hw6⟩; have H6 := hid (show Below w9.heap.size w9 w6 by rw [hw6]; exact below_drewN H5.out n6); clear hw6; have x6 := And.intro (HR.out _ (HA9.out.next H6.out).below) (And.intro (HE4.out _ H6.out) (HE2.out _ H6.out)))
                        | fail)
                    go_wp2_with fail
                    go_roundw
                    case rel => exact ⟨m + 1, by omega, by go_num, HQB.out.trans (H6.out.mono HQB.out.size)⟩
                    case measure => simp [intOf]; omega
                · obtain rfl : m = WL.length := by omega
                  have hl1 := boxB_fit HBB.out
                  have HLA := hid (show lo.length = hi.length ∧ ((lo.length : Nat) : Int) = d from by
                    have hb := HBB.out
                    unfold boxB checkB at hb
                    simp only [Bool.and_eq_true, decide_eq_true_eq] at hb
                    exact ⟨leAll_len hb.2, hb.1.2⟩)
                  have hal : a < lo.length := by have := HLA.out.2; have := HAT.out; omega
                  have hah : a < hi.length := by have := HLA.out.1; omega
                  have HLE := hid (show lo[a] ≤ hi[a] from by
                    have hb := HBB.out
                    unfold boxB at hb
                    rw [Bool.and_eq_true] at hb
                    exact (leAll_iff.1 hb.2).2 a hal hah)
                  have hk9 := HK.out _ HA9.out.below
                  obtain ⟨bl, ol, hel, hbl, hcl⟩ := hk9.1.cells a hal
                  obtain ⟨bh, oh, heh, hbh, hch⟩ := hk9.2.cells a hah
                  have hfh := hk9.2.fit a hah
                  subst hel
                  subst heh
                  have HIA := hid (And.intro hal hah)
                  obtain ⟨x, hx⟩ : ∃ x, lo[a]'HIA.out.1 = x := ⟨_, rfl⟩
                  obtain ⟨y, hy⟩ : ∃ y, hi[a]'HIA.out.2 = y := ⟨_, rfl⟩
                  have hxy : x ≤ y := by have := HLE.out; omega
                  rw [hx] at hcl
                  rw [hy] at hch hfh
                  have HXY := hid (And.intro hx hy)
                  obtain ⟨dd, hdd⟩ : ∃ dd, y - x = dd := ⟨_, rfl⟩
                  obtain ⟨kk, hkk⟩ : ∃ kk, dd / 2 = kk := ⟨_, rfl⟩
                  obtain ⟨mid, hmid⟩ : ∃ mid, x + kk = mid := ⟨_, rfl⟩
                  have s0 : (y : Int) - (x : Int) = (dd : Int) := by omega
                  have s1 : IntKind.u32.wrap ((y : Int) - (x : Int)) = (dd : Int) := by simp [IntKind.wrap, IntKind.signed, IntKind.bits]; omega
                  have s1b : IntKind.u32.wrap (dd : Int) = (dd : Int) := by simp [IntKind.wrap, IntKind.signed, IntKind.bits]; omega
                  have s2 : (dd : Int).tdiv 2 = (kk : Int) := by rw [Int.tdiv_eq_ediv_of_nonneg (by omega)]; omega
                  have s3 : IntKind.u32.wrap (kk : Int) = (kk : Int) := by simp [IntKind.wrap, IntKind.signed, IntKind.bits]; omega
                  have s4b : (x : Int) + (kk : Int) = (mid : Int) := by omega
                  have s4 : IntKind.u32.wrap ((x : Int) + (kk : Int)) = (mid : Int) := by simp [IntKind.wrap, IntKind.signed, IntKind.bits]; omega
                  have s5 : IntKind.u32.wrap (mid : Int) = (mid : Int) := by simp [IntKind.wrap, IntKind.signed, IntKind.bits]; omega
                  have i1 : (0 : Int) ≤ (a : Int) := by omega
                  have i2 : (a : Int) < (lo.length : Int) := by omega
                  have i3 : (a : Int) < (hi.length : Int) := by omega
                  have HMID := hid (show x ≤ mid ∧ (mid = y → x = y) ∧ (mid ≠ y → mid < y) ∧ y < 4294967296 by omega)
                  have HL6 := hid (show 0 < hi.length ∧ hi.length ≤ 1000000 ∧ 0 < lo.length ∧ lo.length ≤ 1000000 from by have := HLA.out.1; omega)
                  clear HLE hx hy hdd hkk hmid hal hah hxy hk9
                  by_cases hmy : mid = y
                  · subst hmy
                    go_wp2_with fail
                    go_quiet (fail)
                    go_wp2_with (go_at_call 14; refine (live_any _).mono ?_; rintro e w5 ⟨rfl, hb⟩; have H2 := hid (HA9.out.below.trans (((below_drewN (Below.refl w9.heap.size w9) _).trans (hb.mono (Nat.le_refl _))).mono HA9.out.below.size)); clear hb)
                    go_ret
                    exact ⟨rfl, HBE.out _ H2.out⟩
                  · have HMY := hid (HMID.out.2.2.1 hmy)
                    have hc0 : decide ((mid : Int) = (y : Int)) = false := by simp; omega
                    have hc1 : decide (mid = y) = false := by simp; omega
                    go_wp2_with fail
                    go_quiet (fail)
                    go_wp2_with fail
                    clear hmy hc0 hc1 s0 s1 s1b s2 s3 s4b s4 s5 r0 r1 hcl hch
                    have HN9 := hid (below_drewN (Below.refl w9.heap.size w9) nq)
                    generalize hwn : w9.drewN nq = wn at HN9 ⊢
                    have HW := hid (HA9.out.next HN9.out)
                    clear hwn HA9 HX9
                    have HCH := hid fun (w' : World) (hb : Below wn.heap.size wn w') => copy_row hi (some ⟨bh, oh, none⟩) c3 w' (HK.out _ (HW.out.next hb).below).2 HL6.out.1 HL6.out.2.1
                    obtain ⟨r0, r1⟩ := HR.out _ HW.out.below
                    have ng : wn.heap.size ≠ g := by have := HGL.out; have := HW.out.below.size; omega
                    go_region_held3 (fun w' => w'.cell? ⟨g, 0, none⟩ = some (.slice (some ⟨bl, ol, none⟩) lo.length c2) ∧ w'.cell? ⟨g, 1, none⟩ = some (.slice (some ⟨bh, oh, none⟩) hi.length c3)) (first | exact ⟨r0, r1⟩ | exact x5 | exact two_far ng x5 | go_keep)
                      (first
                        | (go_at_call 35; refine (HCH.out _ (Below.refl _ _).drew).mono ?_; rintro e w5 ⟨c5, rfl, hrw, hb⟩; have x5 := HR.out _ (HW.out.next ((show Below wn.heap.size wn wn.drew from (Below.refl _ _).drew).trans hb)).below; have HBX := hid (bx_a (w := wn) hrw ((show Below wn.heap.size wn wn.drew from (Below.refl _ _).drew).trans hb)); clear hrw hb)
                        | (go_at_call 35; refine (HCH.out _ (below_alloc wn _).drew).mono ?_; rintro e w5 ⟨c5, rfl, hrw, hb⟩; have x5 := HR.out _ (HW.out.next ((show Below wn.heap.size wn _ from (below_alloc wn _).drew).trans (hb.mono (by simp)))).below; have z5 := two_cells ((hb.block wn.heap.size (by simp)).trans (heap_alloc_new wn _)); have HBX := hid (bx_b (w := wn) (u := .slice none 0 0) (v := .slice none 0 0) (show Rw w5 (wn.heap.size + 1) hi from by simpa using hrw) (((Below.refl _ (wn.alloc (.cells #[.slice none 0 0, .slice none 0 0] 35 (0, 0)))).drew).trans (hb.mono (by simp)))); clear hrw hb)
                        | fail)
                    · have HY1 := hid (HBX.out (.slice (some ⟨bl, ol, none⟩) lo.length c2) (.slice (some ⟨wn.heap.size, 0, none⟩) hi.length c5))
                      clear HBX
                      generalize w5.alloc (.cells #[(.slice (some ⟨bl, ol, none⟩) lo.length c2), (.slice (some ⟨wn.heap.size, 0, none⟩) hi.length c5)] 35 (0, 0)) = W1 at HY1 ⊢
                      generalize w5.heap.size = gb at HY1 ⊢
                      generalize wn.heap.size = gr at HY1 ⊢
                      clear ng r0 r1 x5
                      have HW1 := hid (HW.out.next HY1.out.below)
                      have HW0 := HW
                      clear HW HCH
                      have HW := HW1
                      clear HW1
                      have HCL := hid fun (w' : World) (hb : Below W1.heap.size W1 w') => copy_row lo (some ⟨bl, ol, none⟩) c2 w' (HK.out _ (HW.out.next hb).below).1 HL6.out.2.2.1 HL6.out.2.2.2
                      obtain ⟨r0, r1⟩ := HR.out _ HW.out.below
                      have ng : W1.heap.size ≠ g := by have := HGL.out; have := HW.out.below.size; omega
                      go_wp2_with fail
                      go_region_held3 (fun w' => w'.cell? ⟨g, 0, none⟩ = some (.slice (some ⟨bl, ol, none⟩) lo.length c2) ∧ w'.cell? ⟨g, 1, none⟩ = some (.slice (some ⟨bh, oh, none⟩) hi.length c3)) (first | exact ⟨r0, r1⟩ | exact x6 | exact two_far ng x6 | go_keep)
                        (first
                          | (go_at_call 35; refine (HCL.out _ (Below.refl _ _).drew).mono ?_; rintro e w6 ⟨c6, rfl, hrw, hb⟩; have x6 := HR.out _ (HW.out.next ((show Below W1.heap.size W1 W1.drew from (Below.refl _ _).drew).trans hb)).below; have HBX := hid (bx_a (w := W1) hrw ((show Below W1.heap.size W1 W1.drew from (Below.refl _ _).drew).trans hb)); clear hrw hb)
                          | (go_at_call 35; refine (HCL.out _ (below_alloc W1 _).drew).mono ?_; rintro e w6 ⟨c6, rfl, hrw, hb⟩; have x6 := HR.out _ (HW.out.next ((show Below W1.heap.size W1 _ from (below_alloc W1 _).drew).trans (hb.mono (by simp)))).below; have z5 := two_cells ((hb.block W1.heap.size (by simp)).trans (heap_alloc_new W1 _)); have HBX := hid (bx_b (w := W1) (u := .slice none 0 0) (v := .slice none 0 0) (show Rw w6 (W1.heap.size + 1) lo from by simpa using hrw) (((Below.refl _ (W1.alloc (.cells #[.slice none 0 0, .slice none 0 0] 35 (0, 0)))).drew).trans (hb.mono (by simp)))); clear hrw hb)
                          | fail)
                      · have HY2 := hid (HBX.out (.slice (some ⟨W1.heap.size, 0, none⟩) lo.length c6) (.slice (some ⟨bh, oh, none⟩) hi.length c3))
                        clear HBX
                        generalize w6.alloc (.cells #[(.slice (some ⟨W1.heap.size, 0, none⟩) lo.length c6), (.slice (some ⟨bh, oh, none⟩) hi.length c3)] 35 (0, 0)) = W2 at HY2 ⊢
                        generalize w6.heap.size = gb2 at HY2 ⊢
                        generalize W1.heap.size = gr2 at HY2 ⊢
                        clear ng r0 r1 x6
                        have HNE := hid (show gb2 ≠ gr ∧ gr2 ≠ gr ∧ gb ≠ gr2 from by have := HY2.out.hb; have := HY2.out.hr; have := HY1.out.row.lt; have := HY1.out.lt; omega)
                        have HY1' := hid (HY1.out.step HY2.out.below)
                        have HY2' := hid (HY2.out.base HY1.out.below)
                        clear HY1 HY2
                        have hg1 := (two_cells HY1'.out.box)
                        have f1 := HY1'.out.row.cell a HIA.out.2
                        have f2 := HY1'.out.row.frozen a
                        obtain ⟨p1, p2, _, _⟩ := hg1
                        go_upto_region 23 with (fail)
                        have HY3 := hid (HY1'.out.set (m := mid) HIA.out.2)
                        have HY4 := hid (HY2'.out.far (p := ⟨gr, a, none⟩) (u := .int .u32 (mid : Int)) HNE.out.1 HNE.out.2.1 HY1'.out.hr)
                        clear f1 f2 p1 p2 HY1' HY2'
                        generalize W2.setCell ⟨gr, a, none⟩ (.int .u32 (mid : Int)) = W3 at HY3 HY4 ⊢
                        have hg2 := two_cells HY4.out.box
                        have f1 := HY4.out.row.cell a HIA.out.1
                        have f2 := HY4.out.row.frozen a
                        obtain ⟨p1, p2, _, _⟩ := hg2
                        obtain ⟨mid1, hm1⟩ : ∃ mid1, mid + 1 = mid1 := ⟨_, rfl⟩
                        have HM1 := hid hm1
                        have t0 : (mid : Int) + 1 = (mid1 : Int) := by omega
                        have HMF := hid (show mid < 4294967296 ∧ mid1 < 4294967296 from by have := HMID.out; have := HMY.out; omega)
                        have t1 : IntKind.u32.wrap ((mid : Int) + 1) = (mid1 : Int) := by have := HMF.out; simp [IntKind.wrap, IntKind.signed, IntKind.bits]; omega
                        have t2 : IntKind.u32.wrap (mid1 : Int) = (mid1 : Int) := by have := HMF.out; simp [IntKind.wrap, IntKind.signed, IntKind.bits]; omega
                        clear hm1
                        go_upto_region 24 with (fail)
                        have HY5 := hid (HY3.out.far (p := ⟨gr2, a, none⟩) (u := .int .u32 (mid1 : Int)) HNE.out.2.2 HNE.out.2.1.symm HY4.out.hr)
                        have HY6 := hid (HY4.out.set (m := mid1) HIA.out.1)
                        clear f1 f2 p1 p2 HY3 HY4 t0 t1 t2
                        generalize W3.setCell ⟨gr2, a, none⟩ (.int .u32 (mid1 : Int)) = W4 at HY5 HY6 ⊢
                        have HA4 := hid (HW0.out.next HY5.out.below)
                        have HMM := hid (show (lo[a]'HIA.out.1) ≤ mid ∧ mid < (hi[a]'HIA.out.2) from by rw [HXY.out.1, HXY.out.2]; exact ⟨HMID.out.1, HMY.out⟩)
                        have HBC := hid (box_cut HBB.out HIA.out.1 HIA.out.2 HMM.out.1 HMM.out.2)
                        have HWC := hid (win_cut HIA.out.1 HIA.out.2 HMM.out.1 HMM.out.2 M)
                        rw [HM1.out] at HBC HWC
                        have HPL := hid (HK.out _ HA4.out.below)
                        have HC1 := hid (count_ok lo (hi.set a mid) (some ⟨bl, ol, none⟩) (some ⟨gr, 0, none⟩) c2 c5 W4 HA4.out.atl HPL.out.1 (HY5.out.row.pt (set_fit (pt_mem HPL.out.2) HMF.out.1)) HBC.out.1)
                        have HC2 := hid fun (w' : World) (hb : Below W4.heap.size W4 w') => count_ok (lo.set a mid1) hi (some ⟨gr2, 0, none⟩) (some ⟨bh, oh, none⟩) c6 c3 w' (HA4.out.next hb).atl ((HY6.out.row.below hb).pt (set_fit (pt_mem HPL.out.1) HMF.out.2)) (HPL.out.2.below hb) HBC.out.2
                        obtain ⟨n1, hn1⟩ : ∃ n1, (winR M lo (hi.set a mid)).length = n1 := ⟨_, rfl⟩
                        obtain ⟨n2, hn2⟩ : ∃ n2, (winR M (lo.set a mid1) hi).length = n2 := ⟨_, rfl⟩
                        rw [hn1, hn2, HWL.out] at HWC
                        rw [hn1, List.length_set] at HC1
                        simp only [hn2, List.length_set] at HC2
                        have hwc := HWC.out
                        have u1 : (n1 : Int) + (n2 : Int) = (WL.length : Int) := by omega
                        have u2 : IntKind.i64.wrap ((n1 : Int) + (n2 : Int)) = (WL.length : Int) := by rw [IntKind.wrap_i64]; omega
                        clear hn1 hn2 hwc HWC
                        have HG2 := hid fun (w' : World) (hb : Below W4.heap.size W4 w') => two_cells (HY6.out.step hb).box
                        have hg1 := two_cells HY5.out.box
                        obtain ⟨p1, p2, _, _⟩ := hg1
                        go_upto_region 25 with (go_at_call 27; refine HC1.out.mono ?_; rintro e w7 ⟨rfl, hb⟩; have H7 := hid hb; obtain ⟨p3, p4, _, _⟩ := HG2.out _ H7.out; clear hb)
                        clear p1 p2 HC1
                        go_wp2_with (first
                          | (go_at_call 27; refine (HC2.out _ H7.out).mono ?_; rintro e w8 ⟨rfl, hb⟩; have H8 := hid (H7.out.trans (hb.mono H7.out.size)); clear hb)
                          | (go_at_call 14; refine (live_any _).mono ?_; rintro e w9' ⟨rfl, hb⟩; have H9 := hid (H8.out.trans (hb.mono H8.out.size)); clear hb))
                        go_ret
                        exact ⟨rfl, HBE.out _ (HA4.out.below.trans (H9.out.mono HA4.out.below.size))⟩
                      · have HY2 := hid (HBX.out (.slice (some ⟨(W1.heap.size + 1), 0, none⟩) lo.length c6) (.slice (some ⟨bh, oh, none⟩) hi.length c3))
                        clear HBX
                        generalize (w6.setCell ⟨W1.heap.size, 0, none⟩ (.slice (some ⟨(W1.heap.size + 1), 0, none⟩) lo.length c6)).setCell ⟨W1.heap.size, 1, none⟩ (.slice (some ⟨bh, oh, none⟩) hi.length c3) = W2 at HY2 ⊢
                        generalize W1.heap.size + 1 = gr2 at HY2 ⊢
                        generalize W1.heap.size = gb2 at HY2 ⊢
                        clear ng r0 r1 x6
                        have HNE := hid (show gb2 ≠ gr ∧ gr2 ≠ gr ∧ gb ≠ gr2 from by have := HY2.out.hb; have := HY2.out.hr; have := HY1.out.row.lt; have := HY1.out.lt; omega)
                        have HY1' := hid (HY1.out.step HY2.out.below)
                        have HY2' := hid (HY2.out.base HY1.out.below)
                        clear HY1 HY2
                        have hg1 := (two_cells HY1'.out.box)
                        have f1 := HY1'.out.row.cell a HIA.out.2
                        have f2 := HY1'.out.row.frozen a
                        obtain ⟨p1, p2, _, _⟩ := hg1
                        go_upto_region 23 with (fail)
                        have HY3 := hid (HY1'.out.set (m := mid) HIA.out.2)
                        have HY4 := hid (HY2'.out.far (p := ⟨gr, a, none⟩) (u := .int .u32 (mid : Int)) HNE.out.1 HNE.out.2.1 HY1'.out.hr)
                        clear f1 f2 p1 p2 HY1' HY2'
                        generalize W2.setCell ⟨gr, a, none⟩ (.int .u32 (mid : Int)) = W3 at HY3 HY4 ⊢
                        have hg2 := two_cells HY4.out.box
                        have f1 := HY4.out.row.cell a HIA.out.1
                        have f2 := HY4.out.row.frozen a
                        obtain ⟨p1, p2, _, _⟩ := hg2
                        obtain ⟨mid1, hm1⟩ : ∃ mid1, mid + 1 = mid1 := ⟨_, rfl⟩
                        have HM1 := hid hm1
                        have t0 : (mid : Int) + 1 = (mid1 : Int) := by omega
                        have HMF := hid (show mid < 4294967296 ∧ mid1 < 4294967296 from by have := HMID.out; have := HMY.out; omega)
                        have t1 : IntKind.u32.wrap ((mid : Int) + 1) = (mid1 : Int) := by have := HMF.out; simp [IntKind.wrap, IntKind.signed, IntKind.bits]; omega
                        have t2 : IntKind.u32.wrap (mid1 : Int) = (mid1 : Int) := by have := HMF.out; simp [IntKind.wrap, IntKind.signed, IntKind.bits]; omega
                        clear hm1
                        go_upto_region 24 with (fail)
                        have HY5 := hid (HY3.out.far (p := ⟨gr2, a, none⟩) (u := .int .u32 (mid1 : Int)) HNE.out.2.2 HNE.out.2.1.symm HY4.out.hr)
                        have HY6 := hid (HY4.out.set (m := mid1) HIA.out.1)
                        clear f1 f2 p1 p2 HY3 HY4 t0 t1 t2
                        generalize W3.setCell ⟨gr2, a, none⟩ (.int .u32 (mid1 : Int)) = W4 at HY5 HY6 ⊢
                        have HA4 := hid (HW0.out.next HY5.out.below)
                        have HMM := hid (show (lo[a]'HIA.out.1) ≤ mid ∧ mid < (hi[a]'HIA.out.2) from by rw [HXY.out.1, HXY.out.2]; exact ⟨HMID.out.1, HMY.out⟩)
                        have HBC := hid (box_cut HBB.out HIA.out.1 HIA.out.2 HMM.out.1 HMM.out.2)
                        have HWC := hid (win_cut HIA.out.1 HIA.out.2 HMM.out.1 HMM.out.2 M)
                        rw [HM1.out] at HBC HWC
                        have HPL := hid (HK.out _ HA4.out.below)
                        have HC1 := hid (count_ok lo (hi.set a mid) (some ⟨bl, ol, none⟩) (some ⟨gr, 0, none⟩) c2 c5 W4 HA4.out.atl HPL.out.1 (HY5.out.row.pt (set_fit (pt_mem HPL.out.2) HMF.out.1)) HBC.out.1)
                        have HC2 := hid fun (w' : World) (hb : Below W4.heap.size W4 w') => count_ok (lo.set a mid1) hi (some ⟨gr2, 0, none⟩) (some ⟨bh, oh, none⟩) c6 c3 w' (HA4.out.next hb).atl ((HY6.out.row.below hb).pt (set_fit (pt_mem HPL.out.1) HMF.out.2)) (HPL.out.2.below hb) HBC.out.2
                        obtain ⟨n1, hn1⟩ : ∃ n1, (winR M lo (hi.set a mid)).length = n1 := ⟨_, rfl⟩
                        obtain ⟨n2, hn2⟩ : ∃ n2, (winR M (lo.set a mid1) hi).length = n2 := ⟨_, rfl⟩
                        rw [hn1, hn2, HWL.out] at HWC
                        rw [hn1, List.length_set] at HC1
                        simp only [hn2, List.length_set] at HC2
                        have hwc := HWC.out
                        have u1 : (n1 : Int) + (n2 : Int) = (WL.length : Int) := by omega
                        have u2 : IntKind.i64.wrap ((n1 : Int) + (n2 : Int)) = (WL.length : Int) := by rw [IntKind.wrap_i64]; omega
                        clear hn1 hn2 hwc HWC
                        have HG2 := hid fun (w' : World) (hb : Below W4.heap.size W4 w') => two_cells (HY6.out.step hb).box
                        have hg1 := two_cells HY5.out.box
                        obtain ⟨p1, p2, _, _⟩ := hg1
                        go_upto_region 25 with (go_at_call 27; refine HC1.out.mono ?_; rintro e w7 ⟨rfl, hb⟩; have H7 := hid hb; obtain ⟨p3, p4, _, _⟩ := HG2.out _ H7.out; clear hb)
                        clear p1 p2 HC1
                        go_wp2_with (first
                          | (go_at_call 27; refine (HC2.out _ H7.out).mono ?_; rintro e w8 ⟨rfl, hb⟩; have H8 := hid (H7.out.trans (hb.mono H7.out.size)); clear hb)
                          | (go_at_call 14; refine (live_any _).mono ?_; rintro e w9' ⟨rfl, hb⟩; have H9 := hid (H8.out.trans (hb.mono H8.out.size)); clear hb))
                        go_ret
                        exact ⟨rfl, HBE.out _ (HA4.out.below.trans (H9.out.mono HA4.out.below.size))⟩
                    · have HY1 := hid (HBX.out (.slice (some ⟨bl, ol, none⟩) lo.length c2) (.slice (some ⟨(wn.heap.size + 1), 0, none⟩) hi.length c5))
                      clear HBX
                      generalize (w5.setCell ⟨wn.heap.size, 0, none⟩ (.slice (some ⟨bl, ol, none⟩) lo.length c2)).setCell ⟨wn.heap.size, 1, none⟩ (.slice (some ⟨(wn.heap.size + 1), 0, none⟩) hi.length c5) = W1 at HY1 ⊢
                      generalize wn.heap.size + 1 = gr at HY1 ⊢
                      generalize wn.heap.size = gb at HY1 ⊢
                      clear ng r0 r1 x5
                      have HW1 := hid (HW.out.next HY1.out.below)
                      have HW0 := HW
                      clear HW HCH
                      have HW := HW1
                      clear HW1
                      have HCL := hid fun (w' : World) (hb : Below W1.heap.size W1 w') => copy_row lo (some ⟨bl, ol, none⟩) c2 w' (HK.out _ (HW.out.next hb).below).1 HL6.out.2.2.1 HL6.out.2.2.2
                      obtain ⟨r0, r1⟩ := HR.out _ HW.out.below
                      have ng : W1.heap.size ≠ g := by have := HGL.out; have := HW.out.below.size; omega
                      go_wp2_with fail
                      go_region_held3 (fun w' => w'.cell? ⟨g, 0, none⟩ = some (.slice (some ⟨bl, ol, none⟩) lo.length c2) ∧ w'.cell? ⟨g, 1, none⟩ = some (.slice (some ⟨bh, oh, none⟩) hi.length c3)) (first | exact ⟨r0, r1⟩ | exact x6 | exact two_far ng x6 | go_keep)
                        (first
                          | (go_at_call 35; refine (HCL.out _ (Below.refl _ _).drew).mono ?_; rintro e w6 ⟨c6, rfl, hrw, hb⟩; have x6 := HR.out _ (HW.out.next ((show Below W1.heap.size W1 W1.drew from (Below.refl _ _).drew).trans hb)).below; have HBX := hid (bx_a (w := W1) hrw ((show Below W1.heap.size W1 W1.drew from (Below.refl _ _).drew).trans hb)); clear hrw hb)
                          | (go_at_call 35; refine (HCL.out _ (below_alloc W1 _).drew).mono ?_; rintro e w6 ⟨c6, rfl, hrw, hb⟩; have x6 := HR.out _ (HW.out.next ((show Below W1.heap.size W1 _ from (below_alloc W1 _).drew).trans (hb.mono (by simp)))).below; have z5 := two_cells ((hb.block W1.heap.size (by simp)).trans (heap_alloc_new W1 _)); have HBX := hid (bx_b (w := W1) (u := .slice none 0 0) (v := .slice none 0 0) (show Rw w6 (W1.heap.size + 1) lo from by simpa using hrw) (((Below.refl _ (W1.alloc (.cells #[.slice none 0 0, .slice none 0 0] 35 (0, 0)))).drew).trans (hb.mono (by simp)))); clear hrw hb)
                          | fail)
                      · have HY2 := hid (HBX.out (.slice (some ⟨W1.heap.size, 0, none⟩) lo.length c6) (.slice (some ⟨bh, oh, none⟩) hi.length c3))
                        clear HBX
                        generalize w6.alloc (.cells #[(.slice (some ⟨W1.heap.size, 0, none⟩) lo.length c6), (.slice (some ⟨bh, oh, none⟩) hi.length c3)] 35 (0, 0)) = W2 at HY2 ⊢
                        generalize w6.heap.size = gb2 at HY2 ⊢
                        generalize W1.heap.size = gr2 at HY2 ⊢
                        clear ng r0 r1 x6
                        have HNE := hid (show gb2 ≠ gr ∧ gr2 ≠ gr ∧ gb ≠ gr2 from by have := HY2.out.hb; have := HY2.out.hr; have := HY1.out.row.lt; have := HY1.out.lt; omega)
                        have HY1' := hid (HY1.out.step HY2.out.below)
                        have HY2' := hid (HY2.out.base HY1.out.below)
                        clear HY1 HY2
                        have hg1 := (two_cells HY1'.out.box)
                        have f1 := HY1'.out.row.cell a HIA.out.2
                        have f2 := HY1'.out.row.frozen a
                        obtain ⟨p1, p2, _, _⟩ := hg1
                        go_upto_region 23 with (fail)
                        have HY3 := hid (HY1'.out.set (m := mid) HIA.out.2)
                        have HY4 := hid (HY2'.out.far (p := ⟨gr, a, none⟩) (u := .int .u32 (mid : Int)) HNE.out.1 HNE.out.2.1 HY1'.out.hr)
                        clear f1 f2 p1 p2 HY1' HY2'
                        generalize W2.setCell ⟨gr, a, none⟩ (.int .u32 (mid : Int)) = W3 at HY3 HY4 ⊢
                        have hg2 := two_cells HY4.out.box
                        have f1 := HY4.out.row.cell a HIA.out.1
                        have f2 := HY4.out.row.frozen a
                        obtain ⟨p1, p2, _, _⟩ := hg2
                        obtain ⟨mid1, hm1⟩ : ∃ mid1, mid + 1 = mid1 := ⟨_, rfl⟩
                        have HM1 := hid hm1
                        have t0 : (mid : Int) + 1 = (mid1 : Int) := by omega
                        have HMF := hid (show mid < 4294967296 ∧ mid1 < 4294967296 from by have := HMID.out; have := HMY.out; omega)
                        have t1 : IntKind.u32.wrap ((mid : Int) + 1) = (mid1 : Int) := by have := HMF.out; simp [IntKind.wrap, IntKind.signed, IntKind.bits]; omega
                        have t2 : IntKind.u32.wrap (mid1 : Int) = (mid1 : Int) := by have := HMF.out; simp [IntKind.wrap, IntKind.signed, IntKind.bits]; omega
                        clear hm1
                        go_upto_region 24 with (fail)
                        have HY5 := hid (HY3.out.far (p := ⟨gr2, a, none⟩) (u := .int .u32 (mid1 : Int)) HNE.out.2.2 HNE.out.2.1.symm HY4.out.hr)
                        have HY6 := hid (HY4.out.set (m := mid1) HIA.out.1)
                        clear f1 f2 p1 p2 HY3 HY4 t0 t1 t2
                        generalize W3.setCell ⟨gr2, a, none⟩ (.int .u32 (mid1 : Int)) = W4 at HY5 HY6 ⊢
                        have HA4 := hid (HW0.out.next HY5.out.below)
                        have HMM := hid (show (lo[a]'HIA.out.1) ≤ mid ∧ mid < (hi[a]'HIA.out.2) from by rw [HXY.out.1, HXY.out.2]; exact ⟨HMID.out.1, HMY.out⟩)
                        have HBC := hid (box_cut HBB.out HIA.out.1 HIA.out.2 HMM.out.1 HMM.out.2)
                        have HWC := hid (win_cut HIA.out.1 HIA.out.2 HMM.out.1 HMM.out.2 M)
                        rw [HM1.out] at HBC HWC
                        have HPL := hid (HK.out _ HA4.out.below)
                        have HC1 := hid (count_ok lo (hi.set a mid) (some ⟨bl, ol, none⟩) (some ⟨gr, 0, none⟩) c2 c5 W4 HA4.out.atl HPL.out.1 (HY5.out.row.pt (set_fit (pt_mem HPL.out.2) HMF.out.1)) HBC.out.1)
                        have HC2 := hid fun (w' : World) (hb : Below W4.heap.size W4 w') => count_ok (lo.set a mid1) hi (some ⟨gr2, 0, none⟩) (some ⟨bh, oh, none⟩) c6 c3 w' (HA4.out.next hb).atl ((HY6.out.row.below hb).pt (set_fit (pt_mem HPL.out.1) HMF.out.2)) (HPL.out.2.below hb) HBC.out.2
                        obtain ⟨n1, hn1⟩ : ∃ n1, (winR M lo (hi.set a mid)).length = n1 := ⟨_, rfl⟩
                        obtain ⟨n2, hn2⟩ : ∃ n2, (winR M (lo.set a mid1) hi).length = n2 := ⟨_, rfl⟩
                        rw [hn1, hn2, HWL.out] at HWC
                        rw [hn1, List.length_set] at HC1
                        simp only [hn2, List.length_set] at HC2
                        have hwc := HWC.out
                        have u1 : (n1 : Int) + (n2 : Int) = (WL.length : Int) := by omega
                        have u2 : IntKind.i64.wrap ((n1 : Int) + (n2 : Int)) = (WL.length : Int) := by rw [IntKind.wrap_i64]; omega
                        clear hn1 hn2 hwc HWC
                        have HG2 := hid fun (w' : World) (hb : Below W4.heap.size W4 w') => two_cells (HY6.out.step hb).box
                        have hg1 := two_cells HY5.out.box
                        obtain ⟨p1, p2, _, _⟩ := hg1
                        go_upto_region 25 with (go_at_call 27; refine HC1.out.mono ?_; rintro e w7 ⟨rfl, hb⟩; have H7 := hid hb; obtain ⟨p3, p4, _, _⟩ := HG2.out _ H7.out; clear hb)
                        clear p1 p2 HC1
                        go_wp2_with (first
                          | (go_at_call 27; refine (HC2.out _ H7.out).mono ?_; rintro e w8 ⟨rfl, hb⟩; have H8 := hid (H7.out.trans (hb.mono H7.out.size)); clear hb)
                          | (go_at_call 14; refine (live_any _).mono ?_; rintro e w9' ⟨rfl, hb⟩; have H9 := hid (H8.out.trans (hb.mono H8.out.size)); clear hb))
                        go_ret
                        exact ⟨rfl, HBE.out _ (HA4.out.below.trans (H9.out.mono HA4.out.below.size))⟩
                      · have HY2 := hid (HBX.out (.slice (some ⟨(W1.heap.size + 1), 0, none⟩) lo.length c6) (.slice (some ⟨bh, oh, none⟩) hi.length c3))
                        clear HBX
                        generalize (w6.setCell ⟨W1.heap.size, 0, none⟩ (.slice (some ⟨(W1.heap.size + 1), 0, none⟩) lo.length c6)).setCell ⟨W1.heap.size, 1, none⟩ (.slice (some ⟨bh, oh, none⟩) hi.length c3) = W2 at HY2 ⊢
                        generalize W1.heap.size + 1 = gr2 at HY2 ⊢
                        generalize W1.heap.size = gb2 at HY2 ⊢
                        clear ng r0 r1 x6
                        have HNE := hid (show gb2 ≠ gr ∧ gr2 ≠ gr ∧ gb ≠ gr2 from by have := HY2.out.hb; have := HY2.out.hr; have := HY1.out.row.lt; have := HY1.out.lt; omega)
                        have HY1' := hid (HY1.out.step HY2.out.below)
                        have HY2' := hid (HY2.out.base HY1.out.below)
                        clear HY1 HY2
                        have hg1 := (two_cells HY1'.out.box)
                        have f1 := HY1'.out.row.cell a HIA.out.2
                        have f2 := HY1'.out.row.frozen a
                        obtain ⟨p1, p2, _, _⟩ := hg1
                        go_upto_region 23 with (fail)
                        have HY3 := hid (HY1'.out.set (m := mid) HIA.out.2)
                        have HY4 := hid (HY2'.out.far (p := ⟨gr, a, none⟩) (u := .int .u32 (mid : Int)) HNE.out.1 HNE.out.2.1 HY1'.out.hr)
                        clear f1 f2 p1 p2 HY1' HY2'
                        generalize W2.setCell ⟨gr, a, none⟩ (.int .u32 (mid : Int)) = W3 at HY3 HY4 ⊢
                        have hg2 := two_cells HY4.out.box
                        have f1 := HY4.out.row.cell a HIA.out.1
                        have f2 := HY4.out.row.frozen a
                        obtain ⟨p1, p2, _, _⟩ := hg2
                        obtain ⟨mid1, hm1⟩ : ∃ mid1, mid + 1 = mid1 := ⟨_, rfl⟩
                        have HM1 := hid hm1
                        have t0 : (mid : Int) + 1 = (mid1 : Int) := by omega
                        have HMF := hid (show mid < 4294967296 ∧ mid1 < 4294967296 from by have := HMID.out; have := HMY.out; omega)
                        have t1 : IntKind.u32.wrap ((mid : Int) + 1) = (mid1 : Int) := by have := HMF.out; simp [IntKind.wrap, IntKind.signed, IntKind.bits]; omega
                        have t2 : IntKind.u32.wrap (mid1 : Int) = (mid1 : Int) := by have := HMF.out; simp [IntKind.wrap, IntKind.signed, IntKind.bits]; omega
                        clear hm1
                        go_upto_region 24 with (fail)
                        have HY5 := hid (HY3.out.far (p := ⟨gr2, a, none⟩) (u := .int .u32 (mid1 : Int)) HNE.out.2.2 HNE.out.2.1.symm HY4.out.hr)
                        have HY6 := hid (HY4.out.set (m := mid1) HIA.out.1)
                        clear f1 f2 p1 p2 HY3 HY4 t0 t1 t2
                        generalize W3.setCell ⟨gr2, a, none⟩ (.int .u32 (mid1 : Int)) = W4 at HY5 HY6 ⊢
                        have HA4 := hid (HW0.out.next HY5.out.below)
                        have HMM := hid (show (lo[a]'HIA.out.1) ≤ mid ∧ mid < (hi[a]'HIA.out.2) from by rw [HXY.out.1, HXY.out.2]; exact ⟨HMID.out.1, HMY.out⟩)
                        have HBC := hid (box_cut HBB.out HIA.out.1 HIA.out.2 HMM.out.1 HMM.out.2)
                        have HWC := hid (win_cut HIA.out.1 HIA.out.2 HMM.out.1 HMM.out.2 M)
                        rw [HM1.out] at HBC HWC
                        have HPL := hid (HK.out _ HA4.out.below)
                        have HC1 := hid (count_ok lo (hi.set a mid) (some ⟨bl, ol, none⟩) (some ⟨gr, 0, none⟩) c2 c5 W4 HA4.out.atl HPL.out.1 (HY5.out.row.pt (set_fit (pt_mem HPL.out.2) HMF.out.1)) HBC.out.1)
                        have HC2 := hid fun (w' : World) (hb : Below W4.heap.size W4 w') => count_ok (lo.set a mid1) hi (some ⟨gr2, 0, none⟩) (some ⟨bh, oh, none⟩) c6 c3 w' (HA4.out.next hb).atl ((HY6.out.row.below hb).pt (set_fit (pt_mem HPL.out.1) HMF.out.2)) (HPL.out.2.below hb) HBC.out.2
                        obtain ⟨n1, hn1⟩ : ∃ n1, (winR M lo (hi.set a mid)).length = n1 := ⟨_, rfl⟩
                        obtain ⟨n2, hn2⟩ : ∃ n2, (winR M (lo.set a mid1) hi).length = n2 := ⟨_, rfl⟩
                        rw [hn1, hn2, HWL.out] at HWC
                        rw [hn1, List.length_set] at HC1
                        simp only [hn2, List.length_set] at HC2
                        have hwc := HWC.out
                        have u1 : (n1 : Int) + (n2 : Int) = (WL.length : Int) := by omega
                        have u2 : IntKind.i64.wrap ((n1 : Int) + (n2 : Int)) = (WL.length : Int) := by rw [IntKind.wrap_i64]; omega
                        clear hn1 hn2 hwc HWC
                        have HG2 := hid fun (w' : World) (hb : Below W4.heap.size W4 w') => two_cells (HY6.out.step hb).box
                        have hg1 := two_cells HY5.out.box
                        obtain ⟨p1, p2, _, _⟩ := hg1
                        go_upto_region 25 with (go_at_call 27; refine HC1.out.mono ?_; rintro e w7 ⟨rfl, hb⟩; have H7 := hid hb; obtain ⟨p3, p4, _, _⟩ := HG2.out _ H7.out; clear hb)
                        clear p1 p2 HC1
                        go_wp2_with (first
                          | (go_at_call 27; refine (HC2.out _ H7.out).mono ?_; rintro e w8 ⟨rfl, hb⟩; have H8 := hid (H7.out.trans (hb.mono H7.out.size)); clear hb)
                          | (go_at_call 14; refine (live_any _).mono ?_; rintro e w9' ⟨rfl, hb⟩; have H9 := hid (H8.out.trans (hb.mono H8.out.size)); clear hb))
                        go_ret
                        exact ⟨rfl, HBE.out _ (HA4.out.below.trans (H9.out.mono HA4.out.below.size))⟩
        · have HAT := hid hat
          clear hat
          by_cases hn : at' < 0
          · have z1 : decide (at' < 0) = true := by simpa using hn
            clear hn
            go_wp2_with (first
              | (go_at_call 31; refine HFW.out.mono ?_; rintro e w' ⟨rfl, rfl⟩)
              | (go_at_call 32; refine HBX.out.mono ?_; rintro e w4 ⟨rfl, hb⟩; replace HN := hid (HN.out.trans (hb.mono HN.out.size)); clear hb)
              | (go_at_call 14; refine (live_any _).mono ?_; rintro e w5 ⟨rfl, hb⟩; have H2 := hid (HN.out.trans (hb.mono HN.out.size)); clear hb))
            go_ret
            exact ⟨rfl, HBE.out _ H2.out⟩
          · have z1 : decide (at' < 0) = false := by simpa using hn
            have z2 : decide (d ≤ at') = true := by simp; have := HAT.out; omega
            clear hn
            go_wp2_with (first
              | (go_at_call 31; refine HFW.out.mono ?_; rintro e w' ⟨rfl, rfl⟩)
              | (go_at_call 32; refine HBX.out.mono ?_; rintro e w4 ⟨rfl, hb⟩; replace HN := hid (HN.out.trans (hb.mono HN.out.size)); clear hb)
              | (go_at_call 14; refine (live_any _).mono ?_; rintro e w5 ⟨rfl, hb⟩; have H2 := hid (HN.out.trans (hb.mono HN.out.size)); clear hb))
            go_ret
            exact ⟨rfl, HBE.out _ H2.out⟩
  · have HD := hid (show d < 1 ∨ 6 < d by omega)
    clear hd
    go_wp2_with (first
      | (go_at_call 11; refine (new_bad d _ HD.out).mono ?_; rintro e w' ⟨rfl, rfl⟩)
      | (go_at_call 14; refine (live_any _).mono ?_; rintro e w5 ⟨rfl, hb⟩; have H2 := hid hb; clear hb))
    go_ret
    exact ⟨rfl, HBE.out _ H2.out⟩
set_option maxRecDepth 100000 in
theorem AtlasCut_walk (v : Value) (w : World) (hv : CutV w v) :
    Calls Try.prog 6 #[v] w fun e w' => e = .returned (.bool true) ∧ Below w.heap.size w w' := by
  obtain ⟨d, P, L, C, q, lo, c2, r, hi, c3, a, rfl, hP, hL, hq, hr, hlo, hhi⟩ := hv
  exact Cut_go d P L C q lo c2 r hi c3 a w hP hL hq hr hlo
end Go.Proofs.Ytlkejjclmamlaaa
