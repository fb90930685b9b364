/- The cell of a point, by Search; Find and Meet of a scale. -/
import Derived.Test.YtmhjoeegghnlhaaScRem
namespace Go.Proofs.Ytmhjoeegghnlhaa.Sc
open Go.RowKit
open Go.Lib (hid)
open Go.Proofs.Ytmhjoeegghnlhaa.Ky Go.Proofs.Ytmhjoeegghnlhaa.Bk

set_option maxRecDepth 100000 in
set_option maxHeartbeats 1000000 in
theorem search_ok (n : Nat) (p : Nat → Bool) (x y z : Value) (w : World) (hn : n ≤ 1000000)
    (hf : ∀ (m i : Nat), i < n → Calls Try.prog 65 #[.int .i64 (i : Int), x, y, z] (w.drewN m) fun e w' => e = .returned (.bool (p i)) ∧ ∃ q, w' = (w.drewN m).drewN q)
    (hm : ∀ a b, a ≤ b → b < n → p a = true → p b = true) :
    Calls Try.prog 64 #[.int .i64 (n : Int), .func (.func 65) #[] #[x, y, z]] w fun e w' => ∃ r : Nat, e = .returned (.int .i64 (r : Int)) ∧ r ≤ n ∧ ((∀ t, t < r → p t = false) ∧ ∀ t, r ≤ t → t < n → p t = true) ∧ ∃ q, w' = w.drewN q := by
  have HF := hid hf; have M := hid hm; clear hf hm
  go_enter Try.func64, Try.ntmps64
  go_wp2_with fail
  go_loopw [5, 6] (fun s5 s6 wr => ∃ lo hi q : Nat, s5 = .int .i64 lo ∧ s6 = .int .i64 hi ∧ lo ≤ hi ∧ hi ≤ n ∧ wr = w.drewN q ∧ Hid ((∀ t, t < lo → p t = false) ∧ ∀ t, hi ≤ t → t < n → p t = true)) (fun s5 s6 _ => (intOf s6).toNat - (intOf s5).toNat)
  case atStart => exact ⟨0, n, 0, rfl, rfl, by omega, by omega, rfl, hid ⟨fun t h => absurd h (by omega), fun t h h' => absurd h (by omega)⟩⟩
  case round =>
    obtain ⟨lo, hi, q, rfl, rfl, hlh, hin, hwr, I⟩ := hrel
    have HW := hid hwr; clear hwr
    by_cases hlt : lo < hi
    · have hc := HF.out q ((lo + hi) / 2) (by omega)
      rw [← HW.out, show (((lo + hi) / 2 : Nat) : Int) = ((lo : Int) + (hi : Int)) / 2 by omega] at hc
      have HC := hid hc
      clear hc
      cases hp : p ((lo + hi) / 2) with
      | false =>
        rw [hp] at HC
        have HN : Hid ((∀ t, t < (lo + hi) / 2 + 1 → p t = false) ∧ ∀ t, hi ≤ t → t < n → p t = true) := hid ⟨fun t ht => (by
          cases h : p t with
          | false => rfl
          | true =>
            have := M.out t ((lo + hi) / 2) (by omega) (by omega) h
            rw [hp] at this
            cases this), I.out.2⟩
        clear hp I
        go_wp2_with (go_at_call 65; refine HC.out.mono ?_; rintro e w' ⟨rfl, nq, hw'⟩; have HW2 := hid (show w' = w.drewN (q + nq) by rw [hw', HW.out, World.drewN_drewN]); clear hw')
        go_roundw
        case rel => exact ⟨(lo + hi) / 2 + 1, hi, q + nq, by rw [show ((lo : Int) + (hi : Int)) / 2 + 1 = (((lo + hi) / 2 + 1 : Nat) : Int) by omega], rfl, by omega, hin, HW2.out, HN⟩
        case measure => simp [intOf]; omega
      | true =>
        rw [hp] at HC
        have HN : Hid ((∀ t, t < lo → p t = false) ∧ ∀ t, (lo + hi) / 2 ≤ t → t < n → p t = true) := hid ⟨I.out.1, fun t ht htn => M.out ((lo + hi) / 2) t ht htn hp⟩
        clear hp I
        go_wp2_with (go_at_call 65; refine HC.out.mono ?_; rintro e w' ⟨rfl, nq, hw'⟩; have HW2 := hid (show w' = w.drewN (q + nq) by rw [hw', HW.out, World.drewN_drewN]); clear hw')
        go_roundw
        case rel => exact ⟨lo, (lo + hi) / 2, q + nq, rfl, by rw [show ((lo : Int) + (hi : Int)) / 2 = (((lo + hi) / 2 : Nat) : Int) by omega], by omega, by omega, HW2.out, HN⟩
        case measure => simp [intOf]; omega
    · obtain rfl : hi = lo := by omega
      go_wp2_with fail
      go_ret
      exact ⟨hi, rfl, hin, I.out, q, HW.out⟩
set_option maxRecDepth 100000 in
set_option maxHeartbeats 1000000 in
/-- the closure: bounds, a point and a coordinate in their boxes -/
theorem cellcl_ok (l k : List Nat) (p q : Option Addr) (c c' gl gk ga A i : Nat) (w : World) (hp : Pt w p l) (hq : Pt w q k) (hi : i < l.length) (hA : A < k.length)
    (h1 : w.cell? ⟨gl, 0, none⟩ = some (.slice p l.length c)) (h2 : w.cell? ⟨gk, 0, none⟩ = some (.slice q k.length c')) (h3 : w.cell? ⟨ga, 0, none⟩ = some (.int .i64 (A : Int))) :
    Calls Try.prog 65 #[.int .i64 (i : Int), .pointer (some ⟨gl, 0, none⟩), .pointer (some ⟨gk, 0, none⟩), .pointer (some ⟨ga, 0, none⟩)] w fun e w' => e = .returned (.bool (decide (k[A] < l[i]))) ∧ ∃ m, w' = w.drewN m := by
  obtain ⟨b1, o1, rfl, _, c1⟩ := hp.cells i hi
  obtain ⟨b2, o2, rfl, _, c2⟩ := hq.cells A hA
  have z1 : (i : Int) < (l.length : Int) := by omega
  have z2 : (A : Int) < (k.length : Int) := by omega
  clear hp hq
  generalize l[i] = x at c1
  generalize k[A] = y at c2
  go_enter Try.func65, Try.ntmps65
  go_wp2_with fail
  go_quiet (fail)
  go_wp2_with fail
  go_ret
  exact ⟨rfl, _, rfl⟩
/-- the interval of a number -/
def itv (l : List Nat) (x : Nat) : Nat := posU l (x + 1)
/-- the cell of a point -/
def cellL (bs : List (List Nat)) (k : List Nat) : List Nat := List.zipWith itv bs k
theorem cellL_len {bs : List (List Nat)} {k : List Nat} (h : k.length = bs.length) : (cellL bs k).length = bs.length := by unfold cellL; simp [h]
set_option maxHeartbeats 1000000 in
theorem find_itv (l k : List Nat) (p q : Option Addr) (c c' gl gk ga A : Nat) (w : World) (hp : Pt w p l) (hq : Pt w q k) (hA : A < k.length) (hl : l.length ≤ 1000000) (hu : up l)
    (h1 : w.cell? ⟨gl, 0, none⟩ = some (.slice p l.length c)) (h2 : w.cell? ⟨gk, 0, none⟩ = some (.slice q k.length c')) (h3 : w.cell? ⟨ga, 0, none⟩ = some (.int .i64 (A : Int))) :
    Calls Try.prog 64 #[.int .i64 (l.length : Int), .func (.func 65) #[] #[.pointer (some ⟨gl, 0, none⟩), .pointer (some ⟨gk, 0, none⟩), .pointer (some ⟨ga, 0, none⟩)]] w fun e w' => e = .returned (.int .i64 (itv l k[A] : Nat)) ∧ Below w.heap.size w w' := by
  refine (search_ok l.length (fun i => if h : i < l.length then decide (k[A] < l[i]) else true) _ _ _ w hl (fun m i hi => ?_) (fun a b hab hb ha => ?_)).mono ?_
  · simp only [dif_pos hi]
    exact cellcl_ok l k p q c c' gl gk ga A i (w.drewN m) (hp.drewN m) (hq.drewN m) hi hA h1 h2 h3
  · have hal : a < l.length := by omega
    simp only [dif_pos hb, dif_pos hal, decide_eq_true_eq] at ha ⊢
    by_cases e : a = b
    · subst e; exact ha
    · have := up_lt hu hal hb (by omega); omega
  · rintro e w' ⟨r, rfl, hr, ⟨g1, g2⟩, m, hw⟩
    refine ⟨?_, by rw [hw]; exact below_drewN (Below.refl _ _) m⟩
    have : itv l k[A] = r := posU_of hr (fun j hj hjr => by
      have := g1 j hjr
      simp only [dif_pos hj, decide_eq_false_iff_not] at this
      omega) (fun j hj hrj => by
      have := g2 j hrj hj
      simp only [dif_pos hj, decide_eq_true_eq] at this
      omega)
    rw [this]
/-- numbers of intervals as cells -/
def ci (l : List Nat) : List Value := l.map fun (n : Nat) => Value.int .i64 (n : Int)
theorem ci_length (l : List Nat) : (ci l).length = l.length := by simp [ci]
theorem info_int : (Try.prog.info? 3).map (fun i => (i.zero, i.size, i.bytes)) = some (some (.int .i64 0), 1, 8) := by kernel_rfl
/-- a row of n numbers, the first i of C -/
def fillC (C : List Nat) (n i : Nat) : List Value := ci (C.take i) ++ List.replicate (n - i) (Value.int .i64 0)
theorem fillC_len {C : List Nat} {n i : Nat} (hC : C.length = n) (hi : i ≤ n) : (fillC C n i).length = n := by unfold fillC; simp [ci, hC]; omega
theorem fillC_next {C : List Nat} {n i y : Nat} (hC : C.length = n) (hi : i < n) (hy : C[i]? = some y) : (fillC C n i).set i (.int .i64 (y : Int)) = fillC C n (i + 1) := by
  have hyl : C[i]'(by omega) = y := by rw [List.getElem?_eq_getElem (by omega)] at hy; injection hy
  unfold fillC
  have hl : (ci (C.take i)).length = i := by rw [ci_length, List.length_take]; omega
  rw [List.set_append_right _ _ (by omega), hl, Nat.sub_self]
  obtain ⟨m, hm⟩ : ∃ m, n - i = m + 1 := ⟨n - i - 1, by omega⟩
  rw [hm, List.replicate_succ, List.set_cons_zero, show n - (i + 1) = m by omega, List.take_succ_eq_append_getElem (by omega), hyl]
  unfold ci
  rw [List.map_append]
  simp only [List.map_cons, List.map_nil, List.append_assoc, List.cons_append, List.nil_append]
theorem fillC_all {C : List Nat} {n : Nat} (hC : C.length = n) : fillC C n n = ci C := by unfold fillC; rw [Nat.sub_self, ← hC, List.take_length]; simp
theorem imake (n : Nat) (h : n ≤ 6) (C : List Nat) (w : World) :
    (Instr.makeSlice 35 (.int .i64 (n : Int)) (.int .i64 (n : Int))).run Try.prog w = .ok (.slice (some ⟨w.heap.size, 0, none⟩) n n) (w.alloc (.cells (fillC C n 0).toArray 3)) := by
  obtain ⟨i, hi, hz, hs, hb⟩ := info_parts info_int
  have := run_makeSlice (P := Try.prog) (w := w) 35 3 i (.int .i64 0) Try.underlying35 hi hz .i64 .i64 n n (by omega) (by omega) (by rw [hs]; omega) (by rw [hb]; omega) (by omega)
  rw [this]
  have e : madeCells (Value.int .i64 0).cells (n * 1) = (fillC C n 0).toArray := by
    apply Array.ext
    · simp [madeCells, fillC, ci]
    · intro i h1 h2
      simp [madeCells, Value.cells, Nat.mod_one, fillC, ci]
  simp only [Int.toNat_natCast, hs, e]
theorem cell_lt {w : World} {b o : Nat} {v : Value} (h : w.cell? ⟨b, o, none⟩ = some v) : b < w.heap.size := World.block_lt_of_cell? w ⟨b, o, none⟩ h
theorem out_cell {w : World} {g i : Nat} {cs : List Value} (h : w.heap[g]? = some (.cells cs.toArray 3 (0, 0))) (hi : i < cs.length) : (∃ v, w.cell? ⟨g, i, none⟩ = some v) ∧ w.frozen? ⟨g, i, none⟩ = false :=
  ⟨⟨cs[i], by rw [cell_of_row _ _ _ _ _ _ h]; simp [hi]⟩, frozen_of_row _ _ _ _ _ h⟩
theorem out_set {w : World} {g : Nat} {cs : List Value} (h : w.heap[g]? = some (.cells cs.toArray 3 (0, 0))) (i : Nat) (v : Value) : (w.setCell ⟨g, i, none⟩ v).heap[g]? = some (.cells (cs.set i v).toArray 3 (0, 0)) := by
  rw [heap_setCell_same w g i _ _ v h]; simp
def CeR (w : World) (B g n : Nat) (q : Option Addr) (c' : Nat) (C : List Nat) (s : Value) (wr : World) : Prop :=
  ∃ i : Nat, s = .int .i64 (i : Int) ∧ i ≤ n ∧ wr.heap[B]? = some (.cells #[.slice q n c'] 32 (0, 0)) ∧ wr.heap[g]? = some (.cells (fillC C n i).toArray 3 (0, 0)) ∧ Below w.heap.size w wr
set_option maxRecDepth 100000 in
set_option maxHeartbeats 4000000 in
theorem cell_ok (N b R : Nat) (vs : List Value) (bs : List (List Nat)) (k : List Nat) (q : Option Addr) (c' : Nat) (w : World) (h : Sc N w b R vs bs) (hu : upS bs) (hq : Pt w q k) (hk : k.length = bs.length) :
    Calls Try.prog 46 #[.pointer (some ⟨b, 0, none⟩), .slice q k.length c'] w fun e w' => ∃ g, e = .returned (.slice (some ⟨g, 0, none⟩) bs.length bs.length) ∧ w'.heap[g]? = some (.cells (ci (cellL bs k)).toArray 3 (0, 0)) ∧ w.heap.size ≤ g ∧ Below w.heap.size w w' := by
  obtain ⟨n, hn⟩ : ∃ n, bs.length = n := ⟨_, rfl⟩
  have hkn : k.length = n := by omega
  obtain ⟨C, hC⟩ : ∃ C, cellL bs k = C := ⟨_, rfl⟩
  have hCl : C.length = n := by rw [← hC, cellL_len hk, hn]
  have hd := h.dim
  rw [hn] at hd
  have hm := imake n hd.2 C
  have HCA := hid (show ∀ i l x, bs[i]? = some l → k[i]? = some x → C[i]? = some (itv l x) from fun i l x h1 h2 => by
    rw [← hC]; unfold cellL; rw [List.getElem?_zipWith, h1, h2])
  have H := hid h; have HU := hid hu; have HQ := hid hq; have HKN := hid hkn; have HN := hid hn; have HCL := hid hCl; have HD := hid hd
  rw [hkn, hn, hC]
  obtain ⟨W, hW⟩ : ∃ W, w.alloc (.cells #[Value.slice q n c'] 32) = W := ⟨_, rfl⟩
  have HBW := hid (show Below w.heap.size w W by rw [← hW]; exact below_alloc _ _)
  have HSW := hid (show W.heap.size = w.heap.size + 1 by rw [← hW]; simp)
  have HGB := hid (show W.heap[w.heap.size]? = some (.cells #[.slice q n c'] 32 (0, 0)) by rw [← hW]; exact heap_alloc_new _ _)
  have x0 : W.cell? ⟨w.heap.size, 0, none⟩ = some (.slice q n c') := by rw [cell_of_row _ _ _ _ _ _ HGB.out]; rfl
  obtain ⟨V, hV⟩ : ∃ V, W.alloc (.cells (fillC C n 0).toArray 3) = V := ⟨_, rfl⟩
  have HBV := hid (show Below W.heap.size W V by rw [← hV]; exact below_alloc _ _)
  have HGV := hid (show V.heap[W.heap.size]? = some (.cells (fillC C n 0).toArray 3 (0, 0)) by rw [← hV]; exact heap_alloc_new _ _)
  have hcb : V.cell? ⟨b, 0, none⟩ = some (.slice (some ⟨R, 0, none⟩) n n) := by
    have := (h.next (HBW.out.trans (HBV.out.mono HBW.out.size))).cell.1
    rw [hn] at this; exact this
  clear h hu hq hk hkn hn hC hCl hd
  go_enter Try.func46, Try.ntmps46
  go_wp2_with fail
  go_loopw [16] (fun s wr => CeR w w.heap.size W.heap.size n q c' C s wr) (fun s _ => n - (intOf s).toNat)
  case atStart => exact ⟨0, rfl, by omega, (HBV.out.block _ (by rw [HSW.out]; omega)).trans HGB.out, HGV.out, HBW.out.trans (HBV.out.mono HBW.out.size)⟩
  case round =>
    rename World => wa
    obtain ⟨i, rfl, hi, hgk, hgo, hb⟩ := hrel
    have HGK := hid hgk; have HGO := hid hgo; have HB := hid hb
    have hsw := HSW.out
    by_cases hlt : i < n
    · have hib : i < bs.length := by have := HN.out; omega
      have hik : i < k.length := by have := HKN.out; omega
      obtain ⟨l, hl⟩ : ∃ l, bs[i]? = some l := ⟨_, List.getElem?_eq_getElem hib⟩
      obtain ⟨x, hx⟩ : ∃ x, k[i]? = some x := ⟨_, List.getElem?_eq_getElem hik⟩
      have hxk : k[i] = x := by rw [List.getElem?_eq_getElem hik] at hx; injection hx
      have hS := H.out.next hb
      obtain ⟨v, p, c, hv, hvp, hcl, hfr, hpt, hown, hlc⟩ := hS.at hl
      have hul := HU.out l (List.mem_of_getElem? hl)
      have HY := hid (HCA.out i l x hl hx)
      have HI := hid hlt
      have e1 : decide ((i : Int) < (n : Int)) = true := by simpa using hlt
      have e1' : decide (i < n) = true := by simpa using hlt
      have hd6 := HD.out
      have s1 : IntKind.i64.wrap ((i : Int) + 1) = ((i + 1 : Nat) : Int) := Go.IntWalk.i64_in _ (by omega)
      obtain ⟨V2, hV2⟩ : ∃ V2, (wa.alloc (.cells #[.int .i64 (i : Int)] 3)).alloc (.cells #[Value.slice p l.length c] 31) = V2 := ⟨_, rfl⟩
      have b1 := below_alloc wa (.cells #[.int .i64 (i : Int)] 3)
      have b2 := below_alloc (wa.alloc (.cells #[.int .i64 (i : Int)] 3)) (.cells #[Value.slice p l.length c] 31)
      have HB2 := hid (show Below wa.heap.size wa V2 by rw [← hV2]; exact b1.trans (b2.mono b1.size))
      have g1 : V2.heap[wa.heap.size]? = some (.cells #[.int .i64 (i : Int)] 3 (0, 0)) := by rw [← hV2, b2.block _ (by simp)]; exact heap_alloc_new _ _
      have g2 : V2.heap[wa.heap.size + 1]? = some (.cells #[Value.slice p l.length c] 31 (0, 0)) := by
        rw [← hV2]
        have := heap_alloc_new (wa.alloc (.cells #[.int .i64 (i : Int)] 3)) (.cells #[Value.slice p l.length c] 31)
        rw [World.size_alloc] at this; exact this
      have y1 : V2.cell? ⟨wa.heap.size, 0, none⟩ = some (.int .i64 (i : Int)) := by rw [cell_of_row _ _ _ _ _ _ g1]; rfl
      have y2 : V2.cell? ⟨wa.heap.size + 1, 0, none⟩ = some (.slice p l.length c) := by rw [cell_of_row _ _ _ _ _ _ g2]; rfl
      have hBl : w.heap.size < wa.heap.size := (Array.getElem?_eq_some_iff.1 hgk).1
      have hgl : W.heap.size < wa.heap.size := (Array.getElem?_eq_some_iff.1 hgo).1
      have hk2 : V2.heap[w.heap.size]? = _ := (HB2.out.block _ hBl).trans hgk
      have y3 : V2.cell? ⟨w.heap.size, 0, none⟩ = some (.slice q n c') := by rw [cell_of_row _ _ _ _ _ _ hk2]; rfl
      have hFI := find_itv l k p q c c' (wa.heap.size + 1) w.heap.size wa.heap.size i V2.drew (hpt.below HB2.out).drew ((HQ.out.below (hb.trans (HB2.out.mono hb.size))).drew) hik (by have := hul.2.2; omega) hul.1 y2 (by rw [HKN.out]; exact y3) y1
      rw [hxk] at hFI
      have HFI := hid hFI
      have HGG := hid (And.intro hBl hgl)
      have n1 : ¬ (W.heap.size = wa.heap.size) := by omega
      have n2 : ¬ (W.heap.size = wa.heap.size + 1) := by omega
      have n3 : ¬ (wa.heap.size = W.heap.size) := by omega
      have n4 : ¬ (wa.heap.size + 1 = W.heap.size) := by omega
      have hcl2 := hcl
      clear hgk hgo hb hib hik hl hx hxk hS hv hvp hfr hpt hown hlc hul hd6 b1 b2 g1 g2 hk2 hBl hgl hFI hsw hi
      go_wp2_with fail
      have y12 := And.intro y1 y2
      go_region_held3 (fun w' => w'.cell? ⟨wa.heap.size, 0, none⟩ = some (.int .i64 (i : Int)) ∧ w'.cell? ⟨wa.heap.size + 1, 0, none⟩ = some (.slice p l.length c)) (first | exact y12 | exact x4 | go_keep)
        (first
          | (go_at_call 64; refine HFI.out.mono ?_; rintro e w5 ⟨rfl, hb5⟩; have HB5 := hid (show Below V2.drew.heap.size V2.drew w5 from hb5); have x4 := And.intro ((hb5.cell (p := ⟨wa.heap.size, 0, none⟩) (cell_lt y1)).trans y1) ((hb5.cell (p := ⟨wa.heap.size + 1, 0, none⟩) (cell_lt y2)).trans y2); have x5 := out_cell ((hb5.block _ (Nat.lt_of_lt_of_le HGG.out.2 HB2.out.size)).trans ((HB2.out.block _ HGG.out.2).trans HGO.out)) (by rw [fillC_len HCL.out (Nat.le_of_lt HI.out)]; exact HI.out); obtain ⟨⟨u6, x6⟩, x7⟩ := x5; clear hb5)
          | fail)
      have HN1 := hid (out_set ((HB5.out.block _ (Nat.lt_of_lt_of_le HGG.out.2 HB2.out.size)).trans ((HB2.out.block _ HGG.out.2).trans HGO.out)) i (Value.int .i64 ((itv l x : Nat) : Int)))
      rw [fillC_next HCL.out HI.out HY.out] at HN1
      have HN2 := hid (show (w5.setCell ⟨W.heap.size, i, none⟩ (Value.int .i64 ((itv l x : Nat) : Int))).heap[w.heap.size]? = some (.cells #[.slice q n c'] 32 (0, 0)) by
        rw [Below.heap_setCell w5 ⟨W.heap.size, i, none⟩ _ _ (by show w.heap.size ≠ W.heap.size; have := HSW.out; omega), HB5.out.block _ (Nat.lt_of_lt_of_le HGG.out.1 HB2.out.size)]
        exact (HB2.out.block _ HGG.out.1).trans HGK.out)
      have HN3 := hid (show Below w.heap.size w (w5.setCell ⟨W.heap.size, i, none⟩ (Value.int .i64 ((itv l x : Nat) : Int))) from by
        have h1 : Below w.heap.size w V2.drew := (HB.out.trans (HB2.out.mono HB.out.size)).drew
        exact (h1.trans (HB5.out.mono h1.size)).setCell (p := ⟨W.heap.size, i, none⟩) (by show w.heap.size ≤ W.heap.size; have := HSW.out; omega) _)
      clear n1 n2 n3 n4 y1 y2 y3 y12 x4 x6 x7 hcl hcl2 hV2 HB5 HB2 HFI HGO HGK HB
      go_wp2_with fail
      go_roundw
      case rel => exact ⟨i + 1, rfl, HI.out, HN2.out, HN1.out, HN3.out⟩
      case measure => simp [intOf]; have := HI.out; omega
    · have e1 : decide ((i : Int) < (n : Int)) = false := by simp; omega
      have e1' : decide (i < n) = false := by simpa using hlt
      obtain rfl : i = n := by omega
      have HF := hid (show wa.heap[W.heap.size]? = some (.cells (ci C).toArray 3 (0, 0)) by rw [← fillC_all HCL.out]; exact hgo)
      clear hgk hgo hb hlt hi hsw
      go_wp2_with fail
      go_ret
      exact ⟨_, rfl, HF.out, HBW.out.size, HB.out⟩
set_option maxHeartbeats 1000000 in
theorem find_any (N b R : Nat) (vs : List Value) (bs : List (List Nat)) (k : List Nat) (q : Option Addr) (c' : Nat) (w : World) (h : Sc N w b R vs bs) (hu : upS bs) (hq : Pt w q k) :
    Calls Try.prog 19 #[.pointer (some ⟨b, 0, none⟩), .slice q k.length c'] w fun e w' => ∃ p m, e = .returned (.tuple #[.slice p m m, .int .i64 (err (checkB k.length (bs.length : Int)))]) ∧ (if checkB k.length (bs.length : Int) = true then m = bs.length ∧ ∃ g, p = some ⟨g, 0, none⟩ ∧ w'.heap[g]? = some (.cells (ci (cellL bs k)).toArray 3 (0, 0)) ∧ w.heap.size ≤ g else p = none ∧ m = 0) ∧ Below w.heap.size w w' := by
  have HCO := hid (coords_ok w h.cell.1)
  have HCH := hid fun V : World => check_ok q k.length c' (bs.length : Int) V
  cases hc : checkB k.length (bs.length : Int) with
  | false =>
    rw [hc, err_false false rfl] at HCH
    rw [err_false false rfl]
    clear h hu hq hc
    go_enter Try.func19, Try.ntmps19
    go_wp2_with fail
    refine HCO.out.mono ?_
    rintro e w' ⟨rfl, rfl⟩
    go_wp2_with fail
    refine (HCH.out _).mono ?_
    rintro e w' ⟨rfl, rfl⟩
    go_wp2_with fail
    go_ret2
    exact ⟨none, 0, rfl, ⟨rfl, rfl⟩, Below.refl _ _⟩
  | true =>
    rw [hc, err_true true rfl] at HCH
    rw [err_true true rfl]
    have hk : k.length = bs.length := by unfold checkB at hc; rw [Bool.and_eq_true, decide_eq_true_eq] at hc; omega
    have HCE := hid (cell_ok N b R vs bs k q c' w h hu hq hk)
    clear h hu hq hc hk
    go_enter Try.func19, Try.ntmps19
    go_wp2_with fail
    refine HCO.out.mono ?_
    rintro e w' ⟨rfl, rfl⟩
    go_wp2_with fail
    refine (HCH.out _).mono ?_
    rintro e w' ⟨rfl, rfl⟩
    go_wp2_with fail
    refine HCE.out.mono ?_
    rintro e w1 ⟨g, rfl, hg, hgs, hb⟩
    have HG := hid (And.intro hg (And.intro hgs hb))
    clear hg hgs hb
    go_wp2_with fail
    go_ret2
    exact ⟨some ⟨g, 0, none⟩, bs.length, rfl, ⟨rfl, g, rfl, HG.out.1, HG.out.2.1⟩, HG.out.2.2⟩
end Go.Proofs.Ytmhjoeegghnlhaa.Sc
