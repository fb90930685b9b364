/- Range of excell. -/
import Derived.Test.YtalohakibpjmmaaExDown
import Derived.Test.YtalohakibpjmmaaExInts
import Derived.Deep.RegionHeld3
import Derived.Laws.EntriesVeiled
namespace Go.Proofs.Ytalohakibpjmmaa.Ex
open Go.RowKit
open Go.Lib (hid)
open Go.Proofs.Ytalohakibpjmmaa.Ky
open Go.Proofs.Ytalohakibpjmmaa.Pt
open Go.Proofs.Ytalohakibpjmmaa.Bk

/-- numbers as ints -/
def zi (l : List Nat) : List Int := l.map fun (n : Nat) => (n : Int)
theorem iv_zi (l : List Nat) : iv (zi l) = ki l := by simp [iv, zi, ki]
theorem zi_length (l : List Nat) : (zi l).length = l.length := by simp [zi]
theorem zi_inj {l m : List Nat} : zi l = zi m ↔ l = m := by
  constructor
  · intro h
    unfold zi at h
    have := congrArg (List.map Int.toNat) h
    simpa [List.map_map, Function.comp_def] using this
  · rintro rfl; rfl
theorem CellsAt.below {w w' : World} {p : Option Addr} {l : List Value} (h : CellsAt w p l) (hb : Below w.heap.size w w') : CellsAt w' p l := fun j hj => by
  obtain ⟨b, off, h1, h2⟩ := h j hj
  exact ⟨b, off, h1, (hb.cell (World.block_lt_of_cell? w ⟨b, off + j, none⟩ h2)).trans h2⟩
theorem Og.cells {w : World} {B go : Nat} {v : Value} {xs : List Nat} (h : Og w B go v xs) : ∃ p c, v = .slice p xs.length c ∧ CellsAt w p (ki xs) := by
  rcases h.row.2 with ⟨rfl, h0⟩ | ⟨g, cap, cur, rfl, hb, hh, hn, hm, hs, ht⟩
  · have : xs = [] := List.eq_nil_of_length_eq_zero h0
    subst this
    exact ⟨none, 0, rfl, fun j hj => absurd hj (by simp [ki])⟩
  · refine ⟨_, _, rfl, fun j hj => ⟨g, 0, rfl, ?_⟩⟩
    rw [cell_of_row _ _ _ _ _ _ hh, Nat.zero_add]
    have hj' : j < xs.length := by rw [ki_length] at hj; exact hj
    obtain ⟨x, hx⟩ : ∃ x, (ki xs)[j] = x := ⟨_, rfl⟩
    have h1 : (ki xs)[j]? = some x := by rw [List.getElem?_eq_getElem hj, hx]
    rw [hx]
    rw [← ht, List.getElem?_take] at h1
    split at h1
    · simpa using h1
    · simp at h1
theorem ptd_of {w : World} {go : Nat} {v : Value} {T : TypeId} {p : Option Addr} {l : List Nat} (h : Pt w p l) (hg : w.heap[go]? = some (.cells #[v] T (0, 0))) (hv : ∀ z, v ≠ .int .u32 z) (ho : v.ownBlock = none) : PtD (Fo go v) w p l :=
  ⟨fun j hj => by
    obtain ⟨b, off, h1, h2, h3⟩ := h.cells j hj
    refine ⟨b, off, h1, h2, fun hF => ?_, h3⟩
    rcases hF with e0 | hb
    · rw [e0, cell_of_row _ _ _ _ _ _ hg] at h3
      rcases Nat.eq_zero_or_pos (off + j) with e | e
      · rw [e] at h3
        have h3 : some v = some _ := h3
        injection h3 with h3
        exact hv _ h3
      · rw [Array.getElem?_eq_none (by show 1 ≤ off + j; omega)] at h3
        cases h3
    · rw [ho] at hb
      exact absurd hb (by simp), fun j hj => h.fit j hj⟩
/-- the first call of the closure -/
theorem down_top {n D : Nat} (hn : 1 ≤ n ∧ n ≤ 6) (hD : D ≤ 12) {bl bh : List Nat} (h1 : bl.length = n) (h2 : bh.length = n) (gb gd go gf : Nat) (hlt : gb < go ∧ gd < go ∧ gf = go + 1) (p q A A' : Option Addr) (c c' k k' : Nat) (fv : Value) (V : World)
    (hfv : Value.func (.func 49) #[] #[.pointer (some ⟨gb, 0, none⟩), .pointer (some ⟨gd, 0, none⟩), .pointer (some ⟨go, 0, none⟩), .pointer (some ⟨gf, 0, none⟩)] = fv)
    (hb : V.heap[gb]? = some (.cells #[Value.slice p n c, .slice q n c'] 32 (0, 0))) (hd : V.heap[gd]? = some (.cells #[.int .i64 (D : Int)] 3 (0, 0)))
    (hf : V.heap[gf]? = some (.cells #[fv] 68 (0, 0))) (ho : V.heap[go]? = some (.cells #[Value.slice none 0 0] 37 (0, 0))) (hs : go + 2 ≤ V.heap.size)
    (q1 : Pt V A (lowW n)) (q2 : Pt V A' (highW n)) (hp : Pt V p bl) (hq : Pt V q bh) :
    Calls Try.prog 49 #[.agg #[.slice A n k, .slice A' n k'], .int .i64 0, .int .i64 0, .pointer (some ⟨gb, 0, none⟩), .pointer (some ⟨gd, 0, none⟩), .pointer (some ⟨go, 0, none⟩), .pointer (some ⟨gf, 0, none⟩)] V fun e w' => e = .returned (.tuple #[]) ∧ ∃ v', Og w' (go + 2) go v' (rangeL n D bl bh) ∧ Exc (Fo go (.slice none 0 0)) V w' := by
  have hx : ∀ {pp : Option Addr} {l : List Nat}, Pt V pp l → PtD (Fo go (.slice none 0 0)) V pp l := fun h => ptd_of h ho (by simp) rfl
  have hn0 : ∀ j, j ≠ go → ¬ Fo go (.slice none 0 0) j := fun j hj h => by
    rcases h with h | h
    · exact hj h
    · exact absurd h (by simp [Value.ownBlock])
  obtain ⟨l1, l2, l3⟩ := hlt
  have hF : Fx V (Fo go (.slice none 0 0)) gb gd go gf p q c c' D bl bh := ⟨by rw [h1, h2]; exact hb, hd, by rw [hfv]; exact hf, hx hp, hx hq, hn0 _ (by omega), hn0 _ (by omega), hn0 _ (by omega)⟩
  have hO : Og V (go + 2) go (.slice none 0 0) [] := ⟨ho, World.ownsRow_nil _ _ _ _, by omega, hs⟩
  have := down_ok hn hD gb gd go gf p q c c' (go + 2) D 0 0 (by omega) (by simp) A A' k k' V (.slice none 0 0) [] hF hO (hx q1) (hx q2) (by have := (pow_12 hD).1; simp; omega)
  unfold dargs at this
  rw [sub_all, List.nil_append] at this
  exact this.mono fun e w' ⟨h1, v', h2, h3, _⟩ => ⟨h1, v', h2, h3⟩
def rangeB (bl bh : List Nat) (dim d : Int) : Bool := boxB bl bh dim && mayD d
/-- addresses were returned, and OK -/
def ListPost (w : World) (L : List Nat) (e : Ending) (w' : World) : Prop := ∃ p c, e = .returned (.tuple #[.slice p L.length c, .int .i64 0]) ∧ CellsAt w' p (ki L) ∧ Below w.heap.size w w'
set_option maxRecDepth 100000 in
set_option maxHeartbeats 4000000 in
theorem rangeE_yes {n D : Nat} {bl bh : List Nat} (hn : 1 ≤ n ∧ n ≤ 6) (hD : D ≤ 12) (h1 : bl.length = n) (h2 : bh.length = n) (hbx : boxB bl bh (n : Int) = true) (p q : Option Addr) (c c' : Nat) (w : World) (hp : Pt w p bl) (hq : Pt w q bh) :
    Calls Try.prog 34 #[.agg #[.slice p n c, .slice q n c'], .int .i64 (n : Int), .int .i64 (D : Int)] w (ListPost w (rangeL n D bl bh)) := by
  have HCB := hid fun (V : World) (hb : Below w.heap.size w V) => checkBox_ok bl bh p q c c' (n : Int) V (hp.below hb) (hq.below hb) (by omega)
  rw [hbx, h1, h2, err_true true rfl] at HCB
  have HMD := hid fun (V : World) => mayD_ok (D : Int) V
  rw [show mayD (D : Int) = true from mayD_iff.2 ⟨D, rfl, hD⟩] at HMD
  have HWH := hid fun (V : World) => whole_ok (n : Int) V
  unfold OneBox at HWH
  rw [show wholeLo (n : Int) = lowW n by unfold wholeLo; rw [if_pos (by omega), Int.toNat_natCast], show wholeHi (n : Int) = highW n by unfold wholeHi; rw [if_pos (by omega), Int.toNat_natCast], show (lowW n).length = n by simp [lowW], show (highW n).length = n by simp [highW]] at HWH
  obtain ⟨W, hW⟩ : ∃ W, (w.alloc (.cells #[Value.slice p n c, .slice q n c'] 32)).alloc (.cells #[.int .i64 (D : Int)] 3) = W := ⟨_, rfl⟩
  have b1 := below_alloc w (.cells #[Value.slice p n c, .slice q n c'] 32)
  have b2 := below_alloc (w.alloc (.cells #[Value.slice p n c, .slice q n c'] 32)) (.cells #[.int .i64 (D : Int)] 3)
  have HB := hid (show Below w.heap.size w W by rw [← hW]; exact b1.trans (b2.mono b1.size))
  have HG0 := hid (show W.heap[w.heap.size]? = some (.cells #[Value.slice p n c, .slice q n c'] 32 (0, 0)) by rw [← hW, b2.block _ (by simp)]; exact heap_alloc_new _ _)
  have HG1 : Hid (W.heap[w.heap.size + 1]? = some (.cells #[.int .i64 (D : Int)] 3 (0, 0))) := hid (by
    rw [← hW]
    have := heap_alloc_new (w.alloc (.cells #[Value.slice p n c, .slice q n c'] 32)) (.cells #[.int .i64 (D : Int)] 3)
    rw [World.size_alloc] at this; exact this)
  have HP := hid hp; have HQ := hid hq; have HH1 := hid h1; have HH2 := hid h2; have HN := hid hn; have HD := hid hD
  have z0 := two_cells HG0.out
  have z1 := one_cell HG1.out
  clear b1 b2 hp hq hbx h1 h2 hn
  go_enter Try.func34, Try.ntmps34
  go_wp2_with fail
  refine (HCB.out _ HB.out).mono ?_
  rintro e w1 ⟨rfl, hb⟩
  have HB1 := hid hb
  have z2 := one_cell ((hb.block _ (lt_of HG1.out)).trans HG1.out)
  clear z0 z1 hb
  go_wp2_with fail
  refine (HMD.out _).mono ?_
  rintro e w1' ⟨rfl, rfl⟩
  clear z2
  obtain ⟨V2, hV2⟩ : ∃ V2, (w1.alloc (.cells #[Value.slice none 0 0] 37)).alloc (.cells #[Value.nilFunc] 68) = V2 := ⟨_, rfl⟩
  have b1 := below_alloc w1 (.cells #[Value.slice none 0 0] 37)
  have b2 := below_alloc (w1.alloc (.cells #[Value.slice none 0 0] 37)) (.cells #[Value.nilFunc] 68)
  have HV2 := hid (show Below w1.heap.size w1 V2 by rw [← hV2]; exact b1.trans (b2.mono b1.size))
  have g1 : V2.heap[w1.heap.size]? = some (.cells #[Value.slice none 0 0] 37 (0, 0)) := by rw [← hV2, b2.block _ (by simp)]; exact heap_alloc_new _ _
  have g2 : V2.heap[w1.heap.size + 1]? = some (.cells #[Value.nilFunc] 68 (0, 0)) := by
    rw [← hV2]
    have := heap_alloc_new (w1.alloc (.cells #[Value.slice none 0 0] 37)) (.cells #[Value.nilFunc] 68)
    rw [World.size_alloc] at this; exact this
  have gs : V2.heap.size = w1.heap.size + 2 := by rw [← hV2]; simp
  obtain ⟨fv, hfv⟩ : ∃ fv, Value.func (.func 49) #[] #[.pointer (some ⟨w.heap.size, 0, none⟩), .pointer (some ⟨w.heap.size + 1, 0, none⟩), .pointer (some ⟨w1.heap.size, 0, none⟩), .pointer (some ⟨w1.heap.size + 1, 0, none⟩)] = fv := ⟨_, rfl⟩
  have HFV := hid hfv
  have y := one_cell g2
  have hW1 : w.heap.size + 2 ≤ W.heap.size := by rw [← hW]; simp
  have hb1 := HB1.out.size
  have HLE := hid (show w.heap.size + 2 ≤ w1.heap.size by omega)
  obtain ⟨V3, hV3⟩ : ∃ V3, V2.setCell ⟨w1.heap.size + 1, 0, none⟩ (Value.func (.func 49) #[] #[.pointer (some ⟨w.heap.size, 0, none⟩), .pointer (some ⟨w.heap.size + 1, 0, none⟩), .pointer (some ⟨w1.heap.size, 0, none⟩), .pointer (some ⟨w1.heap.size + 1, 0, none⟩)]) = V3 := ⟨_, rfl⟩
  have HGF := hid (show V3.heap[w1.heap.size + 1]? = some (.cells #[fv] 68 (0, 0)) by rw [← hV3, hfv]; simp [World.setCell, Array.getElem?_modify, g2])
  have HGO := hid (show V3.heap[w1.heap.size]? = some (.cells #[Value.slice none 0 0] 37 (0, 0)) by rw [← hV3, Below.heap_setCell _ ⟨_, 0, none⟩ _ _ (by show w1.heap.size ≠ w1.heap.size + 1; omega)]; exact g1)
  have HS3 := hid (show V3.heap.size = w1.heap.size + 2 by rw [← hV3, World.size_setCell]; exact gs)
  have HB3 := hid (show Below w1.heap.size w1 V3 by rw [← hV3]; exact HV2.out.setCell (p := ⟨w1.heap.size + 1, 0, none⟩) (by show w1.heap.size ≤ w1.heap.size + 1; omega) _)
  clear b1 b2 g1 g2 gs hW1 hb1 hfv hW
  go_upto_region 6 with fail
  have z3 := (one_cell HGF.out).1
  rw [← HFV.out] at z3
  clear hV3
  clear y hV2
  have HBT := hid (HB1.out.trans (HB3.out.mono HB1.out.size))
  have HTP := hid fun (V : World) (hb : Below V3.heap.size V3 V) (A A' : Option Addr) (k k' : Nat) (q1 : Pt V A (lowW n)) (q2 : Pt V A' (highW n)) => (show Calls Try.prog 49 #[.agg #[.slice A n k, .slice A' n k'], .int .i64 0, .int .i64 0, .pointer (some ⟨w.heap.size, 0, none⟩), .pointer (some ⟨w.heap.size + 1, 0, none⟩), .pointer (some ⟨w1.heap.size, 0, none⟩), .pointer (some ⟨w1.heap.size + 1, 0, none⟩)] V fun e w' => e = .returned (.tuple #[]) ∧ ∃ v', Og w' (w1.heap.size + 2) w1.heap.size v' (rangeL n D bl bh) ∧ Exc (Fo w1.heap.size (.slice none 0 0)) V w' from by
    have hle := HLE.out
    have hs := HS3.out
    have hg0 := lt_of HG0.out
    have hg1 := lt_of HG1.out
    have hw := HB.out.size
    have hbb : Below w.heap.size w V := HB.out.trans ((HBT.out.trans (hb.mono (by have := HBT.out.size; omega))).mono hw)
    refine down_top HN.out HD.out HH1.out HH2.out w.heap.size (w.heap.size + 1) w1.heap.size (w1.heap.size + 1) ⟨by omega, by omega, rfl⟩ p q A A' c c' k k' fv V HFV.out ?_ ?_ ?_ ?_ ?_ q1 q2 (HP.out.below hbb) (HQ.out.below hbb)
    · rw [hb.block _ (by omega), HBT.out.block _ hg0]; exact HG0.out
    · rw [hb.block _ (by omega), HBT.out.block _ hg1]; exact HG1.out
    · rw [hb.block _ (by omega)]; exact HGF.out
    · rw [hb.block _ (by omega)]; exact HGO.out
    · have := hb.size; omega)
  have H0 := hid (Below.refl V3.heap.size V3).drew
  have ZS := hid fun (V : World) (hb : Below V3.heap.size V3 V) => (show V.cell? ⟨w1.heap.size + 1, 0, none⟩ = some (Value.func (.func 49) #[] #[.pointer (some ⟨w.heap.size, 0, none⟩), .pointer (some ⟨w.heap.size + 1, 0, none⟩), .pointer (some ⟨w1.heap.size, 0, none⟩), .pointer (some ⟨w1.heap.size + 1, 0, none⟩)]) from by
    rw [hb.cell (by show w1.heap.size + 1 < V3.heap.size; rw [HS3.out]; omega)]; exact z3)
  have z0 := ZS.out _ H0.out
  go_region_held3 (fun w' => w'.cell? ⟨w1.heap.size + 1, 0, none⟩ = some (Value.func (.func 49) #[] #[.pointer (some ⟨w.heap.size, 0, none⟩), .pointer (some ⟨w.heap.size + 1, 0, none⟩), .pointer (some ⟨w1.heap.size, 0, none⟩), .pointer (some ⟨w1.heap.size + 1, 0, none⟩)])) (first | exact z0 | exact z4 | exact z5 | go_keep)
    (first
      | (go_at_call 42; refine (HWH.out _).mono ?_; rintro e w4 ⟨A, k1, A', k2, rfl, q1, q2, hb⟩; have HB4 := hid (H0.out.trans (hb.mono H0.out.size)); have HQ1 := hid q1; have HQ2 := hid q2; have z4 := ZS.out _ HB4.out; clear q1 q2 hb)
      | (go_at_call 49; refine (HTP.out _ HB4.out A A' k1 k2 HQ1.out HQ2.out).mono ?_; rintro e w5 ⟨rfl, v', hO, hE⟩; have HO := hid hO; have HE := hid hE; have z5 := (HE.out.keep.cell (i := 0) (b := w1.heap.size + 1) (by have := HB4.out.size; have := HS3.out; omega) (fun hF => by rcases hF with h | h; (exact absurd h (by omega)); (exact absurd h (by simp [Value.ownBlock])))).trans z4; clear hO hE)
      | fail)
  clear z0 z3 z4 z5
  have hO := HO.out
  obtain ⟨pp, cc, rfl, hcl⟩ := hO.cells
  have HCL := hid hcl
  have y := one_cell HO.out.head
  have HBF := hid (show Below w.heap.size w w5 from by
    have h1 := HB.out.size
    have h2 := HBT.out.size
    have h3 := HB4.out.size
    have h4 : Below w.heap.size w w4 := HB.out.trans ((HBT.out.trans (HB4.out.mono h2)).mono h1)
    exact h4.trans (HE.out.below h4.size (fun j hj => by
      rcases hj with h | h
      · have := HLE.out; omega
      · exact absurd h (by simp [Value.ownBlock]))))
  clear hcl hO
  go_wp2_with fail
  go_ret2
  exact ⟨pp, cc, rfl, HCL.out, HBF.out⟩
set_option maxRecDepth 100000 in
set_option maxHeartbeats 4000000 in
theorem rangeE_no {bl bh : List Nat} (dim d : Int) (p q : Option Addr) (c c' : Nat) (w : World) (hp : Pt w p bl) (hq : Pt w q bh) (hl : bl.length ≤ 1000000) (h : rangeB bl bh dim d = false) :
    Calls Try.prog 34 #[.agg #[.slice p bl.length c, .slice q bh.length c'], .int .i64 dim, .int .i64 d] w fun e w' => e = .returned (.tuple #[.slice none 0 0, .int .i64 1]) ∧ Below w.heap.size w w' := by
  have HCB := hid fun (V : World) (hb : Below w.heap.size w V) => checkBox_ok bl bh p q c c' dim V (hp.below hb) (hq.below hb) (by omega)
  have HMD := hid fun (V : World) => mayD_ok d V
  obtain ⟨W, hW⟩ : ∃ W, (w.alloc (.cells #[Value.slice p bl.length c, .slice q bh.length c'] 32)).alloc (.cells #[.int .i64 d] 3) = W := ⟨_, rfl⟩
  have b1 := below_alloc w (.cells #[Value.slice p bl.length c, .slice q bh.length c'] 32)
  have b2 := below_alloc (w.alloc (.cells #[Value.slice p bl.length c, .slice q bh.length c'] 32)) (.cells #[.int .i64 d] 3)
  have HB := hid (show Below w.heap.size w W by rw [← hW]; exact b1.trans (b2.mono b1.size))
  have HG0 := hid (show W.heap[w.heap.size]? = some (.cells #[Value.slice p bl.length c, .slice q bh.length c'] 32 (0, 0)) by rw [← hW, b2.block _ (by simp)]; exact heap_alloc_new _ _)
  have HG1 : Hid (W.heap[w.heap.size + 1]? = some (.cells #[.int .i64 d] 3 (0, 0))) := hid (by
    rw [← hW]
    have := heap_alloc_new (w.alloc (.cells #[Value.slice p bl.length c, .slice q bh.length c'] 32)) (.cells #[.int .i64 d] 3)
    rw [World.size_alloc] at this; exact this)
  have z0 := two_cells HG0.out
  have z1 := one_cell HG1.out
  cases hbx : boxB bl bh dim with
  | false =>
    rw [hbx, err_false false rfl] at HCB
    clear b1 b2 hp hq hbx h HMD
    go_enter Try.func34, Try.ntmps34
    go_wp2_with fail
    refine (HCB.out _ HB.out).mono ?_
    rintro e w1 ⟨rfl, hb⟩
    have HBF := hid (HB.out.trans (hb.mono HB.out.size))
    clear z0 z1 hb hW
    go_wp2_with fail
    go_ret2
    exact ⟨rfl, HBF.out⟩
  | true =>
    have hm : mayD d = false := by unfold rangeB at h; rw [hbx] at h; simpa using h
    rw [hbx, err_true true rfl] at HCB
    rw [hm] at HMD
    clear b1 b2 hp hq hbx h hm
    go_enter Try.func34, Try.ntmps34
    go_wp2_with fail
    refine (HCB.out _ HB.out).mono ?_
    rintro e w1 ⟨rfl, hb⟩
    have HBF := hid (HB.out.trans (hb.mono HB.out.size))
    have z2 := one_cell ((hb.block _ (lt_of HG1.out)).trans HG1.out)
    clear z0 z1 hb hW
    go_wp2_with fail
    refine (HMD.out _).mono ?_
    rintro e w1' ⟨rfl, rfl⟩
    go_wp2_with fail
    go_ret2
    exact ⟨rfl, HBF.out⟩
end Go.Proofs.Ytalohakibpjmmaa.Ex
