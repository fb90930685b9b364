/- PartAll walked: halves are all of a box, and have nothing both. -/
import Derived.Test.YtkjcbfdplhcjpaaPtLive
namespace Go.Proofs.Ytkjcbfdplhcjpaa.Pt
open Go.RowKit
open Go.Lib (hid)
open Go.ChangeShapes Go.WideShapes Go.Joins Go.Deep
open Go.Proofs.Ytkjcbfdplhcjpaa.Ky
open Go.Proofs.Ytkjcbfdplhcjpaa.Bk

/-- a value that is a box -/
def BoxV (w : World) (v : Value) : Prop := ∃ x y, v = .agg #[x, y] ∧ KeyV w x ∧ KeyV w y
theorem c35 : Try.prog.cellsOf 35 = 2 := by kernel_rfl
section
variable {H : Type} {enc : TypeId × Value → H} {W : World} {base : Nat}
set_option maxRecDepth 100000 in
theorem open_boxv {v : Value} {d : DataW H} {p : List MemPlace} (hv : Value.okWide Try.prog W .any base 35 v) (h : DataW.Trod enc Try.prog W 0 (fun _ => true) true 35 v d p) : BoxV W v := by
  obtain ⟨cs, rfl, hsz⟩ := okWide_struct Try.underlying35 hv
  obtain ⟨fuel, hf⟩ := h
  rw [c35] at hsz
  obtain ⟨l⟩ := cs
  have hl : l.length = 2 := hsz
  obtain ⟨x0, x1, rfl⟩ : ∃ x0 x1, l = [x0, x1] := by
    match l, hl with
    | [x0, x1], _ => exact ⟨x0, x1, rfl⟩
  obtain ⟨xs, m, _, _, _, hlen, hff⟩ := DataW.trod_struct Try.underlying35 hf
  have hlen2 : xs.length = 2 := hlen
  have some_at : ∀ j, j < 2 → (xs[j]?).isSome = true := fun j hj => by rw [List.getElem?_eq_getElem (by omega)]; rfl
  obtain ⟨y0, hy0⟩ := Option.isSome_iff_exists.1 (some_at 0 (by omega))
  obtain ⟨y1, hy1⟩ := Option.isSome_iff_exists.1 (some_at 1 (by omega))
  have h0 := hff 0 _ rfl
  have h1 := hff 1 _ rfl
  rw [hy0] at h0
  rw [hy1] at h1
  exact ⟨x0, x1, rfl, key_trod (cell_one rfl c36) h0, key_trod (cell_one rfl c36) h1⟩
set_option maxRecDepth 100000 in
theorem open_keyv {v : Value} {d : DataW H} {p : List MemPlace} (hv : Value.okWide Try.prog W .any base 31 v) (h : DataW.Trod enc Try.prog W 0 (fun _ => true) true 31 v d p) : KeyV W v := by
  obtain ⟨a, len, cap, rfl⟩ := okWide_slice Try.underlying31 hv
  obtain ⟨fuel, hf⟩ := h
  exact key_trod (cs := (Value.slice a len cap).cells.toList) (by simp [Value.cells]) hf
end
theorem le_set_r {k h : List Nat} {i m : Nat} (hi : i < h.length) (hm : m ≤ h[i]) : leAll k (h.set i m) = (leAll k h && decide (k.getD i 0 ≤ m)) := by
  rw [Bool.eq_iff_iff, Bool.and_eq_true, leAll_iff, leAll_iff, decide_eq_true_eq]
  constructor
  · rintro ⟨h1, h2⟩
    rw [List.length_set] at h1
    refine ⟨⟨h1, fun j hj hj' => ?_⟩, ?_⟩
    · have := h2 j hj (by rw [List.length_set]; exact hj')
      by_cases e : i = j
      · subst e; rw [List.getElem_set_self] at this; omega
      · rw [List.getElem_set_ne e] at this; exact this
    · have := h2 i (by omega) (by rw [List.length_set]; exact hi)
      rw [List.getElem_set_self] at this
      rw [List.getD_eq_getElem?_getD, List.getElem?_eq_getElem (by omega)]; exact this
  · rintro ⟨⟨h1, h2⟩, h3⟩
    refine ⟨by rw [List.length_set]; exact h1, fun j hj hj' => ?_⟩
    rw [List.length_set] at hj'
    by_cases e : i = j
    · subst e
      rw [List.getElem_set_self]
      rw [List.getD_eq_getElem?_getD, List.getElem?_eq_getElem hj] at h3
      exact h3
    · rw [List.getElem_set_ne e]; exact h2 j hj hj'
theorem le_set_l {k l : List Nat} {i m : Nat} (hi : i < l.length) (hm : l[i] ≤ m) (hk : l.length = k.length) : leAll (l.set i m) k = (leAll l k && decide (m ≤ k.getD i 0)) := by
  rw [Bool.eq_iff_iff, Bool.and_eq_true, leAll_iff, leAll_iff, decide_eq_true_eq]
  constructor
  · rintro ⟨h1, h2⟩
    rw [List.length_set] at h1
    refine ⟨⟨h1, fun j hj hj' => ?_⟩, ?_⟩
    · have := h2 j (by rw [List.length_set]; exact hj) hj'
      by_cases e : i = j
      · subst e; rw [List.getElem_set_self] at this; omega
      · rw [List.getElem_set_ne e] at this; exact this
    · have := h2 i (by rw [List.length_set]; exact hi) (by omega)
      rw [List.getElem_set_self] at this
      rw [List.getD_eq_getElem?_getD, List.getElem?_eq_getElem (by omega)]; exact this
  · rintro ⟨⟨h1, h2⟩, h3⟩
    refine ⟨by rw [List.length_set]; exact h1, fun j hj hj' => ?_⟩
    rw [List.length_set] at hj
    by_cases e : i = j
    · subst e
      rw [List.getElem_set_self]
      rw [List.getD_eq_getElem?_getD, List.getElem?_eq_getElem hj'] at h3
      exact h3
    · rw [List.getElem_set_ne e]; exact h2 j hj hj'
/-- what is known of a box that can be halved -/
theorem half_facts {lo hi : List Nat} {a : Int} (h : halfB lo hi a = true) : ∃ i : Nat, a = (i : Int) ∧ ∃ (h1 : i < lo.length) (h2 : i < hi.length), lo.length = hi.length ∧ leAll lo hi = true ∧ checkB lo.length (lo.length : Int) = true ∧ lo[i] < hi[i] ∧ lo[i] ≤ midN lo hi i ∧ midN lo hi i < hi[i] := by
  unfold halfB boxB at h
  simp only [Bool.and_eq_true, decide_eq_true_eq, Bool.not_eq_true', decide_eq_false_iff_not] at h
  obtain ⟨⟨hc, hle⟩, ⟨h0, h1⟩, hne⟩ := h
  have hlen := leAll_len hle
  obtain ⟨i, rfl⟩ : ∃ i : Nat, a = (i : Int) := ⟨a.toNat, by omega⟩
  have hil : i < lo.length := by omega
  have hih : i < hi.length := by omega
  rw [Int.toNat_natCast, List.getD_eq_getElem?_getD, List.getD_eq_getElem?_getD, List.getElem?_eq_getElem hil, List.getElem?_eq_getElem hih] at hne
  have h3 := (leAll_iff.1 hle).2 i hil hih
  have hm : midN lo hi i = lo[i] + (hi[i] - lo[i]) / 2 := by
    unfold midN
    rw [List.getD_eq_getElem?_getD, List.getD_eq_getElem?_getD, List.getElem?_eq_getElem hil, List.getElem?_eq_getElem hih]; rfl
  have h4 : lo[i] ≠ hi[i] := hne
  exact ⟨i, rfl, hil, hih, hlen, hle, hc, by omega, by omega, by omega⟩
theorem half_in {lo hi : List Nat} {a : Int} (h : halfB lo hi a = true) (k : List Nat) : inB k lo hi = (inB k (xlo lo hi a) (xhi lo hi a) || inB k (ylo lo hi a) (yhi lo hi a)) ∧ (inB k (xlo lo hi a) (xhi lo hi a) && inB k (ylo lo hi a) (yhi lo hi a)) = false := by
  obtain ⟨i, rfl, h1, h2, hlen, hle, hc, h3, h4, h5⟩ := half_facts h
  have e1 : xlo lo hi (i : Int) = lo := by unfold xlo; rw [h]; rfl
  have e2 : xhi lo hi (i : Int) = hi.set i (midN lo hi i) := by unfold xhi; rw [h, Int.toNat_natCast]; rfl
  have e3 : ylo lo hi (i : Int) = lo.set i (midN lo hi i + 1) := by unfold ylo; rw [h, Int.toNat_natCast]; rfl
  have e4 : yhi lo hi (i : Int) = hi := by unfold yhi; rw [h]; rfl
  rw [e1, e2, e3, e4]
  by_cases hk : lo.length = k.length
  · unfold inB
    rw [le_set_r h2 (by omega), le_set_l h1 (by omega) hk]
    cases leAll lo k <;> cases leAll k hi <;> simp <;> omega
  · have z1 : inB k lo hi = false := by unfold inB; rw [leAll_ne hk, Bool.false_and]
    have z2 : inB k lo (hi.set i (midN lo hi i)) = false := by unfold inB; rw [leAll_ne hk, Bool.false_and]
    have z3 : inB k (lo.set i (midN lo hi i + 1)) hi = false := by unfold inB; rw [leAll_ne (by rw [List.length_set]; exact hk), Bool.false_and]
    rw [z1, z2, z3]
    exact ⟨rfl, rfl⟩
theorem half_box {lo hi : List Nat} {a : Int} (h : halfB lo hi a = true) : boxB (xlo lo hi a) (xhi lo hi a) (lo.length : Int) = true ∧ boxB (ylo lo hi a) (yhi lo hi a) (lo.length : Int) = true := by
  obtain ⟨i, rfl, h1, h2, hlen, hle, hc, h3, h4, h5⟩ := half_facts h
  have e1 : xlo lo hi (i : Int) = lo := by unfold xlo; rw [h]; rfl
  have e2 : xhi lo hi (i : Int) = hi.set i (midN lo hi i) := by unfold xhi; rw [h, Int.toNat_natCast]; rfl
  have e3 : ylo lo hi (i : Int) = lo.set i (midN lo hi i + 1) := by unfold ylo; rw [h, Int.toNat_natCast]; rfl
  have e4 : yhi lo hi (i : Int) = hi := by unfold yhi; rw [h]; rfl
  rw [e1, e2, e3, e4]
  unfold boxB
  have g1 : lo.getD i 0 = lo[i] := by rw [List.getD_eq_getElem?_getD, List.getElem?_eq_getElem h1]; rfl
  have g2 : hi.getD i 0 = hi[i] := by rw [List.getD_eq_getElem?_getD, List.getElem?_eq_getElem h2]; rfl
  rw [List.length_set, hc, le_set_r h2 (by omega), le_set_l h1 (by omega) hlen, hle, g1, g2]
  simp; omega
end Go.Proofs.Ytkjcbfdplhcjpaa.Pt
namespace Go.Proofs.Ytkjcbfdplhcjpaa
open Go.RowKit
open Go.Lib (hid)
open Go.ChangeShapes Go.WideShapes Go.Joins
open Go.Proofs.Ytkjcbfdplhcjpaa.Ky
open Go.Proofs.Ytkjcbfdplhcjpaa.Bk
open Go.Proofs.Ytkjcbfdplhcjpaa.Pt
set_option maxRecDepth 100000 in
theorem PartAll_open0 {H : Type} {enc : TypeId × Value → H} {W : World} {base : Nat} {v : Value} {d : DataW H} {p : List MemPlace} (hv : Value.okWide Try.prog W .any base 35 v) (h : DataW.Trod enc Try.prog W 0 (fun _ => true) true 35 v d p) : BoxV W v := open_boxv hv h
set_option maxRecDepth 100000 in
theorem PartAll_open2 {H : Type} {enc : TypeId × Value → H} {W : World} {base : Nat} {v : Value} {d : DataW H} {p : List MemPlace} (hv : Value.okWide Try.prog W .any base 31 v) (h : DataW.Trod enc Try.prog W 0 (fun _ => true) true 31 v d p) : KeyV W v := open_keyv hv h
set_option maxRecDepth 100000 in
set_option maxHeartbeats 1000000 in
theorem all_long (lo hi k : List Nat) (p q r : Option Addr) (c c' c'' : Nat) (a : Int) (w : World) (hb : 6 < k.length ∨ 6 < lo.length ∨ 6 < hi.length) :
    Calls Try.prog 12 #[.agg #[.slice p lo.length c, .slice q hi.length c'], .int .i64 a, .slice r k.length c''] w fun e w' => e = .returned (.bool true) ∧ Below w.heap.size w w' := by
  have HB := hid (below_alloc w (.cells #[.slice p lo.length c, .slice q hi.length c'] 35))
  have HL := hid fun (V : World) => Pt.live_any V
  by_cases h1 : 6 < k.length
  · have e1 : decide ((6 : Int) < (k.length : Int)) = true := by simp; omega
    clear hb h1
    go_enter Try.func12, Try.ntmps12
    go_wp2_with fail
    refine (HL.out _).mono ?_
    rintro e w2 ⟨rfl, hb⟩
    have HB2 := hid (HB.out.trans (hb.mono HB.out.size)); clear hb
    go_wp2_with fail
    go_ret
    exact ⟨rfl, HB2.out⟩
  · have e1 : decide ((6 : Int) < (k.length : Int)) = false := by simp; omega
    by_cases h2 : 6 < lo.length
    · have e2 : decide ((6 : Int) < (lo.length : Int)) = true := by simp; omega
      clear hb h1 h2
      go_enter Try.func12, Try.ntmps12
      go_wp2_with fail
      refine (HL.out _).mono ?_
      rintro e w2 ⟨rfl, hb⟩
      have HB2 := hid (HB.out.trans (hb.mono HB.out.size)); clear hb
      go_wp2_with fail
      go_ret
      exact ⟨rfl, HB2.out⟩
    · have e2 : decide ((6 : Int) < (lo.length : Int)) = false := by simp; omega
      have e3 : decide ((6 : Int) < (hi.length : Int)) = true := by simp; omega
      clear hb h1 h2
      go_enter Try.func12, Try.ntmps12
      go_wp2_with fail
      refine (HL.out _).mono ?_
      rintro e w2 ⟨rfl, hb⟩
      have HB2 := hid (HB.out.trans (hb.mono HB.out.size)); clear hb
      go_wp2_with fail
      go_ret
      exact ⟨rfl, HB2.out⟩
set_option maxRecDepth 100000 in
set_option maxHeartbeats 2000000 in
theorem all_no (lo hi k : List Nat) (p q r : Option Addr) (c c' c'' : Nat) (a : Int) (w : World) (hp : Pt w p lo) (hq : Pt w q hi) (h1 : ¬ 6 < k.length) (h2 : ¬ 6 < lo.length) (h3 : ¬ 6 < hi.length) (hb : halfB lo hi a = false) :
    Calls Try.prog 12 #[.agg #[.slice p lo.length c, .slice q hi.length c'], .int .i64 a, .slice r k.length c''] w fun e w' => e = .returned (.bool true) ∧ Below w.heap.size w w' := by
  have H0 := hid (((Cp.start w).more hp |>.more hq).box (.slice p lo.length c) (.slice q hi.length c'))
  have HL := hid fun (V : World) => Pt.live_any V
  have HH := hid fun (V : World) (g : Pt V p lo) (g' : Pt V q hi) => (show Calls Try.prog 45 #[.agg #[.slice p lo.length c, .slice q hi.length c'], .int .i64 a] V fun e w' => ∃ p1 c1 p2 c2 p3 c3 p4 c4, e = .returned (.tuple #[.agg #[.slice p1 0 c1, .slice p2 0 c2], .agg #[.slice p3 0 c3, .slice p4 0 c4], .bool false]) ∧ Below V.heap.size V w' from by
    have := halves_ok lo hi p q c c' a V g g' (by omega)
    unfold HalfPost xlo xhi ylo yhi at this
    rw [hb] at this
    exact this.mono fun e w' ⟨p1, c1, p2, c2, p3, c3, p4, c4, z1, _, _, _, _, z2⟩ => ⟨p1, c1, p2, c2, p3, c3, p4, c4, z1, z2⟩)
  have e1 : decide ((6 : Int) < (k.length : Int)) = false := by simp; omega
  have e2 : decide ((6 : Int) < (lo.length : Int)) = false := by simp; omega
  have e3 : decide ((6 : Int) < (hi.length : Int)) = false := by simp; omega
  clear hp hq h1 h2 h3 hb
  go_enter Try.func12, Try.ntmps12
  go_wp2_with fail
  refine (HH.out _ (H0.out.pt (by simp)) (H0.out.pt (by simp))).mono ?_
  rintro e w1 ⟨p1, c1, p2, c2, p3, c3, p4, c4, rfl, hb⟩
  have H1 := hid (((H0.out.step hb).box (.slice p1 0 c1) (.slice p2 0 c2)).box (.slice p3 0 c3) (.slice p4 0 c4)); clear hb H0
  go_wp2_with fail
  refine (HL.out _).mono ?_
  rintro e w2 ⟨rfl, hb⟩
  have H2 := hid (H1.out.step hb); clear hb
  go_wp2_with fail
  go_ret
  exact ⟨rfl, H2.out.below⟩
set_option maxRecDepth 100000 in
set_option maxHeartbeats 4000000 in
theorem all_yes (lo hi k : List Nat) (p q r : Option Addr) (c c' c'' : Nat) (a : Int) (w : World) (hp : Pt w p lo) (hq : Pt w q hi) (hr : Pt w r k) (h1 : ¬ 6 < k.length) (h2 : ¬ 6 < lo.length) (h3 : ¬ 6 < hi.length) (hb : halfB lo hi a = true) :
    Calls Try.prog 12 #[.agg #[.slice p lo.length c, .slice q hi.length c'], .int .i64 a, .slice r k.length c''] w fun e w' => e = .returned (.bool true) ∧ Below w.heap.size w w' := by
  have H0 := hid (((((Cp.start w).more hr).more hp).more hq).box (.slice p lo.length c) (.slice q hi.length c'))
  have HL := hid fun (V : World) => Pt.live_any V
  have HH := hid fun (V : World) (g : Pt V p lo) (g' : Pt V q hi) => halves_ok lo hi p q c c' a V g g' (by omega)
  obtain ⟨m1, m2⟩ := half_in hb k
  obtain ⟨m3, m4⟩ := half_box hb
  have HXL := hid (xlo_len lo hi a)
  have HYL := hid (ylo_len lo hi a)
  have HLL := hid h2
  have HKL := hid h1
  have e1 : decide ((6 : Int) < (k.length : Int)) = false := by simp; omega
  have e2 : decide ((6 : Int) < (lo.length : Int)) = false := by simp; omega
  have e3 : decide ((6 : Int) < (hi.length : Int)) = false := by simp; omega
  unfold HalfPost at HH
  rw [hb] at HH
  clear hp hq hr h1 h2 h3 hb
  generalize xlo lo hi a = XL at *
  generalize xhi lo hi a = XH at *
  generalize ylo lo hi a = YL at *
  generalize yhi lo hi a = YH at *
  have HI0 := hid fun (V : World) (g0 : Pt V r k) (g : Pt V p lo) (g' : Pt V q hi) => refIn_ok k lo hi r p q c'' c c' V g0 g g' (by have := HKL.out; omega)
  have HI1 := hid fun (V : World) (p1 p2 : Option Addr) (c1 c2 : Nat) (g0 : Pt V r k) (g : Pt V p1 XL) (g' : Pt V p2 XH) => refIn_ok k XL XH r p1 p2 c'' c1 c2 V g0 g g' (by have := HKL.out; omega)
  have HI2 := hid fun (V : World) (p1 p2 : Option Addr) (c1 c2 : Nat) (g0 : Pt V r k) (g : Pt V p1 YL) (g' : Pt V p2 YH) => refIn_ok k YL YH r p1 p2 c'' c1 c2 V g0 g g' (by have := HKL.out; omega)
  have HC1 := hid fun (V : World) (p1 p2 : Option Addr) (c1 c2 : Nat) (g : Pt V p1 XL) (g' : Pt V p2 XH) => refCheckBox_ok XL XH p1 p2 c1 c2 (lo.length : Int) V g g' (by have := HXL.out; have := HLL.out; omega)
  have HC2 := hid fun (V : World) (p1 p2 : Option Addr) (c1 c2 : Nat) (g : Pt V p1 YL) (g' : Pt V p2 YH) => refCheckBox_ok YL YH p1 p2 c1 c2 (lo.length : Int) V g g' (by have := HYL.out; have := HLL.out; omega)
  rw [m1] at HI0
  rw [m3, err_true true rfl] at HC1
  rw [m4, err_true true rfl] at HC2
  clear m1 m3 m4
  generalize inB k XL XH = bx at HI0 HI1 m2
  generalize inB k YL YH = bY at HI0 HI2 m2
  have hc : (bx = true ∧ bY = false) ∨ (bx = false ∧ bY = true) ∨ (bx = false ∧ bY = false) := by
    cases bx <;> cases bY <;> simp at m2 ⊢
  clear m2
  rcases hc with ⟨rfl, rfl⟩ | ⟨rfl, rfl⟩ | ⟨rfl, rfl⟩
  all_goals
    simp only [Bool.or_false, Bool.or_true] at HI0
    go_enter Try.func12, Try.ntmps12
    go_wp2_with fail
    refine (HH.out _ (H0.out.pt (p := p) (by simp)) (H0.out.pt (p := q) (by simp))).mono ?_
    rintro e w1 ⟨p1, c1, p2, c2, p3, c3, p4, c4, rfl, g1, g2, g3, g4, hb⟩
    have H1 := hid (((((((H0.out.step hb).more g1).more g2).more g3).more g4).box (.slice p1 XL.length c1) (.slice p2 XH.length c2)).box (.slice p3 YL.length c3) (.slice p4 YH.length c4)); clear hb H0 g1 g2 g3 g4
    simp only [World.size_alloc] at H1
    have x := H1.out.cells (g := w.heap.size) (a := .slice p lo.length c) (b := .slice q hi.length c') (by simp)
    go_wp2_with fail
    refine (HI0.out _ (H1.out.pt (p := r) (l := k) (by simp)) (H1.out.pt (p := p) (l := lo) (by simp)) (H1.out.pt (p := q) (l := hi) (by simp))).mono ?_
    rintro e w2 ⟨rfl, hb⟩
    have H2 := hid (H1.out.step hb); clear hb H1 x
    have x := H2.out.cells (g := w1.heap.size) (a := .slice p1 XL.length c1) (b := .slice p2 XH.length c2) (by simp)
    go_wp2_with fail
    refine (HI1.out _ p1 p2 c1 c2 (H2.out.pt (p := r) (l := k) (by simp)) (H2.out.pt (p := p1) (l := XL) (by simp)) (H2.out.pt (p := p2) (l := XH) (by simp))).mono ?_
    rintro e w3 ⟨rfl, hb⟩
    have H3 := hid (H2.out.step hb); clear hb H2 x
    have x := H3.out.cells (g := w1.heap.size + 1) (a := .slice p3 YL.length c3) (b := .slice p4 YH.length c4) (by simp)
    go_wp2_with fail
    refine (HI2.out _ p3 p4 c3 c4 (H3.out.pt (p := r) (l := k) (by simp)) (H3.out.pt (p := p3) (l := YL) (by simp)) (H3.out.pt (p := p4) (l := YH) (by simp))).mono ?_
    rintro e w4 ⟨rfl, hb⟩
    have H4 := hid (H3.out.step hb); clear hb H3 x
    have x := H4.out.cells (g := w1.heap.size) (a := .slice p1 XL.length c1) (b := .slice p2 XH.length c2) (by simp)
    have y := H4.out.cells (g := w.heap.size) (a := .slice p lo.length c) (b := .slice q hi.length c') (by simp)
    go_wp2_with fail
    refine (HC1.out _ p1 p2 c1 c2 (H4.out.pt (p := p1) (l := XL) (by simp)) (H4.out.pt (p := p2) (l := XH) (by simp))).mono ?_
    rintro e w5 ⟨rfl, hb⟩
    have H5 := hid (H4.out.step hb); clear hb H4 x y
    have x := H5.out.cells (g := w1.heap.size + 1) (a := .slice p3 YL.length c3) (b := .slice p4 YH.length c4) (by simp)
    have y := H5.out.cells (g := w.heap.size) (a := .slice p lo.length c) (b := .slice q hi.length c') (by simp)
    go_wp2_with fail
    refine (HC2.out _ p3 p4 c3 c4 (H5.out.pt (p := p3) (l := YL) (by simp)) (H5.out.pt (p := p4) (l := YH) (by simp))).mono ?_
    rintro e w6 ⟨rfl, hb⟩
    have H6 := hid (H5.out.step hb); clear hb H5 x y
    go_wp2_with fail
    refine (HL.out _).mono ?_
    rintro e w7 ⟨rfl, hb⟩
    have H7 := hid (H6.out.step hb); clear hb
    go_wp2_with fail
    go_ret
    exact ⟨rfl, H7.out.below⟩
theorem PartAll_walk (v : Value) (a : Int) (u : Value) (w : World) (h : BoxV w v) (_ : (Lit.int .i64 a).wf = true) (hu : KeyV w u) :
    Calls Try.prog 12 #[v, .int .i64 a, u] w fun e w' => e = .returned (.bool true) ∧ Below w.heap.size w w' := by
  obtain ⟨_, _, rfl, ⟨p, lo, c, rfl, hp, _⟩, ⟨q, hi, c', rfl, hq, _⟩⟩ := h
  obtain ⟨r, k, c'', rfl, hr, _⟩ := hu
  by_cases hb : 6 < k.length ∨ 6 < lo.length ∨ 6 < hi.length
  · exact all_long lo hi k p q r c c' c'' a w hb
  · cases hh : halfB lo hi a with
    | false => exact all_no lo hi k p q r c c' c'' a w hp hq (by omega) (by omega) (by omega) hh
    | true => exact all_yes lo hi k p q r c c' c'' a w hp hq hr (by omega) (by omega) (by omega) hh
end Go.Proofs.Ytkjcbfdplhcjpaa
