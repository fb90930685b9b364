/- Joined of region. -/
import Derived.Test.YtnmhdlincgefeaaRgJM
import Derived.Test.YtnmhdlincgefeaaRgSame
import Derived.Test.YtnmhdlincgefeaaRgSmall
import Derived.Test.YtnmhdlincgefeaaPtHalf4
import Derived.Deep.Cut
namespace Go.Proofs.Ytnmhdlincgefeaa.Rg
open Go.RowKit
open Go.Lib (hid)
open Go.Proofs.Ytnmhdlincgefeaa.Ky
open Go.Proofs.Ytnmhdlincgefeaa.Bk
open Go.Proofs.Ytnmhdlincgefeaa.Pt
open Go.Proofs.Ytnmhdlincgefeaa.Sl (Onl)

/-- the two boxes and what is to be handed back, as they are laid at the beginning -/
structure JEnt (w W : World) (a0 a1 b0 b1 : Value) : Prop where
  below : Below w.heap.size w W
  fst : W.heap[w.heap.size]? = some (.cells #[a0, a1] 43)
  snd : W.heap[w.heap.size + 1]? = some (.cells #[b0, b1] 43)
  out : W.heap[w.heap.size + 1 + 1]? = some (.cells #[Value.slice none 0 0, .slice none 0 0] 43)
  size : W.heap.size = w.heap.size + 3
theorem jent_new (w : World) (a0 a1 b0 b1 : Value) : JEnt w (((w.alloc (.cells #[a0, a1] 43)).alloc (.cells #[b0, b1] 43)).alloc (.cells #[Value.slice none 0 0, .slice none 0 0] 43)) a0 a1 b0 b1 := by
  obtain ⟨h1, h2, h3, h4⟩ := three_new w (.cells #[a0, a1] 43) (.cells #[b0, b1] 43) (.cells #[Value.slice none 0 0, .slice none 0 0] 43)
  exact ⟨((below_alloc w _).alloc (below_alloc w _).size _).alloc ((below_alloc w _).alloc (below_alloc w _).size _).size _, h1, h2, h3, h4⟩
section
variable {w W V : World} {a0 a1 b0 b1 : Value}
theorem JEnt.cells (h : JEnt w W a0 a1 b0 b1) (hb : Below W.heap.size W V) : (V.cell? ⟨w.heap.size, 0, none⟩ = some a0 ∧ V.cell? ⟨w.heap.size, 1, none⟩ = some a1) ∧ (V.cell? ⟨w.heap.size + 1, 0, none⟩ = some b0 ∧ V.cell? ⟨w.heap.size + 1, 1, none⟩ = some b1) := by
  have h1 := two_cells ((hb.block w.heap.size (by have := h.size; omega)).trans h.fst)
  have h2 := two_cells ((hb.block (w.heap.size + 1) (by have := h.size; omega)).trans h.snd)
  exact ⟨⟨h1.1, h1.2.1⟩, ⟨h2.1, h2.2.1⟩⟩
theorem JEnt.outs (h : JEnt w W a0 a1 b0 b1) (hb : Below W.heap.size W V) : V.cell? ⟨w.heap.size + 1 + 1, 0, none⟩ = some (.slice none 0 0) ∧ V.cell? ⟨w.heap.size + 1 + 1, 1, none⟩ = some (.slice none 0 0) ∧ V.frozen? ⟨w.heap.size + 1 + 1, 0, none⟩ = false ∧ V.frozen? ⟨w.heap.size + 1 + 1, 1, none⟩ = false :=
  two_cells ((hb.block _ (by have := h.size; omega)).trans h.out)
theorem JEnt.stored (h : JEnt w W a0 a1 b0 b1) (hb : Below W.heap.size W V) (u v : Value) {V' : World} (hV : V' = (V.setCell ⟨w.heap.size + 1 + 1, 0, none⟩ u).setCell ⟨w.heap.size + 1 + 1, 1, none⟩ v) :
    (V'.cell? ⟨w.heap.size + 1 + 1, 0, none⟩ = some u ∧ V'.cell? ⟨w.heap.size + 1 + 1, 1, none⟩ = some v) ∧ Below w.heap.size w V' ∧ ∀ k, k ≠ w.heap.size + 1 + 1 → V'.heap[k]? = V.heap[k]? := by
  have h1 := (hb.block (w.heap.size + 1 + 1) (by have := h.size; omega)).trans h.out
  have c := two_cells (two_set h1 u v)
  subst hV
  have hw : Below w.heap.size w V := h.below.trans (hb.mono h.below.size)
  refine ⟨⟨c.1, c.2.1⟩, (hw.setCell (p := ⟨_, 0, none⟩) (by show w.heap.size ≤ w.heap.size + 1 + 1; omega) _).setCell (p := ⟨_, 1, none⟩) (by show w.heap.size ≤ w.heap.size + 1 + 1; omega) _, fun k hk => ?_⟩
  rw [Below.heap_setCell _ ⟨_, 1, none⟩ _ _ hk, Below.heap_setCell _ ⟨_, 0, none⟩ _ _ hk]
end
/-- what is handed back -/
def JRet (w : World) (al ah bl bh : List Nat) (r : Option Nat) (e : Ending) (w' : World) : Prop :=
  ∃ p c q c', e = .returned (.tuple #[.agg #[.slice p (jlo al bl r).length c, .slice q (jhi ah bh r).length c'], .int .i64 (((r.getD 0 : Nat)) : Int), .bool r.isSome]) ∧ Pt w' p (jlo al bl r) ∧ Pt w' q (jhi ah bh r) ∧ Below w.heap.size w w'
theorem JRet.none {w w' : World} {al ah bl bh : List Nat} (hb : Below w.heap.size w w') : JRet w al ah bl bh Option.none (.returned (.tuple #[.agg #[.slice Option.none 0 0, .slice Option.none 0 0], .int .i64 0, .bool false])) w' :=
  ⟨Option.none, 0, Option.none, 0, rfl, Pt.nil _ _, Pt.nil _ _, hb⟩
theorem zmin_fit {l m : List Nat} (h : ∀ x ∈ l, x < 4294967296) : ∀ x ∈ zmin l m, x < 4294967296 := by
  unfold zmin
  induction l generalizing m with
  | nil => simp
  | cons a l ih =>
    cases m with
    | nil => simp
    | cons b m =>
      intro x hx
      rw [List.zipWith_cons_cons] at hx
      have ha := h a (by simp)
      rcases List.mem_cons.1 hx with rfl | hx
      · omega
      · exact ih (fun y hy => h y (by simp [hy])) x hx
theorem zmax_fit {l m : List Nat} (h : ∀ x ∈ l, x < 4294967296) (h' : ∀ x ∈ m, x < 4294967296) : ∀ x ∈ zmax l m, x < 4294967296 := by
  unfold zmax
  induction l generalizing m with
  | nil => simp
  | cons a l ih =>
    cases m with
    | nil => simp
    | cons b m =>
      intro x hx
      rw [List.zipWith_cons_cons] at hx
      have ha := h a (by simp)
      have hb := h' b (by simp)
      rcases List.mem_cons.1 hx with rfl | hx
      · omega
      · exact ih (fun y hy => h y (by simp [hy])) (fun y hy => h' y (by simp [hy])) x hx
theorem rw_same {w w' : World} {g : Nat} {l : List Nat} (h : Rw w g l) (he : w'.heap[g]? = w.heap[g]?) : Rw w' g l := by
  obtain ⟨cur, h1, h2⟩ := h
  exact ⟨cur, he.trans h1, h2⟩
theorem two_new (w : World) (o o' : Obj) : ((w.alloc o).alloc o').heap[w.heap.size]? = some o ∧ ((w.alloc o).alloc o').heap[w.heap.size + 1]? = some o' ∧ Below w.heap.size w ((w.alloc o).alloc o') := by
  refine ⟨(Below.heap_alloc _ _ _ (by simp)).trans (heap_alloc_new w o), ?_, (below_alloc w o).alloc (by simp) _⟩
  have := heap_alloc_new (w.alloc o) o'
  rwa [World.size_alloc] at this
theorem hit_true {al ah bl bh : List Nat} {k : Nat} (h : halfB (zmin al bl) (zmax ah bh) (k : Int) = true) : hitB al ah bl bh k = ((sameBoxB (xlo (zmin al bl) (zmax ah bh) (k : Int)) (xhi (zmin al bl) (zmax ah bh) (k : Int)) al ah && sameBoxB (ylo (zmin al bl) (zmax ah bh) (k : Int)) (yhi (zmin al bl) (zmax ah bh) (k : Int)) bl bh) || (sameBoxB (xlo (zmin al bl) (zmax ah bh) (k : Int)) (xhi (zmin al bl) (zmax ah bh) (k : Int)) bl bh && sameBoxB (ylo (zmin al bl) (zmax ah bh) (k : Int)) (yhi (zmin al bl) (zmax ah bh) (k : Int)) al ah)) := by
  unfold hitB twoB; rw [h, Bool.true_and, Bool.true_and]
theorem hit_false {al ah bl bh : List Nat} {k : Nat} (h : halfB (zmin al bl) (zmax ah bh) (k : Int) = false) : hitB al ah bl bh k = false := by
  unfold hitB twoB; rw [h, Bool.false_and, Bool.false_and]; rfl
set_option maxRecDepth 100000 in
set_option maxHeartbeats 4000000 in
theorem joined_bad (al ah bl bh : List Nat) (p q r s : Option Addr) (c1 c2 c3 c4 : Nat) (w : World) (hp : Pt w p al) (hq : Pt w q ah) (hr : Pt w r bl) (hs : Pt w s bh) (hl : al.length ≤ 1000000) (hl2 : bl.length ≤ 1000000) (ho : okJ al ah bl bh = false) :
    Calls Try.prog 17 #[.agg #[.slice p al.length c1, .slice q ah.length c2], .agg #[.slice r bl.length c3, .slice s bh.length c4]] w (JRet w al ah bl bh none) := by
  have HQ := hid (jent_new w (.slice p al.length c1) (.slice q ah.length c2) (.slice r bl.length c3) (.slice s bh.length c4))
  obtain ⟨W, hW⟩ : ∃ W, W = ((w.alloc (.cells #[Value.slice p al.length c1, .slice q ah.length c2] 43)).alloc (.cells #[Value.slice r bl.length c3, .slice s bh.length c4] 43)).alloc (.cells #[Value.slice none 0 0, .slice none 0 0] 43) := ⟨_, rfl⟩
  rw [← hW] at HQ
  have up : ∀ {V : World}, Below W.heap.size W V → Below w.heap.size w V := fun hb => HQ.out.below.trans (hb.mono HQ.out.below.size)
  have HCA := hid fun (V : World) (hb : Below W.heap.size W V) => checkBox_ok al ah p q c1 c2 (al.length : Int) V (hp.below (up hb)) (hq.below (up hb)) (by omega)
  have HCB := hid fun (V : World) (hb : Below W.heap.size W V) => checkBox_ok bl bh r s c3 c4 (al.length : Int) V (hr.below (up hb)) (hs.below (up hb)) (by omega)
  have HUP : Hid (∀ {V : World}, Below W.heap.size W V → Below w.heap.size w V) := hid up
  clear up hp hq hr hs
  have H0 := hid (Below.refl W.heap.size W)
  have x0 := HQ.out.cells H0.out
  cases ha : boxB al ah (al.length : Int) with
  | false =>
    rw [ha] at HCA
    clear ha ho
    go_enter Try.func17, Try.ntmps17
    go_wp2_with fail
    rw [← hW]
    clear hW
    refine (HCA.out _ H0.out).mono ?_
    rintro e w9 ⟨rfl, hb⟩
    rw [err_false false rfl]
    have HB9 := hid (H0.out.trans (hb.mono H0.out.size))
    have x9 := HQ.out.cells HB9.out
    have y9 := HQ.out.outs HB9.out
    clear hb x0
    go_wp2_with fail
    have y2 := HQ.out.stored HB9.out (.slice none 0 0) (.slice none 0 0) rfl
    refine bodyPost_ret (v := .tuple #[.agg #[.slice none 0 0, .slice none 0 0], .int .i64 0, .bool false]) (by simp [results, Try.results17, go_sem, y2.1]) rfl ?_
    exact JRet.none y2.2.1
  | true =>
    have hb : boxB bl bh (al.length : Int) = false := by unfold okJ at ho; rw [ha, Bool.true_and] at ho; exact ho
    rw [ha] at HCA
    rw [hb] at HCB
    clear ha ho hb
    go_enter Try.func17, Try.ntmps17
    go_wp2_with fail
    rw [← hW]
    clear hW
    refine (HCA.out _ H0.out).mono ?_
    rintro e w8 ⟨rfl, hb⟩
    rw [err_true true rfl]
    have HB8 := hid (H0.out.trans (hb.mono H0.out.size))
    have x8 := HQ.out.cells HB8.out
    clear hb x0
    go_wp2_with fail
    refine (HCB.out _ HB8.out).mono ?_
    rintro e w9 ⟨rfl, hb⟩
    rw [err_false false rfl]
    have HB9 := hid (HB8.out.trans (hb.mono HB8.out.size))
    have x9 := HQ.out.cells HB9.out
    have y9 := HQ.out.outs HB9.out
    clear hb x8
    go_wp2_with fail
    have y2 := HQ.out.stored HB9.out (.slice none 0 0) (.slice none 0 0) rfl
    refine bodyPost_ret (v := .tuple #[.agg #[.slice none 0 0, .slice none 0 0], .int .i64 0, .bool false]) (by simp [results, Try.results17, go_sem, y2.1]) rfl ?_
    exact JRet.none y2.2.1
-- PRE
def putsJa (a : Act) (u62 u65 u66 u8 : Value) : Act := (((a.put (some 29) u62).put (some 32) u65).put (some 33) u66).put (some 8) u8
def opsJa : Array Oper := #[{ dst := some 27, op := Op.fieldAddr 43 (Operand.tmp 2) 0, type := 0, pos := "region.go:46", after := #[], guard := none }, { dst := some 28, op := Op.load 41 (Operand.tmp 27), type := 41, pos := "region.go:46", after := #[{ on := 0, ground := Ground.data }], guard := none }, { dst := some 29, op := Op.call { callee := Callee.value (Operand.func 31), args := #[Operand.tmp 28], argTypes := #[41] }, type := 41, pos := "region.go:46", after := #[{ on := 1, ground := Ground.data }], guard := none }, { dst := some 30, op := Op.fieldAddr 43 (Operand.tmp 2) 1, type := 0, pos := "region.go:46", after := #[], guard := none }, { dst := some 31, op := Op.load 41 (Operand.tmp 30), type := 41, pos := "region.go:46", after := #[{ on := 3, ground := Ground.data }], guard := none }, { dst := some 32, op := Op.call { callee := Callee.value (Operand.func 31), args := #[Operand.tmp 31], argTypes := #[41] }, type := 41, pos := "region.go:46", after := #[{ on := 4, ground := Ground.data }, { on := 2, ground := Ground.chain }], guard := none }, { dst := some 33, op := Op.build 43 #[(0, Operand.tmp 29), (1, Operand.tmp 32)], type := 43, pos := "region.go:46", after := #[{ on := 2, ground := Ground.data }, { on := 5, ground := Ground.data }], guard := none }, { dst := some 8, op := Op.alloc 43, type := 0, pos := "region.go:46", after := #[], guard := none }, { dst := none, op := Op.store 43 (Operand.tmp 8) (Operand.tmp 33), type := 0, pos := "region.go:46", after := #[{ on := 7, ground := Ground.data }, { on := 6, ground := Ground.data }, { on := 5, ground := Ground.chain }, { on := 0, ground := Ground.phase }, { on := 1, ground := Ground.phase }, { on := 2, ground := Ground.phase }, { on := 3, ground := Ground.phase }, { on := 4, ground := Ground.phase }, { on := 5, ground := Ground.phase }, { on := 6, ground := Ground.phase }, { on := 7, ground := Ground.phase }], guard := none }]
theorem readyJab : ∀ f2 f5 f6 f7 f8 : Bool, ((Region.ready .any opsJa #[true, true, f2, true, true, f5, f6, f7, f8]).all fun i => (decide (i = 2) && !f2) || ((decide (i = 5) && (!f5 && f2)) || ((decide (i = 6) && (!f6 && (f2 && f5))) || ((decide (i = 7) && !f7) || (decide (i = 8) && (!f8 && (f2 && (f5 && (f6 && f7))))))))) = true := by decide +kernel
theorem readyJa (f2 f5 f6 f7 f8 : Bool) (i : Nat) (h : i ∈ Region.ready .any opsJa #[true, true, f2, true, true, f5, f6, f7, f8]) : (i = 2 ∧ f2 = false) ∨ (i = 5 ∧ f5 = false ∧ f2 = true) ∨ (i = 6 ∧ f6 = false ∧ f2 = true ∧ f5 = true) ∨ (i = 7 ∧ f7 = false) ∨ (i = 8 ∧ f8 = false ∧ f2 = true ∧ f5 = true ∧ f6 = true ∧ f7 = true) := by
  have := List.all_eq_true.1 (readyJab f2 f5 f6 f7 f8) i h
  simpa only [Bool.or_eq_true, Bool.and_eq_true, decide_eq_true_eq, Bool.not_eq_true'] using this
theorem doneJa : ∀ f2 f5 f6 f7 f8 : Bool, Region.ready .any opsJa #[true, true, f2, true, true, f5, f6, f7, f8] = [] → f2 = true ∧ f5 = true ∧ f6 = true ∧ f7 = true ∧ f8 = true := by decide +kernel
-- ENDPRE
set_option maxRecDepth 100000 in
set_option maxHeartbeats 8000000 in
theorem joined_ok (al ah bl bh : List Nat) (p q r s : Option Addr) (c1 c2 c3 c4 : Nat) (w : World) (hp : Pt w p al) (hq : Pt w q ah) (hr : Pt w r bl) (hs : Pt w s bh) (ho : okJ al ah bl bh = true) :
    Calls Try.prog 17 #[.agg #[.slice p al.length c1, .slice q ah.length c2], .agg #[.slice r bl.length c3, .slice s bh.length c4]] w (JRet w al ah bl bh (joinL al ah bl bh)) := by
  obtain ⟨l1, l2, l3, l4, l5⟩ := okJ_len ho
  have HQ := hid (jent_new w (.slice p al.length c1) (.slice q ah.length c2) (.slice r bl.length c3) (.slice s bh.length c4))
  obtain ⟨W, hW⟩ : ∃ W, W = ((w.alloc (.cells #[Value.slice p al.length c1, .slice q ah.length c2] 43)).alloc (.cells #[Value.slice r bl.length c3, .slice s bh.length c4] 43)).alloc (.cells #[Value.slice none 0 0, .slice none 0 0] 43) := ⟨_, rfl⟩
  rw [← hW] at HQ
  have up : ∀ {V : World}, Below W.heap.size W V → Below w.heap.size w V := fun hb => HQ.out.below.trans (hb.mono HQ.out.below.size)
  have HCA := hid fun (V : World) (hb : Below W.heap.size W V) => checkBox_ok al ah p q c1 c2 (al.length : Int) V (hp.below (up hb)) (hq.below (up hb)) (by omega)
  have HCB := hid fun (V : World) (hb : Below W.heap.size W V) => checkBox_ok bl bh r s c3 c4 (al.length : Int) V (hr.below (up hb)) (hs.below (up hb)) (by omega)
  have hab : boxB al ah (al.length : Int) = true ∧ boxB bl bh (al.length : Int) = true := by unfold okJ at ho; rwa [Bool.and_eq_true] at ho
  rw [hab.1] at HCA
  rw [hab.2] at HCB
  have HUP : Hid (∀ {V : World}, Below W.heap.size W V → Below w.heap.size w V) := hid up
  have HPP := hid hp; have HPQ := hid hq; have HPR := hid hr; have HPS := hid hs; have HOK := hid ho
  have HL1 := hid l1; have HL2 := hid l2; have HL3 := hid l3; have HL4 := hid l4; have HL5 := hid l5
  have HN1 := hid (show 0 < al.length by omega)
  have HN2 := hid (show 0 < ah.length by omega)
  clear up hp hq hr hs ho hab l1 l2 l3 l4 l5
  have H0 := hid (Below.refl W.heap.size W)
  have x0 := HQ.out.cells H0.out
  go_enter Try.func17, Try.ntmps17
  go_wp2_with fail
  rw [← hW]
  clear hW
  refine (HCA.out _ H0.out).mono ?_
  rintro e w8 ⟨rfl, hb⟩
  rw [err_true true rfl]
  have HB8 := hid (H0.out.trans (hb.mono H0.out.size))
  have x8 := HQ.out.cells HB8.out
  clear hb x0
  go_wp2_with fail
  refine (HCB.out _ HB8.out).mono ?_
  rintro e w9 ⟨rfl, hb⟩
  rw [err_true true rfl]
  have HB9 := hid (HB8.out.trans (hb.mono HB8.out.size))
  have z1 := HQ.out.cells HB9.out
  have HX := hid fun (V : World) (hb : Below W.heap.size W V) => HQ.out.cells hb
  have HCL := hid fun (V : World) (hb : Below w9.heap.size w9 V) => clone_row al p c1 V (HPP.out.below (HUP.out (HB9.out.trans (hb.mono HB9.out.size)))) HN1.out (by have := HL5.out; omega)
  have HCH := hid fun (V : World) (hb : Below w9.heap.size w9 V) => clone_row ah q c2 V (HPQ.out.below (HUP.out (HB9.out.trans (hb.mono HB9.out.size)))) HN2.out (by have := HL5.out; have := HL1.out; omega)
  clear hb x8 HCA HCB
  go_upto_region 4 with (fail)
  go_cut [8] (fun s8 wx => OneP w9 al ah al.length ah.length s8 wx)
  case first =>
-- CUT
    refine wp_region_held_drew (S := (fun V => V.cell? ⟨w.heap.size, 0, none⟩ = some (.slice p al.length c1) ∧ V.cell? ⟨w.heap.size, 1, none⟩ = some (.slice q ah.length c2))) (by kernel_rfl) (by exact (HX.out _ HB9.out.drew).1) (fun hHeld => ?_)
    refine wpAnyH_take (i := 0) (oi := { dst := some 27, op := Op.fieldAddr 43 (Operand.tmp 2) 0, type := 0, pos := "region.go:46", after := #[], guard := none }) (v := ?va0) rfl (by kernel_rfl) (by kernel_rfl) (by kernel_rfl) (fun _ _ _ h => h) (Or.inl ⟨by rfl, ?hya0⟩) (by assumption) ?resta0
    case hya0 => (intro w hSw; (try dsimp only at hSw); go_simp; (try with_reducible rfl))
    simp only [Act.put, List.setIfInBounds_toArray, List.set_cons_zero, List.set_cons_succ]
    refine wpAnyH_take (i := 1) (oi := { dst := some 28, op := Op.load 41 (Operand.tmp 27), type := 41, pos := "region.go:46", after := #[{ on := 0, ground := Ground.data }], guard := none }) (v := ?va1) rfl (by kernel_rfl) (by kernel_rfl) (by kernel_rfl) (fun _ _ _ h => h) (Or.inl ⟨by rfl, ?hya1⟩) (by assumption) ?resta1
    case hya1 => (intro w hSw; (try dsimp only at hSw); go_simp; (try with_reducible rfl))
    simp only [Act.put, List.setIfInBounds_toArray, List.set_cons_zero, List.set_cons_succ]
    refine wpAnyH_take (i := 3) (oi := { dst := some 30, op := Op.fieldAddr 43 (Operand.tmp 2) 1, type := 0, pos := "region.go:46", after := #[], guard := none }) (v := ?va3) rfl (by kernel_rfl) (by kernel_rfl) (by kernel_rfl) (fun _ _ _ h => h) (Or.inl ⟨by rfl, ?hya3⟩) (by assumption) ?resta3
    case hya3 => (intro w hSw; (try dsimp only at hSw); go_simp; (try with_reducible rfl))
    simp only [Act.put, List.setIfInBounds_toArray, List.set_cons_zero, List.set_cons_succ]
    refine wpAnyH_take (i := 4) (oi := { dst := some 31, op := Op.load 41 (Operand.tmp 30), type := 41, pos := "region.go:46", after := #[{ on := 3, ground := Ground.data }], guard := none }) (v := ?va4) rfl (by kernel_rfl) (by kernel_rfl) (by kernel_rfl) (fun _ _ _ h => h) (Or.inl ⟨by rfl, ?hya4⟩) (by assumption) ?resta4
    case hya4 => (intro w hSw; (try dsimp only at hSw); go_simp; (try with_reducible rfl))
    simp only [Act.put, List.setIfInBounds_toArray, List.set_cons_zero, List.set_cons_succ]
    refine inv_start fun A0 hA0 => ?_
    refine wpAnyH_inv (fun l a v => ∃ f2 f5 f6 f7 f8 u62 u65 u66 u8 a1 c1 a2 c2 g, l = #[true, true, f2, true, true, f5, f6, f7, f8] ∧ a = putsJa A0 u62 u65 u66 u8 ∧ KK w9 al ah al.length ah.length f2 f5 f6 f7 f8 u62 u65 u66 u8 a1 c1 a2 c2 g v) ?hS ?hst ?hen _ _ _ _ ?hI ?hl
    case hS =>
      rintro l a v ⟨_, _, _, _, _, _, _, _, _, _, _, _, _, _, _, _, hj⟩
      exact (HX.out _ (HB9.out.trans (hj.below.mono HB9.out.size))).1
    case hI =>
      exact ⟨false, false, false, false, false, _, _, _, _, 0, 0, 0, 0, 0, rfl, by rw [hA0]; rfl, ⟨(Below.refl _ _).drew, nofun, nofun, nofun, nofun, nofun⟩⟩
    case hl => decide
    case hen =>
      rintro l a v ⟨f2, f5, f6, f7, f8, u62, u65, u66, u8, a1, c1, a2, c2, g, rfl, rfl, hj⟩ hr
      obtain ⟨rfl, rfl, rfl, rfl, rfl⟩ := doneJa _ _ _ _ _ hr
      have HJ := hid hj.fin
      clear hj hr
      subst hA0
      simp only [putsJa, Act.put, List.setIfInBounds_toArray, List.set_cons_zero, List.set_cons_succ]
      go_wp2_with fail
      go_meet
      exact HJ.out
    case hst =>
      rintro l a v i ⟨f2, f5, f6, f7, f8, u62, u65, u66, u8, a1, c1, a2, c2, g, rfl, rfl, hj⟩ hi
      have HJ := hid hj
      have HBv := hid hj.below
      clear hj
      rcases readyJa _ _ _ _ _ _ hi with ⟨rfl, rfl⟩ | ⟨rfl, rfl, rfl⟩ | ⟨rfl, rfl, rfl, rfl⟩ | ⟨rfl, rfl⟩ | ⟨rfl, rfl, rfl, rfl, rfl, rfl⟩
      all_goals clear hi
      · refine op_step (i := 2) (o := { dst := some 29, op := Op.call { callee := Callee.value (Operand.func 31), args := #[Operand.tmp 28], argTypes := #[41] }, type := 41, pos := "region.go:46", after := #[{ on := 1, ground := Ground.data }], guard := none }) rfl (fun K hK => ?_)
        subst hA0
        simp only [putsJa, Act.put, List.setIfInBounds_toArray, List.set_cons_zero, List.set_cons_succ]
        go_simp
        go_at_call 31
        refine (HCL.out _ HBv.out).mono ?_
        rintro e w4 ⟨a, c5, rfl, hr, hg, hb⟩
        refine hK.out _ _ ?_
        exact ⟨true, f5, f6, f7, f8, _, _, _, _, a, c5, _, _, _, rfl, rfl, HJ.out.call1 hr hg hb⟩
      · refine op_step (i := 5) (o := { dst := some 32, op := Op.call { callee := Callee.value (Operand.func 31), args := #[Operand.tmp 31], argTypes := #[41] }, type := 41, pos := "region.go:46", after := #[{ on := 4, ground := Ground.data }, { on := 2, ground := Ground.chain }], guard := none }) rfl (fun K hK => ?_)
        subst hA0
        simp only [putsJa, Act.put, List.setIfInBounds_toArray, List.set_cons_zero, List.set_cons_succ]
        go_simp
        go_at_call 31
        refine (HCH.out _ HBv.out).mono ?_
        rintro e w4 ⟨a, c5, rfl, hr, hg, hb⟩
        refine hK.out _ _ ?_
        exact ⟨true, true, f6, f7, f8, _, _, _, _, _, _, a, c5, _, rfl, rfl, HJ.out.call2 hr hg hb⟩
      · refine op_step (i := 6) (o := { dst := some 33, op := Op.build 43 #[(0, Operand.tmp 29), (1, Operand.tmp 32)], type := 43, pos := "region.go:46", after := #[{ on := 2, ground := Ground.data }, { on := 5, ground := Ground.data }], guard := none }) rfl (fun K hK => ?_)
        subst hA0
        obtain ⟨rfl, _⟩ := HJ.out.k2 rfl
        obtain ⟨_, rfl, _⟩ := HJ.out.k5 rfl
        simp only [putsJa, Act.put, List.setIfInBounds_toArray, List.set_cons_zero, List.set_cons_succ]
        go_simp
        refine hK.out _ _ ?_
        exact ⟨true, true, true, f7, f8, _, _, _, _, _, _, _, _, _, rfl, rfl, HJ.out.bld⟩
      · refine op_step (i := 7) (o := { dst := some 8, op := Op.alloc 43, type := 0, pos := "region.go:46", after := #[], guard := none }) rfl (fun K hK => ?_)
        subst hA0
        simp only [putsJa, Act.put, List.setIfInBounds_toArray, List.set_cons_zero, List.set_cons_succ]
        go_simp
        refine hK.out _ _ ?_
        exact ⟨f2, f5, f6, true, f8, _, _, _, _, _, _, _, _, _, rfl, rfl, HJ.out.al⟩
      · refine op_step (i := 8) (o := { dst := none, op := Op.store 43 (Operand.tmp 8) (Operand.tmp 33), type := 0, pos := "region.go:46", after := #[{ on := 7, ground := Ground.data }, { on := 6, ground := Ground.data }, { on := 5, ground := Ground.chain }, { on := 0, ground := Ground.phase }, { on := 1, ground := Ground.phase }, { on := 2, ground := Ground.phase }, { on := 3, ground := Ground.phase }, { on := 4, ground := Ground.phase }, { on := 5, ground := Ground.phase }, { on := 6, ground := Ground.phase }, { on := 7, ground := Ground.phase }], guard := none }) rfl (fun K hK => ?_)
        subst hA0
        obtain ⟨rfl, _⟩ := HJ.out.k7 rfl
        obtain ⟨_, _, rfl⟩ := HJ.out.k6 rfl
        have zz := HJ.out.zero
        simp only [putsJa, Act.put, List.setIfInBounds_toArray, List.set_cons_zero, List.set_cons_succ]
        go_simp
        refine hK.out _ _ ?_
        exact ⟨true, true, true, true, true, _, _, _, _, _, _, _, _, _, rfl, rfl, HJ.out.st HN1.out HN2.out⟩
-- ENDCUT
  case rest =>
    obtain ⟨g7, a1, k1, a2, k2, rfl, v1, v2, v3, v4, v5, v6, v7⟩ := hcut
    rename World => V1
    have hlt : w.heap.size + 3 ≤ w9.heap.size := by have := HQ.out.size; have := HB9.out.size; omega
    have HB1 := hid (HB9.out.trans (v7.mono HB9.out.size))
    have hpr := HPR.out.below (HUP.out HB1.out)
    have hps := HPS.out.below (HUP.out HB1.out)
    have sep : ∀ {o : Option Addr} {l : List Nat}, Pt w o l → 0 < l.length → ∀ b off, o = some ⟨b, off, none⟩ → b ≠ a1 ∧ b ≠ a2 := fun h h0 b off e => by
      obtain ⟨b', off', e', hb', _⟩ := h.cells 0 h0
      rw [e] at e'; injection e' with e'; injection e' with e'
      omega
    have HW := hid (widenU_ok al ah bl bh a1 a2 r s k1 k2 c3 c4 V1 HL2.out (HL1.out.symm.trans HL3.out) (HL2.out.symm.trans HL3.out) (by have := HL5.out; have := HL2.out; omega) v3 v4 (by omega) hpr hps (sep HPR.out (by have := HL4.out; have := HL2.out; omega)) (sep HPS.out (by have := HL4.out; have := HL3.out; omega)))
    have n1 := v3.ne_two HN1.out v2 (by simp)
    have n2 := v4.ne_two HN2.out v2 (by simp)
    have HA1 := hid (And.intro v5 (And.intro v6 (And.intro v3.lt v4.lt)))
    have HG7 := hid v2
    have z2 := HX.out _ HB1.out
    have zg := two_cells v2
    clear hpr hps sep z1 v1 v2 v3 v4 v7 HCL HCH
    go_wp2_with fail
    refine HW.out.mono ?_
    rintro e V2 ⟨rfl, m1, m2, mo⟩
    have HB2 := hid (HB1.out.trans (mo.below HB1.out.size (fun k hk => by have := HB9.out.size; rcases hk with rfl | rfl <;> omega)))
    have hg2 : V2.heap[g7]? = some (.cells #[.slice (some ⟨a1, 0, none⟩) al.length k1, .slice (some ⟨a2, 0, none⟩) ah.length k2] 43) := (mo.block g7 (Array.getElem?_eq_some_iff.1 HG7.out).1 (fun e => by rcases e with e | e; exact n1 e.symm; exact n2 e.symm)).trans HG7.out
    have HM1 := hid m1; have HM2 := hid m2; have HG2 := hid hg2
    have zg2 := two_cells hg2
    have HFL : Hid (∀ x ∈ zmin al bl, x < 4294967296) := hid (zmin_fit (mem_of HPP.out.fit))
    have HFH : Hid (∀ x ∈ zmax ah bh, x < 4294967296) := hid (zmax_fit (mem_of HPQ.out.fit) (mem_of HPS.out.fit))
    have HZL := hid (show (zmin al bl).length = al.length from zmin_len HL2.out)
    have HZH := hid (show (zmax ah bh).length = ah.length from zmax_len (HL1.out.symm.trans HL3.out))
    clear m1 m2 mo hg2 zg z2 n1 n2 HW
    have hal := HL5.out
    go_wp2_with fail
    go_loopw [46] (fun i wr => ∃ k : Nat, k ≤ al.length ∧ i = .int .i64 (k : Int) ∧ (∀ j, j < k → hitB al ah bl bh j = false) ∧ Below V2.heap.size V2 wr) (fun i _ => al.length - (intOf i).toNat)
    case atStart => exact ⟨0, Nat.zero_le _, rfl, fun j hj => absurd hj (Nat.not_lt_zero _), Below.refl _ _⟩
    case round =>
      obtain ⟨k, hk, rfl, hno, hb⟩ := hrel
      have HBR := hid (HB2.out.trans (hb.mono HB2.out.size))
      have HBV := hid hb
      have HG3 := hid ((hb.block g7 (Array.getElem?_eq_some_iff.1 HG2.out).1).trans HG2.out)
      have HR1 := hid (HM1.out.below hb); have HR2 := hid (HM2.out.below hb)
      have HNO := hid hno
      have zr := two_cells HG3.out
      clear zg2 hno hb
      by_cases hlt2 : k < al.length
      · have hh := halves_ok (zmin al bl) (zmax ah bh) (some ⟨a1, 0, none⟩) (some ⟨a2, 0, none⟩) k1 k2 (k : Int) wr (HR1.out.pt HFL.out) (HR2.out.pt HFH.out) (by rw [HZL.out]; omega)
        rw [HZL.out, HZH.out] at hh
        have HHV := hid hh
        clear hh
        go_wp2_with fail
        refine HHV.out.mono ?_
        rintro e w3 ⟨p1, d1, p2, d2, p3, d3, p4, d4, rfl, q1, q2, q3, q4, hb3⟩
        have HB3 := hid (HBR.out.trans (hb3.mono HBR.out.size))
        have HV3 := hid (HBV.out.trans (hb3.mono HBV.out.size))
        obtain ⟨t1, t2, t3⟩ := two_new w3 (.cells #[.slice p1 (xlo (zmin al bl) (zmax ah bh) (k : Int)).length d1, .slice p2 (xhi (zmin al bl) (zmax ah bh) (k : Int)).length d2] 43) (.cells #[.slice p3 (ylo (zmin al bl) (zmax ah bh) (k : Int)).length d3, .slice p4 (yhi (zmin al bl) (zmax ah bh) (k : Int)).length d4] 43)
        cases hf : halfB (zmin al bl) (zmax ah bh) (k : Int) with
        | false =>
          have HH := hid (hit_false hf)
          have HV4 := hid (HV3.out.trans (t3.mono HV3.out.size))
          clear t1 t2 t3 q1 q2 q3 q4 hb3 hf zr
          go_wp2_with fail
          go_roundw
          case rel => exact ⟨k + 1, by omega, by go_num, fun j hj => by rcases Nat.lt_succ_iff_lt_or_eq.1 hj with h | rfl; exact HNO.out j h; exact HH.out, HV4.out⟩
          case measure => simp [intOf]; omega
        | true =>
          have HH := hit_true (al := al) (ah := ah) (bl := bl) (bh := bh) hf
          obtain ⟨e1, e2, e3, e4⟩ := half_eqs hf
          have L1 : (xlo (zmin al bl) (zmax ah bh) (k : Int)).length ≤ 1000000 := by rw [e1, HZL.out]; omega
          have L2 : (xhi (zmin al bl) (zmax ah bh) (k : Int)).length ≤ 1000000 := by rw [e2, List.length_set, HZH.out, ← HL1.out]; omega
          have L3 : (ylo (zmin al bl) (zmax ah bh) (k : Int)).length ≤ 1000000 := by rw [e3, List.length_set, HZL.out]; omega
          have L4 : (yhi (zmin al bl) (zmax ah bh) (k : Int)).length ≤ 1000000 := by rw [e4, HZH.out, ← HL1.out]; omega
          clear e1 e2 e3 e4
          generalize xlo (zmin al bl) (zmax ah bh) (k : Int) = X1 at *
          generalize xhi (zmin al bl) (zmax ah bh) (k : Int) = X2 at *
          generalize ylo (zmin al bl) (zmax ah bh) (k : Int) = X3 at *
          generalize yhi (zmin al bl) (zmax ah bh) (k : Int) = X4 at *
          obtain ⟨V4, hV4⟩ : ∃ V4, (w3.alloc (.cells #[.slice p1 X1.length d1, .slice p2 X2.length d2] 43)).alloc (.cells #[.slice p3 X3.length d3, .slice p4 X4.length d4] 43) = V4 := ⟨_, rfl⟩
          rw [hV4] at t1 t2 t3
          have HB4 := hid (HB3.out.trans (t3.mono HB3.out.size))
          have HV4 := hid (HV3.out.trans (t3.mono HV3.out.size))
          have HXY : Hid (∀ V : World, Below V4.heap.size V4 V → ((V.cell? ⟨w.heap.size, 0, none⟩ = some (.slice p al.length c1) ∧ V.cell? ⟨w.heap.size, 1, none⟩ = some (.slice q ah.length c2)) ∧ (V.cell? ⟨w.heap.size + 1, 0, none⟩ = some (.slice r bl.length c3) ∧ V.cell? ⟨w.heap.size + 1, 1, none⟩ = some (.slice s bh.length c4))) ∧
              ((V.cell? ⟨w3.heap.size, 0, none⟩ = some (.slice p1 X1.length d1) ∧ V.cell? ⟨w3.heap.size, 1, none⟩ = some (.slice p2 X2.length d2)) ∧ (V.cell? ⟨w3.heap.size + 1, 0, none⟩ = some (.slice p3 X3.length d3) ∧ V.cell? ⟨w3.heap.size + 1, 1, none⟩ = some (.slice p4 X4.length d4)))) := hid fun V hV => by
            have g1 := two_cells ((hV.block w3.heap.size (Array.getElem?_eq_some_iff.1 t1).1).trans t1)
            have g2 := two_cells ((hV.block (w3.heap.size + 1) (Array.getElem?_eq_some_iff.1 t2).1).trans t2)
            exact ⟨HX.out V (HB4.out.trans (hV.mono HB4.out.size)), ⟨g1.1, g1.2.1⟩, ⟨g2.1, g2.2.1⟩⟩
          have QX := hid (And.intro (q1.below t3) (And.intro (q2.below t3) (And.intro (q3.below t3) (q4.below t3))))
          have HS1 := hid fun (V : World) (hV : Below V4.heap.size V4 V) => sameC_ok X1 X2 al ah p1 p2 p q d1 d2 c1 c2 V (QX.out.1.below hV) (QX.out.2.1.below hV) (HPP.out.below (HUP.out (HB4.out.trans (hV.mono HB4.out.size)))) (HPQ.out.below (HUP.out (HB4.out.trans (hV.mono HB4.out.size)))) L1 L2
          have HS2 := hid fun (V : World) (hV : Below V4.heap.size V4 V) => sameC_ok X3 X4 bl bh p3 p4 r s d3 d4 c3 c4 V (QX.out.2.2.1.below hV) (QX.out.2.2.2.below hV) (HPR.out.below (HUP.out (HB4.out.trans (hV.mono HB4.out.size)))) (HPS.out.below (HUP.out (HB4.out.trans (hV.mono HB4.out.size)))) L3 L4
          have HS3 := hid fun (V : World) (hV : Below V4.heap.size V4 V) => sameC_ok X1 X2 bl bh p1 p2 r s d1 d2 c3 c4 V (QX.out.1.below hV) (QX.out.2.1.below hV) (HPR.out.below (HUP.out (HB4.out.trans (hV.mono HB4.out.size)))) (HPS.out.below (HUP.out (HB4.out.trans (hV.mono HB4.out.size)))) L1 L2
          have HS4 := hid fun (V : World) (hV : Below V4.heap.size V4 V) => sameC_ok X3 X4 al ah p3 p4 p q d3 d4 c1 c2 V (QX.out.2.2.1.below hV) (QX.out.2.2.2.below hV) (HPP.out.below (HUP.out (HB4.out.trans (hV.mono HB4.out.size)))) (HPQ.out.below (HUP.out (HB4.out.trans (hV.mono HB4.out.size)))) L3 L4
          generalize sameBoxB X1 X2 al ah = s1 at HS1 HH
          generalize sameBoxB X3 X4 bl bh = s2 at HS2 HH
          generalize sameBoxB X1 X2 bl bh = s3 at HS3 HH
          generalize sameBoxB X3 X4 al ah = s4 at HS4 HH
          have HC := hid (Below.refl V4.heap.size V4)
          have HHH := hid HH
          have HG4 : Hid (∀ V : World, Below V4.heap.size V4 V → V.heap[g7]? = some (.cells #[.slice (some ⟨a1, 0, none⟩) al.length k1, .slice (some ⟨a2, 0, none⟩) ah.length k2] 43)) := hid fun V hV => (hV.block g7 (Nat.lt_of_lt_of_le (Array.getElem?_eq_some_iff.1 HG2.out).1 HV4.out.size)).trans ((HV4.out.block g7 (Array.getElem?_eq_some_iff.1 HG2.out).1).trans HG2.out)
          have z4 := HXY.out _ HC.out
          clear L1 L2 L3 L4 t1 t2 t3 q1 q2 q3 q4 hb3 hf zr HH
          go_wp2_with fail
          clear hV4
          -- the four calls, whatever they answer
          have fin : ∀ V : World, Below V4.heap.size V4 V → JRet w al ah bl bh (some k) (.returned (.tuple #[.agg #[.slice (some ⟨a1, 0, none⟩) al.length k1, .slice (some ⟨a2, 0, none⟩) ah.length k2], .int .i64 (k : Int), .bool true])) ((V.setCell ⟨w.heap.size + 1 + 1, 0, none⟩ (.slice (some ⟨a1, 0, none⟩) al.length k1)).setCell ⟨w.heap.size + 1 + 1, 1, none⟩ (.slice (some ⟨a2, 0, none⟩) ah.length k2)) := fun V hV => by
            have y2 := HQ.out.stored (HB4.out.trans (hV.mono HB4.out.size)) (.slice (some ⟨a1, 0, none⟩) al.length k1) (.slice (some ⟨a2, 0, none⟩) ah.length k2) rfl
            have hs9 := HQ.out.size
            have hs8 := HB9.out.size
            have ha := HA1.out
            have hb2 := HV4.out.trans (hV.mono HV4.out.size)
            refine ⟨_, k1, _, k2, by simp only [jlo, jhi, HZL.out, HZH.out]; rfl, (rw_same (HM1.out.below hb2) (y2.2.2 _ (by omega))).pt HFL.out, (rw_same (HM2.out.below hb2) (y2.2.2 _ (by omega))).pt HFH.out, y2.2.1⟩
          have FIN := hid fin
          clear fin
          cases s1 with
          | true =>
            refine (HS1.out _ HC.out).mono ?_
            rintro e w5 ⟨rfl, hb⟩
            have HC := hid (HC.out.trans (hb.mono HC.out.size))
            clear hb z4
            have z4 := HXY.out _ HC.out
            go_wp2_with fail
            cases s2 with
            | true =>
              refine (HS2.out _ HC.out).mono ?_
              rintro e w5 ⟨rfl, hb⟩
              have HC := hid (HC.out.trans (hb.mono HC.out.size))
              clear hb z4
              have z4 := HXY.out _ HC.out
              have hg4 := two_cells (HG4.out _ HC.out)
              have y9 := HQ.out.outs (HB4.out.trans (HC.out.mono HB4.out.size))
              have HJ := hid (joinL_some HOK.out hlt2 HHH.out HNO.out)
              have y2 := HQ.out.stored (HB4.out.trans (HC.out.mono HB4.out.size)) (.slice (some ⟨a1, 0, none⟩) al.length k1) (.slice (some ⟨a2, 0, none⟩) ah.length k2) rfl
              have HY := hid y2
              clear y2
              go_wp2_with fail
              have y2 := HY.out
              refine bodyPost_ret (v := .tuple #[.agg #[.slice (some ⟨a1, 0, none⟩) al.length k1, .slice (some ⟨a2, 0, none⟩) ah.length k2], .int .i64 (k : Int), .bool true]) (by simp [results, Try.results17, go_sem, y2.1]) rfl ?_
              rw [HJ.out]
              exact FIN.out _ HC.out
            | false =>
              refine (HS2.out _ HC.out).mono ?_
              rintro e w5 ⟨rfl, hb⟩
              have HC := hid (HC.out.trans (hb.mono HC.out.size))
              clear hb z4
              have z4 := HXY.out _ HC.out
              go_wp2_with fail
              cases s3 with
              | true =>
                refine (HS3.out _ HC.out).mono ?_
                rintro e w5 ⟨rfl, hb⟩
                have HC := hid (HC.out.trans (hb.mono HC.out.size))
                clear hb z4
                have z4 := HXY.out _ HC.out
                go_wp2_with fail
                cases s4 with
                | true =>
                  refine (HS4.out _ HC.out).mono ?_
                  rintro e w5 ⟨rfl, hb⟩
                  have HC := hid (HC.out.trans (hb.mono HC.out.size))
                  clear hb z4
                  have z4 := HXY.out _ HC.out
                  have hg4 := two_cells (HG4.out _ HC.out)
                  have y9 := HQ.out.outs (HB4.out.trans (HC.out.mono HB4.out.size))
                  have HJ := hid (joinL_some HOK.out hlt2 HHH.out HNO.out)
                  have y2 := HQ.out.stored (HB4.out.trans (HC.out.mono HB4.out.size)) (.slice (some ⟨a1, 0, none⟩) al.length k1) (.slice (some ⟨a2, 0, none⟩) ah.length k2) rfl
                  have HY := hid y2
                  clear y2
                  go_wp2_with fail
                  have y2 := HY.out
                  refine bodyPost_ret (v := .tuple #[.agg #[.slice (some ⟨a1, 0, none⟩) al.length k1, .slice (some ⟨a2, 0, none⟩) ah.length k2], .int .i64 (k : Int), .bool true]) (by simp [results, Try.results17, go_sem, y2.1]) rfl ?_
                  rw [HJ.out]
                  exact FIN.out _ HC.out
                | false =>
                  refine (HS4.out _ HC.out).mono ?_
                  rintro e w5 ⟨rfl, hb⟩
                  have HC := hid (HC.out.trans (hb.mono HC.out.size))
                  clear hb z4
                  have z4 := HXY.out _ HC.out
                  have HH0 := hid (show hitB al ah bl bh k = false from HHH.out)
                  have HV5 := hid (HV4.out.trans (HC.out.mono HV4.out.size))
                  go_wp2_with fail
                  go_roundw
                  case rel => exact ⟨k + 1, by omega, by go_num, fun j hj => by rcases Nat.lt_succ_iff_lt_or_eq.1 hj with h | rfl; exact HNO.out j h; exact HH0.out, HV5.out⟩
                  case measure => simp [intOf]; omega
              | false =>
                refine (HS3.out _ HC.out).mono ?_
                rintro e w5 ⟨rfl, hb⟩
                have HC := hid (HC.out.trans (hb.mono HC.out.size))
                clear hb z4
                have z4 := HXY.out _ HC.out
                cases s4
                all_goals
                  have HH0 := hid (show hitB al ah bl bh k = false from HHH.out)
                  have HV5 := hid (HV4.out.trans (HC.out.mono HV4.out.size))
                  go_wp2_with fail
                  go_roundw
                  case rel => exact ⟨k + 1, by omega, by go_num, fun j hj => by rcases Nat.lt_succ_iff_lt_or_eq.1 hj with h | rfl; exact HNO.out j h; exact HH0.out, HV5.out⟩
                  case measure => simp [intOf]; omega
          | false =>
            refine (HS1.out _ HC.out).mono ?_
            rintro e w5 ⟨rfl, hb⟩
            have HC := hid (HC.out.trans (hb.mono HC.out.size))
            clear hb z4
            have z4 := HXY.out _ HC.out
            go_wp2_with fail
            cases s3 with
            | true =>
              refine (HS3.out _ HC.out).mono ?_
              rintro e w5 ⟨rfl, hb⟩
              have HC := hid (HC.out.trans (hb.mono HC.out.size))
              clear hb z4
              have z4 := HXY.out _ HC.out
              go_wp2_with fail
              cases s4 with
              | true =>
                refine (HS4.out _ HC.out).mono ?_
                rintro e w5 ⟨rfl, hb⟩
                have HC := hid (HC.out.trans (hb.mono HC.out.size))
                clear hb z4
                have z4 := HXY.out _ HC.out
                have hg4 := two_cells (HG4.out _ HC.out)
                have y9 := HQ.out.outs (HB4.out.trans (HC.out.mono HB4.out.size))
                have HJ := hid (joinL_some HOK.out hlt2 HHH.out HNO.out)
                have y2 := HQ.out.stored (HB4.out.trans (HC.out.mono HB4.out.size)) (.slice (some ⟨a1, 0, none⟩) al.length k1) (.slice (some ⟨a2, 0, none⟩) ah.length k2) rfl
                have HY := hid y2
                clear y2
                go_wp2_with fail
                have y2 := HY.out
                refine bodyPost_ret (v := .tuple #[.agg #[.slice (some ⟨a1, 0, none⟩) al.length k1, .slice (some ⟨a2, 0, none⟩) ah.length k2], .int .i64 (k : Int), .bool true]) (by simp [results, Try.results17, go_sem, y2.1]) rfl ?_
                rw [HJ.out]
                exact FIN.out _ HC.out
              | false =>
                refine (HS4.out _ HC.out).mono ?_
                rintro e w5 ⟨rfl, hb⟩
                have HC := hid (HC.out.trans (hb.mono HC.out.size))
                clear hb z4
                have z4 := HXY.out _ HC.out
                cases s2
                all_goals
                  have HH0 := hid (show hitB al ah bl bh k = false from HHH.out)
                  have HV5 := hid (HV4.out.trans (HC.out.mono HV4.out.size))
                  go_wp2_with fail
                  go_roundw
                  case rel => exact ⟨k + 1, by omega, by go_num, fun j hj => by rcases Nat.lt_succ_iff_lt_or_eq.1 hj with h | rfl; exact HNO.out j h; exact HH0.out, HV5.out⟩
                  case measure => simp [intOf]; omega
            | false =>
              refine (HS3.out _ HC.out).mono ?_
              rintro e w5 ⟨rfl, hb⟩
              have HC := hid (HC.out.trans (hb.mono HC.out.size))
              clear hb z4
              have z4 := HXY.out _ HC.out
              cases s2 <;> cases s4
              all_goals
                have HH0 := hid (show hitB al ah bl bh k = false from HHH.out)
                have HV5 := hid (HV4.out.trans (HC.out.mono HV4.out.size))
                go_wp2_with fail
                go_roundw
                case rel => exact ⟨k + 1, by omega, by go_num, fun j hj => by rcases Nat.lt_succ_iff_lt_or_eq.1 hj with h | rfl; exact HNO.out j h; exact HH0.out, HV5.out⟩
                case measure => simp [intOf]; omega
      · obtain rfl : k = al.length := by omega
        have hjn : joinL al ah bl bh = none := joinL_none HNO.out
        have HJN := hid hjn
        have y9 := HQ.out.outs HBR.out
        have y2 := HQ.out.stored HBR.out (.slice none 0 0) (.slice none 0 0) rfl
        have HY := hid y2
        clear hjn zr
        go_wp2_with fail
        have y2 := HY.out
        refine bodyPost_ret (v := .tuple #[.agg #[.slice none 0 0, .slice none 0 0], .int .i64 0, .bool false]) (by simp [results, Try.results17, go_sem, y2.1]) rfl ?_
        rw [HJN.out]
        exact JRet.none y2.2.1
-- PRE2
end Go.Proofs.Ytnmhdlincgefeaa.Rg
