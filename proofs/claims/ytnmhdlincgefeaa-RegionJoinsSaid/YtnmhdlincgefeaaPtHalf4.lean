/- Halves of the reference, where a box can be halved. -/
import Derived.Test.YtnmhdlincgefeaaPtHalf3
namespace Go.Proofs.Ytnmhdlincgefeaa.Pt
open Go.RowKit
open Go.Lib (hid)
open Go.Proofs.Ytnmhdlincgefeaa.Ky
open Go.Proofs.Ytnmhdlincgefeaa.Bk

set_option maxHeartbeats 1000000 in
theorem copy_row (l : List Nat) (p : Option Addr) (c : Nat) (w : World) (h : Pt w p l) (h0 : 0 < l.length) (hl : l.length ≤ 1000000) :
    Calls Try.prog 35 #[.slice p l.length c] w fun e w' => ∃ g c', e = .returned (.slice (some ⟨g, 0, none⟩) l.length c') ∧ Rw w' g l ∧ w.heap.size ≤ g ∧ Below w.heap.size w w' := by
  have HP := hid h; have H0 := hid h0; clear h h0
  go_enter Try.func35, Try.ntmps35
  go_wp2_with (at_builtin; refine wpList_app rfl _ _ _ rfl rfl rfl (key_full _ none _ l _ HP.out (by omega)) ?_)
  intro v' w1 hF
  obtain ⟨c', rfl, hr, hb⟩ := row_full H0.out hF
  have HN := hid hr
  have HB := hid hb
  clear hF hr hb
  go_wp2_with fail
  go_ret
  exact ⟨_, c', rfl, HN.out, Nat.le_refl _, HB.out⟩
/-- how far the making of one box is -/
structure KK (W : World) (lo hi : List Nat) (n m : Nat) (f2 f5 f6 f7 f8 : Bool) (u62 u65 u66 u8 : Value) (a1 c1 a2 c2 g : Nat) (v : World) : Prop where
  below : Below W.heap.size W v
  k2 : f2 = true → u62 = .slice (some ⟨a1, 0, none⟩) n c1 ∧ Rw v a1 lo ∧ W.heap.size ≤ a1
  k5 : f5 = true → f2 = true ∧ u65 = .slice (some ⟨a2, 0, none⟩) m c2 ∧ Rw v a2 hi ∧ a1 < a2
  k6 : f6 = true → f2 = true ∧ f5 = true ∧ u66 = .agg #[.slice (some ⟨a1, 0, none⟩) n c1, .slice (some ⟨a2, 0, none⟩) m c2]
  k7 : f7 = true → u8 = .pointer (some ⟨g, 0, none⟩) ∧ W.heap.size ≤ g ∧ v.heap[g]? = some (.cells (if f8 then #[.slice (some ⟨a1, 0, none⟩) n c1, .slice (some ⟨a2, 0, none⟩) m c2] else #[Value.slice none 0 0, .slice none 0 0]) 43)
  k8 : f8 = true → f2 = true ∧ f5 = true ∧ f6 = true ∧ f7 = true
/-- one box is made -/
def OneP (W : World) (lo hi : List Nat) (n m : Nat) (s : Value) (V : World) : Prop :=
  ∃ g a1 c1 a2 c2, s = .pointer (some ⟨g, 0, none⟩) ∧ W.heap.size ≤ g ∧ V.heap[g]? = some (.cells #[.slice (some ⟨a1, 0, none⟩) n c1, .slice (some ⟨a2, 0, none⟩) m c2] 43) ∧ Rw V a1 lo ∧ Rw V a2 hi ∧ W.heap.size ≤ a1 ∧ a1 < a2 ∧ Below W.heap.size W V
section
variable {W : World} {lo hi : List Nat} {n m : Nat} {f2 f5 f6 f7 f8 : Bool} {u62 u65 u66 u8 : Value} {a1 c1 a2 c2 g : Nat} {v w' : World}
theorem KK.call1 (h : KK W lo hi n m false f5 f6 f7 f8 u62 u65 u66 u8 a1 c1 a2 c2 g v) {a c : Nat} (hr : Rw w' a lo) (ha : v.heap.size ≤ a) (hb : Below v.heap.size v w') :
    KK W lo hi n m true f5 f6 f7 f8 (.slice (some ⟨a, 0, none⟩) n c) u65 u66 u8 a c a2 c2 g w' := by
  have e8 : f8 = false := by cases e : f8 with | false => rfl | true => exact absurd (h.k8 e).1 (by simp)
  subst e8
  refine ⟨h.below.trans (hb.mono h.below.size), fun _ => ⟨rfl, hr, Nat.le_trans h.below.size ha⟩, fun e => absurd (h.k5 e).1 (by simp), fun e => absurd (h.k6 e).1 (by simp), fun e => ?_, nofun⟩
  obtain ⟨x1, x2, x3⟩ := h.k7 e
  exact ⟨x1, x2, (hb.block _ (heap_lt x3)).trans x3⟩
theorem KK.call2 (h : KK W lo hi n m true false f6 f7 f8 u62 u65 u66 u8 a1 c1 a2 c2 g v) {a c : Nat} (hr : Rw w' a hi) (ha : v.heap.size ≤ a) (hb : Below v.heap.size v w') :
    KK W lo hi n m true true f6 f7 f8 u62 (.slice (some ⟨a, 0, none⟩) m c) u66 u8 a1 c1 a c g w' := by
  have e8 : f8 = false := by cases e : f8 with | false => rfl | true => exact absurd (h.k8 e).2.1 (by simp)
  subst e8
  obtain ⟨y1, y2, y3⟩ := h.k2 rfl
  refine ⟨h.below.trans (hb.mono h.below.size), fun _ => ⟨y1, y2.below hb, y3⟩, fun _ => ⟨rfl, rfl, hr, Nat.lt_of_lt_of_le y2.lt ha⟩, fun e => absurd (h.k6 e).2.1 (by simp), fun e => ?_, nofun⟩
  obtain ⟨x1, x2, x3⟩ := h.k7 e
  exact ⟨x1, x2, (hb.block _ (heap_lt x3)).trans x3⟩
theorem KK.bld (h : KK W lo hi n m true true false f7 f8 u62 u65 u66 u8 a1 c1 a2 c2 g v) :
    KK W lo hi n m true true true f7 f8 u62 u65 (.agg #[.slice (some ⟨a1, 0, none⟩) n c1, .slice (some ⟨a2, 0, none⟩) m c2]) u8 a1 c1 a2 c2 g v := by
  have e8 : f8 = false := by cases e : f8 with | false => rfl | true => exact absurd (h.k8 e).2.2.1 (by simp)
  subst e8
  exact ⟨h.below, h.k2, h.k5, fun _ => ⟨rfl, rfl, rfl⟩, h.k7, nofun⟩
theorem KK.al (h : KK W lo hi n m f2 f5 f6 false f8 u62 u65 u66 u8 a1 c1 a2 c2 g v) :
    KK W lo hi n m f2 f5 f6 true f8 u62 u65 u66 (.pointer (some ⟨v.heap.size, 0, none⟩)) a1 c1 a2 c2 v.heap.size (v.alloc (.cells #[Value.slice none 0 0, .slice none 0 0] 43)) := by
  have e8 : f8 = false := by cases e : f8 with | false => rfl | true => exact absurd (h.k8 e).2.2.2 (by simp)
  subst e8
  have hb := below_alloc v (.cells #[Value.slice none 0 0, .slice none 0 0] 43)
  refine ⟨h.below.trans (hb.mono h.below.size), fun e => ?_, fun e => ?_, h.k6, fun _ => ⟨rfl, h.below.size, heap_alloc_new _ _⟩, nofun⟩
  · obtain ⟨y1, y2, y3⟩ := h.k2 e
    exact ⟨y1, y2.below hb, y3⟩
  · obtain ⟨y0, y1, y2, y3⟩ := h.k5 e
    exact ⟨y0, y1, y2.below hb, y3⟩
theorem KK.st (h : KK W lo hi n m true true true true false u62 u65 u66 u8 a1 c1 a2 c2 g v) (h0 : 0 < lo.length) (h1 : 0 < hi.length) :
    KK W lo hi n m true true true true true u62 u65 u66 u8 a1 c1 a2 c2 g ((v.setCell ⟨g, 0, none⟩ (.slice (some ⟨a1, 0, none⟩) n c1)).setCell ⟨g, 1, none⟩ (.slice (some ⟨a2, 0, none⟩) m c2)) := by
  obtain ⟨x1, x2, x3⟩ := h.k7 rfl
  obtain ⟨y1, y2, y3⟩ := h.k2 rfl
  obtain ⟨_, t1, t2, t3⟩ := h.k5 rfl
  have x3' : v.heap[g]? = some (.cells #[Value.slice none 0 0, .slice none 0 0] 43) := x3
  have far : ∀ {a : Nat} {l : List Nat}, Rw v a l → 0 < l.length → Rw ((v.setCell ⟨g, 0, none⟩ (.slice (some ⟨a1, 0, none⟩) n c1)).setCell ⟨g, 1, none⟩ (.slice (some ⟨a2, 0, none⟩) m c2)) a l := fun hr hl =>
    (hr.far (p := ⟨g, 0, none⟩) (hr.ne_two hl x3' (by simp)) _).far (p := ⟨g, 1, none⟩) (hr.ne_two hl x3' (by simp)) _
  exact ⟨(h.below.setCell (p := ⟨g, 0, none⟩) x2 _).setCell (p := ⟨g, 1, none⟩) x2 _, fun _ => ⟨y1, far y2 h0, y3⟩, fun _ => ⟨rfl, t1, far t2 h1, t3⟩, h.k6, fun _ => ⟨x1, x2, two_set x3' _ _⟩, fun _ => ⟨rfl, rfl, rfl, rfl⟩⟩
theorem KK.zero (h : KK W lo hi n m f2 f5 f6 true false u62 u65 u66 u8 a1 c1 a2 c2 g v) : v.cell? ⟨g, 0, none⟩ = some (.slice none 0 0) ∧ v.cell? ⟨g, 1, none⟩ = some (.slice none 0 0) ∧ v.frozen? ⟨g, 0, none⟩ = false ∧ v.frozen? ⟨g, 1, none⟩ = false :=
  two_cells (show v.heap[g]? = some (.cells #[Value.slice none 0 0, .slice none 0 0] 43) from (h.k7 rfl).2.2)
theorem KK.fin (h : KK W lo hi n m true true true true true u62 u65 u66 u8 a1 c1 a2 c2 g v) : OneP W lo hi n m u8 v := by
  obtain ⟨x1, x2, x3⟩ := h.k7 rfl
  obtain ⟨y1, y2, y3⟩ := h.k2 rfl
  obtain ⟨_, t1, t2, t3⟩ := h.k5 rfl
  exact ⟨g, a1, c1, a2, c2, x1, x2, x3, y2, t2, y3, t3, h.below⟩
end
def putsA (a : Act) (u62 u65 u66 u8 : Value) : Act := (((a.put (some 62) u62).put (some 65) u65).put (some 66) u66).put (some 8) u8
def putsB (a : Act) (u62 u65 u66 u8 : Value) : Act := (((a.put (some 69) u62).put (some 72) u65).put (some 73) u66).put (some 9) u8
def opsR4 : Array Oper := #[{ dst := some 60, op := Go.Op.fieldAddr 43 (Go.Operand.tmp 2) 0, type := 0, pos := "ref.go:16", after := #[], guard := none }, { dst := some 61, op := Go.Op.load 41 (Go.Operand.tmp 60), type := 41, pos := "ref.go:16", after := #[{ on := 0, ground := Go.Ground.data }], guard := none }, { dst := some 62, op := Go.Op.call { callee := Go.Callee.value (Go.Operand.func 35), args := #[Go.Operand.tmp 61], argTypes := #[41] }, type := 41, pos := "ref.go:16", after := #[{ on := 1, ground := Go.Ground.data }], guard := none }, { dst := some 63, op := Go.Op.fieldAddr 43 (Go.Operand.tmp 2) 1, type := 0, pos := "ref.go:16", after := #[], guard := none }, { dst := some 64, op := Go.Op.load 41 (Go.Operand.tmp 63), type := 41, pos := "ref.go:16", after := #[{ on := 3, ground := Go.Ground.data }], guard := none }, { dst := some 65, op := Go.Op.call { callee := Go.Callee.value (Go.Operand.func 35), args := #[Go.Operand.tmp 64], argTypes := #[41] }, type := 41, pos := "ref.go:16", after := #[{ on := 4, ground := Go.Ground.data }, { on := 2, ground := Go.Ground.chain }], guard := none }, { dst := some 66, op := Go.Op.build 43 #[(0, Go.Operand.tmp 62), (1, Go.Operand.tmp 65)], type := 43, pos := "ref.go:16", after := #[{ on := 2, ground := Go.Ground.data }, { on := 5, ground := Go.Ground.data }], guard := none }, { dst := some 8, op := Go.Op.alloc 43, type := 0, pos := "ref.go:16", after := #[], guard := none }, { dst := none, op := Go.Op.store 43 (Go.Operand.tmp 8) (Go.Operand.tmp 66), type := 0, pos := "ref.go:16", after := #[{ on := 7, ground := Go.Ground.data }, { on := 6, ground := Go.Ground.data }, { on := 5, ground := Go.Ground.chain }, { on := 0, ground := Go.Ground.phase }, { on := 1, ground := Go.Ground.phase }, { on := 2, ground := Go.Ground.phase }, { on := 3, ground := Go.Ground.phase }, { on := 4, ground := Go.Ground.phase }, { on := 5, ground := Go.Ground.phase }, { on := 6, ground := Go.Ground.phase }, { on := 7, ground := Go.Ground.phase }], guard := none }]
theorem readyR4b : ∀ f2 f5 f6 f7 f8 : Bool, ((Region.ready .any opsR4 #[true, true, f2, true, true, f5, f6, f7, f8]).all fun i => (decide (i = 2) && !f2) || ((decide (i = 5) && (!f5 && f2)) || ((decide (i = 6) && (!f6 && (f2 && f5))) || ((decide (i = 7) && !f7) || (decide (i = 8) && (!f8 && (f2 && (f5 && (f6 && f7))))))))) = true := by decide +kernel
theorem readyR4 (f2 f5 f6 f7 f8 : Bool) (i : Nat) (h : i ∈ Region.ready .any opsR4 #[true, true, f2, true, true, f5, f6, f7, f8]) : (i = 2 ∧ f2 = false) ∨ (i = 5 ∧ f5 = false ∧ f2 = true) ∨ (i = 6 ∧ f6 = false ∧ f2 = true ∧ f5 = true) ∨ (i = 7 ∧ f7 = false) ∨ (i = 8 ∧ f8 = false ∧ f2 = true ∧ f5 = true ∧ f6 = true ∧ f7 = true) := by
  have := List.all_eq_true.1 (readyR4b f2 f5 f6 f7 f8) i h
  simpa only [Bool.or_eq_true, Bool.and_eq_true, decide_eq_true_eq, Bool.not_eq_true'] using this
theorem doneR4 : ∀ f2 f5 f6 f7 f8 : Bool, Region.ready .any opsR4 #[true, true, f2, true, true, f5, f6, f7, f8] = [] → f2 = true ∧ f5 = true ∧ f6 = true ∧ f7 = true ∧ f8 = true := by decide +kernel
def opsR5 : Array Oper := #[{ dst := some 67, op := Go.Op.fieldAddr 43 (Go.Operand.tmp 2) 0, type := 0, pos := "ref.go:17", after := #[], guard := none }, { dst := some 68, op := Go.Op.load 41 (Go.Operand.tmp 67), type := 41, pos := "ref.go:17", after := #[{ on := 0, ground := Go.Ground.data }], guard := none }, { dst := some 69, op := Go.Op.call { callee := Go.Callee.value (Go.Operand.func 35), args := #[Go.Operand.tmp 68], argTypes := #[41] }, type := 41, pos := "ref.go:17", after := #[{ on := 1, ground := Go.Ground.data }], guard := none }, { dst := some 70, op := Go.Op.fieldAddr 43 (Go.Operand.tmp 2) 1, type := 0, pos := "ref.go:17", after := #[], guard := none }, { dst := some 71, op := Go.Op.load 41 (Go.Operand.tmp 70), type := 41, pos := "ref.go:17", after := #[{ on := 3, ground := Go.Ground.data }], guard := none }, { dst := some 72, op := Go.Op.call { callee := Go.Callee.value (Go.Operand.func 35), args := #[Go.Operand.tmp 71], argTypes := #[41] }, type := 41, pos := "ref.go:17", after := #[{ on := 4, ground := Go.Ground.data }, { on := 2, ground := Go.Ground.chain }], guard := none }, { dst := some 73, op := Go.Op.build 43 #[(0, Go.Operand.tmp 69), (1, Go.Operand.tmp 72)], type := 43, pos := "ref.go:17", after := #[{ on := 2, ground := Go.Ground.data }, { on := 5, ground := Go.Ground.data }], guard := none }, { dst := some 9, op := Go.Op.alloc 43, type := 0, pos := "ref.go:17", after := #[], guard := none }, { dst := none, op := Go.Op.store 43 (Go.Operand.tmp 9) (Go.Operand.tmp 73), type := 0, pos := "ref.go:17", after := #[{ on := 7, ground := Go.Ground.data }, { on := 6, ground := Go.Ground.data }, { on := 5, ground := Go.Ground.chain }, { on := 0, ground := Go.Ground.phase }, { on := 1, ground := Go.Ground.phase }, { on := 2, ground := Go.Ground.phase }, { on := 3, ground := Go.Ground.phase }, { on := 4, ground := Go.Ground.phase }, { on := 5, ground := Go.Ground.phase }, { on := 6, ground := Go.Ground.phase }, { on := 7, ground := Go.Ground.phase }], guard := none }]
theorem readyR5b : ∀ f2 f5 f6 f7 f8 : Bool, ((Region.ready .any opsR5 #[true, true, f2, true, true, f5, f6, f7, f8]).all fun i => (decide (i = 2) && !f2) || ((decide (i = 5) && (!f5 && f2)) || ((decide (i = 6) && (!f6 && (f2 && f5))) || ((decide (i = 7) && !f7) || (decide (i = 8) && (!f8 && (f2 && (f5 && (f6 && f7))))))))) = true := by decide +kernel
theorem readyR5 (f2 f5 f6 f7 f8 : Bool) (i : Nat) (h : i ∈ Region.ready .any opsR5 #[true, true, f2, true, true, f5, f6, f7, f8]) : (i = 2 ∧ f2 = false) ∨ (i = 5 ∧ f5 = false ∧ f2 = true) ∨ (i = 6 ∧ f6 = false ∧ f2 = true ∧ f5 = true) ∨ (i = 7 ∧ f7 = false) ∨ (i = 8 ∧ f8 = false ∧ f2 = true ∧ f5 = true ∧ f6 = true ∧ f7 = true) := by
  have := List.all_eq_true.1 (readyR5b f2 f5 f6 f7 f8) i h
  simpa only [Bool.or_eq_true, Bool.and_eq_true, decide_eq_true_eq, Bool.not_eq_true'] using this
theorem doneR5 : ∀ f2 f5 f6 f7 f8 : Bool, Region.ready .any opsR5 #[true, true, f2, true, true, f5, f6, f7, f8] = [] → f2 = true ∧ f5 = true ∧ f6 = true ∧ f7 = true ∧ f8 = true := by decide +kernel
set_option maxRecDepth 100000 in
set_option maxHeartbeats 8000000 in
theorem refHalves_yes (lo hi : List Nat) (p q : Option Addr) (c c' : Nat) (a : Int) (w : World) (hp : Pt w p lo) (hq : Pt w q hi) (hl : lo.length ≤ 1000000) (h1 : boxB lo hi (lo.length : Int) = true) (h2 : decide (0 ≤ a ∧ a < (lo.length : Int)) = true) (h4 : ¬ lo.getD a.toNat 0 = hi.getD a.toNat 0) :
    Calls Try.prog 20 #[.agg #[.slice p lo.length c, .slice q hi.length c'], .int .i64 a] w (HalfPost w lo hi a) := by
  have HQ := hid (ent_new w (.slice p lo.length c) (.slice q hi.length c'))
  obtain ⟨W, hW⟩ : ∃ W, W = ((w.alloc (.cells #[Value.slice p lo.length c, .slice q hi.length c'] 43)).alloc (.cells #[Value.slice none 0 0, .slice none 0 0] 43)).alloc (.cells #[Value.slice none 0 0, .slice none 0 0] 43) := ⟨_, rfl⟩
  rw [← hW] at HQ
  have h3 : 0 ≤ a ∧ a < (lo.length : Int) := by simpa using h2
  obtain ⟨i, rfl⟩ : ∃ i : Nat, a = (i : Int) := ⟨a.toNat, by omega⟩
  have hil : i < lo.length := by omega
  have hlen : lo.length = hi.length := by
    have h1' := h1
    unfold boxB at h1'
    simp only [Bool.and_eq_true] at h1'
    exact leAll_len h1'.2
  have hih : i < hi.length := by omega
  obtain ⟨b1, o1, rfl, hb1, d1⟩ := hp.cells i hil
  obtain ⟨b2, o2, rfl, hb2, d2⟩ := hq.cells i hih
  have HC := hid fun (V : World) (hb : Below W.heap.size W V) => refCheckBox_ok lo hi _ _ c c' (lo.length : Int) V (hp.below (HQ.out.below.trans (hb.mono HQ.out.below.size))) (hq.below (HQ.out.below.trans (hb.mono HQ.out.below.size))) (by omega)
  have HCL := hid fun (V : World) (hb : Below W.heap.size W V) => copy_row lo _ c V (hp.below (HQ.out.below.trans (hb.mono HQ.out.below.size))) (by omega) hl
  have HCH := hid fun (V : World) (hb : Below W.heap.size W V) => copy_row hi _ c' V (hq.below (HQ.out.below.trans (hb.mono HQ.out.below.size))) (by omega) (by omega)
  have HX := hid fun (V : World) (hb : Below W.heap.size W V) => (show (V.cell? ⟨w.heap.size, 0, none⟩ = some (.slice (some ⟨b1, o1, none⟩) lo.length c) ∧ V.cell? ⟨w.heap.size, 1, none⟩ = some (.slice (some ⟨b2, o2, none⟩) hi.length c')) ∧ (V.cell? ⟨b1, o1 + i, none⟩ = some (.int .u32 (lo[i] : Int)) ∧ V.cell? ⟨b2, o2 + i, none⟩ = some (.int .u32 (hi[i] : Int))) from
    ⟨HQ.out.cells hb, ((HQ.out.below.trans (hb.mono HQ.out.below.size)).cell (p := ⟨b1, _, none⟩) hb1).trans d1, ((HQ.out.below.trans (hb.mono HQ.out.below.size)).cell (p := ⟨b2, _, none⟩) hb2).trans d2⟩)
  rw [h1] at HC
  have q1 : (0 : Int) ≤ (i : Int) := by omega
  have q2 : (i : Int) < (lo.length : Int) := by omega
  have q3 : (i : Int) < (hi.length : Int) := by omega
  have e1 : decide ((i : Int) < 0) = false := by simp
  have e2 : decide ((lo.length : Int) ≤ (i : Int)) = false := by simp; omega
  have e3 : decide (lo.length ≤ i) = false := by simp; omega
  have hxy : lo[i] < hi[i] := by
    rw [Int.toNat_natCast, List.getD_eq_getElem?_getD, List.getD_eq_getElem?_getD, List.getElem?_eq_getElem hil, List.getElem?_eq_getElem hih] at h4
    have h1' := h1
    unfold boxB at h1'
    simp only [Bool.and_eq_true] at h1'
    have := (leAll_iff.1 h1'.2).2 i hil hih
    simp at h4
    omega
  have hfx := hp.fit i hil
  have hfy := hq.fit i hih
  have HXY := hid hxy
  have HFX := hid (And.intro hfx hfy)
  have HP := hid hp.fit
  have HPQ := hid hq.fit
  have HIL := hid hil
  have HIH := hid hih
  have HLEN := hid hlen
  have HN : Hid (halfB lo hi (i : Int) = true) := hid (by unfold halfB; rw [h1, h2, decide_eq_false h4]; rfl)
  have HMID : Hid (midN lo hi i = lo[i] + (hi[i] - lo[i]) / 2) := hid (by
    unfold midN
    rw [List.getD_eq_getElem?_getD, List.getD_eq_getElem?_getD, List.getElem?_eq_getElem hil, List.getElem?_eq_getElem hih]; rfl)
  clear hp hq h1 h2 h3 h4 hlen d1 d2 hb1 hb2 hfx hfy
  have e4 : ((lo[i] : Int) == (hi[i] : Int)) = false := by simp; omega
  have e5 : (lo[i] == hi[i]) = false := by simp; omega
  clear hxy
  generalize lo[i] = x at *
  generalize hi[i] = y at *
  obtain ⟨d, hd⟩ : ∃ d, y - x = d := ⟨_, rfl⟩
  obtain ⟨k, hk⟩ : ∃ k, d / 2 = k := ⟨_, rfl⟩
  obtain ⟨mid, hmid⟩ : ∃ mid, x + k = mid := ⟨_, rfl⟩
  have HMM := hid (show midN lo hi i = mid by rw [HMID.out, hd, hk, hmid])
  have hxy := HXY.out
  have hfx := HFX.out
  have s1 : IntKind.u32.wrap ((y : Int) - (x : Int)) = (d : Int) := by simp [IntKind.wrap, IntKind.signed, IntKind.bits]; omega
  have s2 : (d : Int).tdiv 2 = (k : Int) := by rw [Int.tdiv_eq_ediv_of_nonneg (by omega)]; omega
  have s3 : IntKind.u32.wrap (k : Int) = (k : Int) := by simp [IntKind.wrap, IntKind.signed, IntKind.bits]; omega
  have s4 : IntKind.u32.wrap ((x : Int) + (k : Int)) = (mid : Int) := by simp [IntKind.wrap, IntKind.signed, IntKind.bits]; omega
  have s5 : IntKind.u32.wrap ((mid : Int) + 1) = ((mid + 1 : Nat) : Int) := by simp [IntKind.wrap, IntKind.signed, IntKind.bits]; omega
  have HSM := hid (show mid + 1 < 4294967296 by omega)
  clear hd hk hmid hxy hfx
  go_enter Try.func20, Try.ntmps20
  go_wp2_with fail
  rw [← hW]
  clear hW
  have H0 := hid (Below.refl W.heap.size W).drew
  have x0 := HX.out _ H0.out
  go_region_held3 (fun w' => (w'.cell? ⟨w.heap.size, 0, none⟩ = some (.slice (some ⟨b1, o1, none⟩) lo.length c) ∧ w'.cell? ⟨w.heap.size, 1, none⟩ = some (.slice (some ⟨b2, o2, none⟩) hi.length c')) ∧ (w'.cell? ⟨b1, o1 + i, none⟩ = some (.int .u32 (x : Int)) ∧ w'.cell? ⟨b2, o2 + i, none⟩ = some (.int .u32 (y : Int)))) (first | exact x0 | exact z1 | go_keep)
    (first
      | (go_at_call 37; refine (HC.out _ H0.out).mono ?_; rintro e w9 ⟨rfl, hb⟩; rw [err_true true rfl]; have HB9 := hid (H0.out.trans (hb.mono H0.out.size)); have z1 := HX.out _ HB9.out; clear hb)
      | fail)
  clear x0 e4 e5 HC H0 e1 e2 e3
  go_wp2_with fail
  go_quiet (fail)
  clear z1
  generalize hV : w9.drewN _ = V
  have HBWa := hid (show Below W.heap.size W V by rw [← hV]; exact below_drewN HB9.out _)
  clear hV
  have z1 := (HX.out _ HBWa.out).1
  go_upto_region 4 with (fail)
  go_cut [8] (fun s8 wx => OneP V lo hi lo.length hi.length s8 wx)
  case first =>
    have zd := HX.out _ HBWa.out.drew
    refine wp_region_held_drew (S := fun w' => w'.cell? ⟨w.heap.size, 0, none⟩ = some (.slice (some ⟨b1, o1, none⟩) lo.length c) ∧ w'.cell? ⟨w.heap.size, 1, none⟩ = some (.slice (some ⟨b2, o2, none⟩) hi.length c')) (by kernel_rfl) (by exact zd.1) (fun hHeld => ?_)
    refine wpAnyH_take (i := 0) (oi := { dst := some 60, op := Go.Op.fieldAddr 43 (Go.Operand.tmp 2) 0, type := 0, pos := "ref.go:16", after := #[], guard := none }) (v := ?va0) rfl (by kernel_rfl) (by kernel_rfl) (by kernel_rfl) (fun _ _ _ h => h) (Or.inl ⟨by rfl, ?hya0⟩) (by assumption) ?resta0
    case hya0 => (intro w hSw; (try dsimp only at hSw); go_simp; (try with_reducible rfl))
    simp only [Act.put, List.setIfInBounds_toArray, List.set_cons_zero, List.set_cons_succ]
    refine wpAnyH_take (i := 1) (oi := { dst := some 61, op := Go.Op.load 41 (Go.Operand.tmp 60), type := 41, pos := "ref.go:16", after := #[{ on := 0, ground := Go.Ground.data }], guard := none }) (v := ?va1) rfl (by kernel_rfl) (by kernel_rfl) (by kernel_rfl) (fun _ _ _ h => h) (Or.inl ⟨by rfl, ?hya1⟩) (by assumption) ?resta1
    case hya1 => (intro w hSw; (try dsimp only at hSw); go_simp; (try with_reducible rfl))
    simp only [Act.put, List.setIfInBounds_toArray, List.set_cons_zero, List.set_cons_succ]
    refine wpAnyH_take (i := 3) (oi := { dst := some 63, op := Go.Op.fieldAddr 43 (Go.Operand.tmp 2) 1, type := 0, pos := "ref.go:16", after := #[], guard := none }) (v := ?va3) rfl (by kernel_rfl) (by kernel_rfl) (by kernel_rfl) (fun _ _ _ h => h) (Or.inl ⟨by rfl, ?hya3⟩) (by assumption) ?resta3
    case hya3 => (intro w hSw; (try dsimp only at hSw); go_simp; (try with_reducible rfl))
    simp only [Act.put, List.setIfInBounds_toArray, List.set_cons_zero, List.set_cons_succ]
    refine wpAnyH_take (i := 4) (oi := { dst := some 64, op := Go.Op.load 41 (Go.Operand.tmp 63), type := 41, pos := "ref.go:16", after := #[{ on := 3, ground := Go.Ground.data }], guard := none }) (v := ?va4) rfl (by kernel_rfl) (by kernel_rfl) (by kernel_rfl) (fun _ _ _ h => h) (Or.inl ⟨by rfl, ?hya4⟩) (by assumption) ?resta4
    case hya4 => (intro w hSw; (try dsimp only at hSw); go_simp; (try with_reducible rfl))
    simp only [Act.put, List.setIfInBounds_toArray, List.set_cons_zero, List.set_cons_succ]
    refine inv_start fun A0 hA0 => ?_
    refine wpAnyH_inv (fun l a v => ∃ f2 f5 f6 f7 f8 u62 u65 u66 u8 a1 c1 a2 c2 g, l = #[true, true, f2, true, true, f5, f6, f7, f8] ∧ a = putsA A0 u62 u65 u66 u8 ∧ KK V lo hi lo.length hi.length f2 f5 f6 f7 f8 u62 u65 u66 u8 a1 c1 a2 c2 g v) ?hS ?hst ?hen _ _ _ _ ?hI ?hl
    case hS =>
      rintro l a v ⟨_, _, _, _, _, _, _, _, _, _, _, _, _, _, _, _, hj⟩
      exact (HX.out _ (HBWa.out.trans (hj.below.mono HBWa.out.size))).1
    case hI =>
      exact ⟨false, false, false, false, false, _, _, _, _, 0, 0, 0, 0, 0, rfl, by rw [hA0]; rfl, ⟨(Below.refl _ _).drew, nofun, nofun, nofun, nofun, nofun⟩⟩
    case hl => decide
    case hen =>
      rintro l a v ⟨f2, f5, f6, f7, f8, u62, u65, u66, u8, a1, c1, a2, c2, g, rfl, rfl, hj⟩ hr
      obtain ⟨rfl, rfl, rfl, rfl, rfl⟩ := doneR4 _ _ _ _ _ hr
      have HJ := hid hj.fin
      clear hj hr
      subst hA0
      simp only [putsA, Act.put, List.setIfInBounds_toArray, List.set_cons_zero, List.set_cons_succ]
      go_wp2_with fail
      go_meet
      exact HJ.out
    case hst =>
      rintro l a v i ⟨f2, f5, f6, f7, f8, u62, u65, u66, u8, a1, c1, a2, c2, g, rfl, rfl, hj⟩ hi
      have HJ := hid hj
      have HBv := hid (HBWa.out.trans (hj.below.mono HBWa.out.size))
      clear hj
      rcases readyR4 _ _ _ _ _ _ hi with ⟨rfl, rfl⟩ | ⟨rfl, rfl, rfl⟩ | ⟨rfl, rfl, rfl, rfl⟩ | ⟨rfl, rfl⟩ | ⟨rfl, rfl, rfl, rfl, rfl, rfl⟩
      all_goals clear hi
      · refine op_step (i := 2) (o := { dst := some 62, op := Go.Op.call { callee := Go.Callee.value (Go.Operand.func 35), args := #[Go.Operand.tmp 61], argTypes := #[41] }, type := 41, pos := "ref.go:16", after := #[{ on := 1, ground := Go.Ground.data }], guard := none }) rfl (fun K hK => ?_)
        subst hA0
        simp only [putsA, Act.put, List.setIfInBounds_toArray, List.set_cons_zero, List.set_cons_succ]
        go_simp
        go_at_call 35
        refine (HCL.out _ HBv.out).mono ?_
        rintro e w4 ⟨a, c5, rfl, hr, hg, hb⟩
        refine hK.out _ _ ?_
        exact ⟨true, f5, f6, f7, f8, _, _, _, _, a, c5, _, _, _, rfl, rfl, HJ.out.call1 hr hg hb⟩
      · refine op_step (i := 5) (o := { dst := some 65, op := Go.Op.call { callee := Go.Callee.value (Go.Operand.func 35), args := #[Go.Operand.tmp 64], argTypes := #[41] }, type := 41, pos := "ref.go:16", after := #[{ on := 4, ground := Go.Ground.data }, { on := 2, ground := Go.Ground.chain }], guard := none }) rfl (fun K hK => ?_)
        subst hA0
        simp only [putsA, Act.put, List.setIfInBounds_toArray, List.set_cons_zero, List.set_cons_succ]
        go_simp
        go_at_call 35
        refine (HCH.out _ HBv.out).mono ?_
        rintro e w4 ⟨a, c5, rfl, hr, hg, hb⟩
        refine hK.out _ _ ?_
        exact ⟨true, true, f6, f7, f8, _, _, _, _, _, _, a, c5, _, rfl, rfl, HJ.out.call2 hr hg hb⟩
      · refine op_step (i := 6) (o := { dst := some 66, op := Go.Op.build 43 #[(0, Go.Operand.tmp 62), (1, Go.Operand.tmp 65)], type := 43, pos := "ref.go:16", after := #[{ on := 2, ground := Go.Ground.data }, { on := 5, ground := Go.Ground.data }], guard := none }) rfl (fun K hK => ?_)
        subst hA0
        obtain ⟨rfl, _⟩ := HJ.out.k2 rfl
        obtain ⟨_, rfl, _⟩ := HJ.out.k5 rfl
        simp only [putsA, Act.put, List.setIfInBounds_toArray, List.set_cons_zero, List.set_cons_succ]
        go_simp
        refine hK.out _ _ ?_
        exact ⟨true, true, true, f7, f8, _, _, _, _, _, _, _, _, _, rfl, rfl, HJ.out.bld⟩
      · refine op_step (i := 7) (o := { dst := some 8, op := Go.Op.alloc 43, type := 0, pos := "ref.go:16", after := #[], guard := none }) rfl (fun K hK => ?_)
        subst hA0
        simp only [putsA, Act.put, List.setIfInBounds_toArray, List.set_cons_zero, List.set_cons_succ]
        go_simp
        refine hK.out _ _ ?_
        exact ⟨f2, f5, f6, true, f8, _, _, _, _, _, _, _, _, _, rfl, rfl, HJ.out.al⟩
      · refine op_step (i := 8) (o := { dst := none, op := Go.Op.store 43 (Go.Operand.tmp 8) (Go.Operand.tmp 66), type := 0, pos := "ref.go:16", after := #[{ on := 7, ground := Go.Ground.data }, { on := 6, ground := Go.Ground.data }, { on := 5, ground := Go.Ground.chain }, { on := 0, ground := Go.Ground.phase }, { on := 1, ground := Go.Ground.phase }, { on := 2, ground := Go.Ground.phase }, { on := 3, ground := Go.Ground.phase }, { on := 4, ground := Go.Ground.phase }, { on := 5, ground := Go.Ground.phase }, { on := 6, ground := Go.Ground.phase }, { on := 7, ground := Go.Ground.phase }], guard := none }) rfl (fun K hK => ?_)
        subst hA0
        obtain ⟨rfl, _⟩ := HJ.out.k7 rfl
        obtain ⟨_, _, rfl⟩ := HJ.out.k6 rfl
        have zz := HJ.out.zero
        simp only [putsA, Act.put, List.setIfInBounds_toArray, List.set_cons_zero, List.set_cons_succ]
        go_simp
        refine hK.out _ _ ?_
        exact ⟨true, true, true, true, true, _, _, _, _, _, _, _, _, _, rfl, rfl, HJ.out.st (Nat.lt_of_le_of_lt (Nat.zero_le _) HIL.out) (Nat.lt_of_le_of_lt (Nat.zero_le _) HIH.out)⟩
  case rest =>
    clear z1
    obtain ⟨g7, a1, c1, a2, c2, rfl, v1, v2, v3, v4, v5, v6, v7⟩ := hcut
    have HBWb := hid (HBWa.out.trans (v7.mono HBWa.out.size))
    have z1 := (HX.out _ HBWb.out).1
    have HV := hid (And.intro v1 (And.intro v2 (And.intro v3 (And.intro v4 (And.intro v5 v6)))))
    clear v1 v2 v3 v4 v5 v6 v7
    rename World => V1
    go_upto_region 5 with (fail)
    go_cut [9] (fun s9 wx => OneP V1 lo hi lo.length hi.length s9 wx)
    case first =>
      have zd := HX.out _ HBWb.out.drew
      refine wp_region_held_drew (S := fun w' => w'.cell? ⟨w.heap.size, 0, none⟩ = some (.slice (some ⟨b1, o1, none⟩) lo.length c) ∧ w'.cell? ⟨w.heap.size, 1, none⟩ = some (.slice (some ⟨b2, o2, none⟩) hi.length c')) (by kernel_rfl) (by exact zd.1) (fun hHeld => ?_)
      refine wpAnyH_take (i := 0) (oi := { dst := some 67, op := Go.Op.fieldAddr 43 (Go.Operand.tmp 2) 0, type := 0, pos := "ref.go:17", after := #[], guard := none }) (v := ?vb0) rfl (by kernel_rfl) (by kernel_rfl) (by kernel_rfl) (fun _ _ _ h => h) (Or.inl ⟨by rfl, ?hyb0⟩) (by assumption) ?restb0
      case hyb0 => (intro w hSw; (try dsimp only at hSw); go_simp; (try with_reducible rfl))
      simp only [Act.put, List.setIfInBounds_toArray, List.set_cons_zero, List.set_cons_succ]
      refine wpAnyH_take (i := 1) (oi := { dst := some 68, op := Go.Op.load 41 (Go.Operand.tmp 67), type := 41, pos := "ref.go:17", after := #[{ on := 0, ground := Go.Ground.data }], guard := none }) (v := ?vb1) rfl (by kernel_rfl) (by kernel_rfl) (by kernel_rfl) (fun _ _ _ h => h) (Or.inl ⟨by rfl, ?hyb1⟩) (by assumption) ?restb1
      case hyb1 => (intro w hSw; (try dsimp only at hSw); go_simp; (try with_reducible rfl))
      simp only [Act.put, List.setIfInBounds_toArray, List.set_cons_zero, List.set_cons_succ]
      refine wpAnyH_take (i := 3) (oi := { dst := some 70, op := Go.Op.fieldAddr 43 (Go.Operand.tmp 2) 1, type := 0, pos := "ref.go:17", after := #[], guard := none }) (v := ?vb3) rfl (by kernel_rfl) (by kernel_rfl) (by kernel_rfl) (fun _ _ _ h => h) (Or.inl ⟨by rfl, ?hyb3⟩) (by assumption) ?restb3
      case hyb3 => (intro w hSw; (try dsimp only at hSw); go_simp; (try with_reducible rfl))
      simp only [Act.put, List.setIfInBounds_toArray, List.set_cons_zero, List.set_cons_succ]
      refine wpAnyH_take (i := 4) (oi := { dst := some 71, op := Go.Op.load 41 (Go.Operand.tmp 70), type := 41, pos := "ref.go:17", after := #[{ on := 3, ground := Go.Ground.data }], guard := none }) (v := ?vb4) rfl (by kernel_rfl) (by kernel_rfl) (by kernel_rfl) (fun _ _ _ h => h) (Or.inl ⟨by rfl, ?hyb4⟩) (by assumption) ?restb4
      case hyb4 => (intro w hSw; (try dsimp only at hSw); go_simp; (try with_reducible rfl))
      simp only [Act.put, List.setIfInBounds_toArray, List.set_cons_zero, List.set_cons_succ]
      refine inv_start fun A0 hA0 => ?_
      refine wpAnyH_inv (fun l a v => ∃ f2 f5 f6 f7 f8 u62 u65 u66 u8 a1 c1 a2 c2 g, l = #[true, true, f2, true, true, f5, f6, f7, f8] ∧ a = putsB A0 u62 u65 u66 u8 ∧ KK V1 lo hi lo.length hi.length f2 f5 f6 f7 f8 u62 u65 u66 u8 a1 c1 a2 c2 g v) ?hS ?hst ?hen _ _ _ _ ?hI ?hl
      case hS =>
        rintro l a v ⟨_, _, _, _, _, _, _, _, _, _, _, _, _, _, _, _, hj⟩
        exact (HX.out _ (HBWb.out.trans (hj.below.mono HBWb.out.size))).1
      case hI =>
        exact ⟨false, false, false, false, false, _, _, _, _, 0, 0, 0, 0, 0, rfl, by rw [hA0]; rfl, ⟨(Below.refl _ _).drew, nofun, nofun, nofun, nofun, nofun⟩⟩
      case hl => decide
      case hen =>
        rintro l a v ⟨f2, f5, f6, f7, f8, u62, u65, u66, u8, a1, c1, a2, c2, g, rfl, rfl, hj⟩ hr
        obtain ⟨rfl, rfl, rfl, rfl, rfl⟩ := doneR5 _ _ _ _ _ hr
        have HJ := hid hj.fin
        clear hj hr
        subst hA0
        simp only [putsB, Act.put, List.setIfInBounds_toArray, List.set_cons_zero, List.set_cons_succ]
        go_wp2_with fail
        go_meet
        exact HJ.out
      case hst =>
        rintro l a v i ⟨f2, f5, f6, f7, f8, u62, u65, u66, u8, a1, c1, a2, c2, g, rfl, rfl, hj⟩ hi
        have HJ := hid hj
        have HBv := hid (HBWb.out.trans (hj.below.mono HBWb.out.size))
        clear hj
        rcases readyR5 _ _ _ _ _ _ hi with ⟨rfl, rfl⟩ | ⟨rfl, rfl, rfl⟩ | ⟨rfl, rfl, rfl, rfl⟩ | ⟨rfl, rfl⟩ | ⟨rfl, rfl, rfl, rfl, rfl, rfl⟩
        all_goals clear hi
        · refine op_step (i := 2) (o := { dst := some 69, op := Go.Op.call { callee := Go.Callee.value (Go.Operand.func 35), args := #[Go.Operand.tmp 68], argTypes := #[41] }, type := 41, pos := "ref.go:17", after := #[{ on := 1, ground := Go.Ground.data }], guard := none }) rfl (fun K hK => ?_)
          subst hA0
          simp only [putsB, Act.put, List.setIfInBounds_toArray, List.set_cons_zero, List.set_cons_succ]
          go_simp
          go_at_call 35
          refine (HCL.out _ HBv.out).mono ?_
          rintro e w4 ⟨a, c5, rfl, hr, hg, hb⟩
          refine hK.out _ _ ?_
          exact ⟨true, f5, f6, f7, f8, _, _, _, _, a, c5, _, _, _, rfl, rfl, HJ.out.call1 hr hg hb⟩
        · refine op_step (i := 5) (o := { dst := some 72, op := Go.Op.call { callee := Go.Callee.value (Go.Operand.func 35), args := #[Go.Operand.tmp 71], argTypes := #[41] }, type := 41, pos := "ref.go:17", after := #[{ on := 4, ground := Go.Ground.data }, { on := 2, ground := Go.Ground.chain }], guard := none }) rfl (fun K hK => ?_)
          subst hA0
          simp only [putsB, Act.put, List.setIfInBounds_toArray, List.set_cons_zero, List.set_cons_succ]
          go_simp
          go_at_call 35
          refine (HCH.out _ HBv.out).mono ?_
          rintro e w4 ⟨a, c5, rfl, hr, hg, hb⟩
          refine hK.out _ _ ?_
          exact ⟨true, true, f6, f7, f8, _, _, _, _, _, _, a, c5, _, rfl, rfl, HJ.out.call2 hr hg hb⟩
        · refine op_step (i := 6) (o := { dst := some 73, op := Go.Op.build 43 #[(0, Go.Operand.tmp 69), (1, Go.Operand.tmp 72)], type := 43, pos := "ref.go:17", after := #[{ on := 2, ground := Go.Ground.data }, { on := 5, ground := Go.Ground.data }], guard := none }) rfl (fun K hK => ?_)
          subst hA0
          obtain ⟨rfl, _⟩ := HJ.out.k2 rfl
          obtain ⟨_, rfl, _⟩ := HJ.out.k5 rfl
          simp only [putsB, Act.put, List.setIfInBounds_toArray, List.set_cons_zero, List.set_cons_succ]
          go_simp
          refine hK.out _ _ ?_
          exact ⟨true, true, true, f7, f8, _, _, _, _, _, _, _, _, _, rfl, rfl, HJ.out.bld⟩
        · refine op_step (i := 7) (o := { dst := some 9, op := Go.Op.alloc 43, type := 0, pos := "ref.go:17", after := #[], guard := none }) rfl (fun K hK => ?_)
          subst hA0
          simp only [putsB, Act.put, List.setIfInBounds_toArray, List.set_cons_zero, List.set_cons_succ]
          go_simp
          refine hK.out _ _ ?_
          exact ⟨f2, f5, f6, true, f8, _, _, _, _, _, _, _, _, _, rfl, rfl, HJ.out.al⟩
        · refine op_step (i := 8) (o := { dst := none, op := Go.Op.store 43 (Go.Operand.tmp 9) (Go.Operand.tmp 73), type := 0, pos := "ref.go:17", after := #[{ on := 7, ground := Go.Ground.data }, { on := 6, ground := Go.Ground.data }, { on := 5, ground := Go.Ground.chain }, { on := 0, ground := Go.Ground.phase }, { on := 1, ground := Go.Ground.phase }, { on := 2, ground := Go.Ground.phase }, { on := 3, ground := Go.Ground.phase }, { on := 4, ground := Go.Ground.phase }, { on := 5, ground := Go.Ground.phase }, { on := 6, ground := Go.Ground.phase }, { on := 7, ground := Go.Ground.phase }], guard := none }) rfl (fun K hK => ?_)
          subst hA0
          obtain ⟨rfl, _⟩ := HJ.out.k7 rfl
          obtain ⟨_, _, rfl⟩ := HJ.out.k6 rfl
          have zz := HJ.out.zero
          simp only [putsB, Act.put, List.setIfInBounds_toArray, List.set_cons_zero, List.set_cons_succ]
          go_simp
          refine hK.out _ _ ?_
          exact ⟨true, true, true, true, true, _, _, _, _, _, _, _, _, _, rfl, rfl, HJ.out.st (Nat.lt_of_le_of_lt (Nat.zero_le _) HIL.out) (Nat.lt_of_le_of_lt (Nat.zero_le _) HIH.out)⟩
    case rest =>
      clear z1
      obtain ⟨g8, a3, c3, a4, c4, rfl, u1, u2, u3, u4, u5, u6, u7⟩ := hcut
      rename World => V2
      obtain ⟨v1, v2, v3, v4, v5, v6⟩ := HV.out
      have HM := hid (show Mid W V2 g7 g8 lo hi lo hi lo.length hi.length c1 c2 c3 c4 a1 a2 a3 a4 from
        ⟨HBWb.out.trans (u7.mono HBWb.out.size), (u7.block _ (heap_lt v2)).trans v2, u2, v3.below u7, v4.below u7, u3, u4, Nat.le_trans HBWa.out.size v5, v6, Nat.lt_of_lt_of_le v4.lt u5, u6, Nat.le_trans HBWa.out.size v1, Nat.le_trans HBWb.out.size u1⟩)
      clear u1 u2 u3 u4 u5 u6 u7 v1 v2 v3 v4 v5 v6 HV
      have zz := HM.out.cells
      have f2 := HM.out.r2.frozen i
      have r2 := HM.out.r2.cell i HIH.out
      have HM2 := hid (HM.out.put2 i mid HIH.out)
      obtain ⟨v2, hv2⟩ : ∃ v2, V2.setCell ⟨a2, i, none⟩ (.int .u32 (mid : Int)) = v2 := ⟨_, rfl⟩
      rw [hv2] at HM2
      have zz2 := HM2.out.cells
      have f3 := HM2.out.r3.frozen i
      have r3 := HM2.out.r3.cell i HIL.out
      have HM4 := hid (show Mid W (v2.setCell ⟨a3, i, none⟩ (.int .u32 ((mid : Int) + 1))) g7 g8 lo (hi.set i mid) (lo.set i (mid + 1)) hi lo.length hi.length c1 c2 c3 c4 a1 a2 a3 a4 from HM2.out.put3 i (mid + 1) HIL.out)
      obtain ⟨v4, hv4⟩ : ∃ v4, v2.setCell ⟨a3, i, none⟩ (.int .u32 ((mid : Int) + 1)) = v4 := ⟨_, rfl⟩
      rw [hv4] at HM4
      have zz4 := HM4.out.cells
      have yo := HQ.out.outs HM4.out.below
      have hg8 : w.heap.size + 3 ≤ g8 := by have := HM4.out.g8; have := HQ.out.size; omega
      have far : ∀ (u v : Value) (o : Nat), ((v4.setCell ⟨w.heap.size + 1, 0, none⟩ u).setCell ⟨w.heap.size + 1, 1, none⟩ v).cell? ⟨g8, o, none⟩ = v4.cell? ⟨g8, o, none⟩ := fun u v o => by
        rw [World.cell?_setCell_other _ _ _ _ (fun e => by injection e; omega), World.cell?_setCell_other _ _ _ _ (fun e => by injection e; omega)]
      have zf0 := (far (.slice (some ⟨a1, 0, none⟩) lo.length c1) (.slice (some ⟨a2, 0, none⟩) hi.length c2) 0).trans zz4.2.1
      have zf1 := (far (.slice (some ⟨a1, 0, none⟩) lo.length c1) (.slice (some ⟨a2, 0, none⟩) hi.length c2) 1).trans zz4.2.2
      clear far hg8
      go_wp2_with fail
      clear f3 r3 hv4 f2 r2 hv2 zz zz2
      go_region
      all_goals
        go_wp2_with fail
        have y2 := HQ.out.stored HM4.out.below (.slice (some ⟨a1, 0, none⟩) lo.length c1) (.slice (some ⟨a2, 0, none⟩) hi.length c2) (.slice (some ⟨a3, 0, none⟩) lo.length c3) (.slice (some ⟨a4, 0, none⟩) hi.length c4) rfl
        refine bodyPost_ret (v := .tuple #[.agg #[.slice (some ⟨a1, 0, none⟩) lo.length c1, .slice (some ⟨a2, 0, none⟩) hi.length c2], .agg #[.slice (some ⟨a3, 0, none⟩) lo.length c3, .slice (some ⟨a4, 0, none⟩) hi.length c4], .bool true]) (by simp [results, Try.results20, go_sem, y2.1]) rfl ?_
        exact HalfNew.post (half_yes HN.out HMM.out HM4.out (by have := HQ.out.size; omega) ⟨y2.2.2.size, y2.2.2.block⟩ y2.2.1.drew (mem_of HP.out) (mem_of HPQ.out) HSM.out)
theorem refHalves_ok (lo hi : List Nat) (p q : Option Addr) (c c' : Nat) (a : Int) (w : World) (hp : Pt w p lo) (hq : Pt w q hi) (hl : lo.length ≤ 1000000) :
    Calls Try.prog 20 #[.agg #[.slice p lo.length c, .slice q hi.length c'], .int .i64 a] w (HalfPost w lo hi a) := by
  cases h1 : boxB lo hi (lo.length : Int) with
  | false => exact refHalves_no1 lo hi p q c c' a w hp hq hl h1
  | true =>
    by_cases h2 : a < 0
    · exact refHalves_no2 lo hi p q c c' a w hp hq hl h1 h2
    · by_cases h3 : (lo.length : Int) ≤ a
      · exact refHalves_no3 lo hi p q c c' a w hp hq hl h1 h2 h3
      · have h5 : decide (0 ≤ a ∧ a < (lo.length : Int)) = true := by simp; omega
        by_cases h4 : lo.getD a.toNat 0 = hi.getD a.toNat 0
        · exact refHalves_no4 lo hi p q c c' a w hp hq hl h1 h5 h4
        · exact refHalves_yes lo hi p q c c' a w hp hq hl h1 h5 h4
end Go.Proofs.Ytnmhdlincgefeaa.Pt

