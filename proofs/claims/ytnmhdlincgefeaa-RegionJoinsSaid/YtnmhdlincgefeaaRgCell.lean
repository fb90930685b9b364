/- cell of region. -/
import Derived.Test.YtnmhdlincgefeaaRgBack
import Derived.Test.YtnmhdlincgefeaaRgInR
namespace Go.Proofs.Ytnmhdlincgefeaa.Rg
open Go.RowKit Go.Shelf
open Go.Lib (hid)
open Go.Proofs.Ytnmhdlincgefeaa.Sl
attribute [local go_sem] Oper.semAt_some

/-- a row of ints, new -/
def NewRow (w : World) (l : List Int) (e : Ending) (w' : World) : Prop := ∃ g c, e = .returned (.slice (some ⟨g, 0, none⟩) l.length c) ∧ w.heap.size ≤ g ∧ l.length ≤ c ∧ Row w' g l ∧ Below w.heap.size w w'
/-- the row when k rounds are over -/
def halfC (S : List Nat) (n0 K : Nat) : List Int := List.replicate K 0 ++ zs (cellL (S.drop K) n0)
theorem halfC_len (S : List Nat) (n0 K : Nat) (h : K ≤ S.length) : (halfC S n0 K).length = S.length := by
  unfold halfC; rw [List.length_append, List.length_replicate, zs_len, cellL_length, List.length_drop]; omega
theorem halfC_step (S : List Nat) (n0 k : Nat) (h : k < S.length) : (halfC S n0 (k + 1)).set k ((((n0 / prodL (S.drop (k + 1))) % S[k] : Nat)) : Int) = halfC S n0 k := by
  unfold halfC
  rw [fill_back, cellL_drop S n0 k h]
  simp [zs]
/-- what a round does to the row and to what is left of the place -/
def stepC (S : List Nat) (r : List Int × Nat) (x : Fin S.length) : List Int × Nat := (r.1.set x.1 ((r.2 % S[x.1] : Nat) : Int), r.2 / S[x.1])
def foldC (S : List Nat) (n0 : Nat) (pre : List (Fin S.length)) : List Int × Nat := pre.foldl (stepC S) (List.replicate S.length 0, n0)
theorem foldC_snoc (S : List Nat) (n0 : Nat) (pre : List (Fin S.length)) (x : Fin S.length) : foldC S n0 (pre ++ [x]) = ((foldC S n0 pre).1.set x.1 (((foldC S n0 pre).2 % S[x.1] : Nat) : Int), (foldC S n0 pre).2 / S[x.1]) := by
  simp only [foldC, List.foldl_append, List.foldl_cons, List.foldl_nil]; rfl
theorem foldC_len (S : List Nat) (n0 : Nat) (pre : List (Fin S.length)) : (foldC S n0 pre).1.length = S.length ∧ (foldC S n0 pre).2 ≤ n0 := by
  have : ∀ (pre : List (Fin S.length)) (r : List Int × Nat), r.1.length = S.length → (pre.foldl (stepC S) r).1.length = S.length ∧ (pre.foldl (stepC S) r).2 ≤ r.2 := by
    intro pre
    induction pre with
    | nil => intro r h; exact ⟨h, Nat.le_refl _⟩
    | cons x pre ih =>
      intro r h
      have := ih (stepC S r x) (by simp [stepC, h])
      exact ⟨this.1, Nat.le_trans this.2 (Nat.div_le_self _ _)⟩
  exact this pre _ (by simp)
theorem foldC_upto (S : List Nat) (n0 k : Nat) (hk : k ≤ S.length) : foldC S n0 (uptoI S k) = (halfC S n0 (S.length - k), n0 / prodL (S.drop (S.length - k))) := by
  induction k with
  | zero =>
    have : uptoI S 0 = [] := rfl
    rw [this, Nat.sub_zero]
    unfold halfC
    rw [List.drop_length]
    simp [foldC, cellL, zs, prodL]
  | succ k ih =>
    have hq : S.length - 1 - k < S.length := by omega
    rw [uptoI_succ S k _ (by omega) rfl hq, foldC_snoc, ih (by omega)]
    have e : S.length - k = S.length - 1 - k + 1 := by omega
    have e2 : S.length - (k + 1) = S.length - 1 - k := by omega
    rw [e, e2]
    refine Prod.ext ?_ ?_
    · exact halfC_step S n0 _ hq
    · show n0 / prodL (S.drop (S.length - 1 - k + 1)) / S[S.length - 1 - k] = _
      rw [prodL_drop S _ hq, Nat.mul_comm, Nat.div_div_eq_div_mul]
theorem foldC_all (S : List Nat) (n0 : Nat) : (foldC S n0 (uptoI S S.length)).1 = zs (cellL S n0) := by
  rw [foldC_upto S n0 _ (Nat.le_refl _), Nat.sub_self]
  simp [halfC]
/-- what holds when these numbers have come -/
structure InvC (S : List Nat) (n0 n A : Nat) (w : World) (pre : List (Fin S.length)) (W : World) : Prop where
  row : Row W (A + 1) (foldC S n0 pre).1
  place : W.heap[A]? = some (.cells #[Value.int IntKind.i64 (((foldC S n0 pre).2 : Nat) : Int)] 3 (0, 0))
  out : W.heap[A + 2]? = some (.cells #[Value.slice (some { block := A + 1, off := 0 }) n n] 22 (0, 0))
  below : Below A w W
  size : A + 4 ≤ W.heap.size
theorem one_set {W : World} {A : Nat} {x y : Value} {t : TypeId} (h : W.heap[A]? = some (.cells #[x] t (0, 0))) : (W.setCell ⟨A, 0, none⟩ y).heap[A]? = some (.cells #[y] t (0, 0)) := by
  simp [World.setCell, Array.getElem?_modify, h]
set_option maxRecDepth 100000 in
set_option maxHeartbeats 2000000 in
theorem cell_in (S : List Nat) (n0 : Nat) (b o c : Nat) (w : World) (hbw : b < w.heap.size) (h : ∀ j (hj : j < S.length), w.cell? ⟨b, o + j, none⟩ = some (.int .i64 (S[j] : Int))) (hS : ∀ s ∈ S, 0 < s) (hs : S.length ≤ 6) (h0 : 0 < S.length) (hn : n0 ≤ 1000000) :
    CallsIn Fence.wide 9 Try.prog 40 #[.slice (some ⟨b, o, none⟩) S.length c, .int .i64 (n0 : Int)] w (NewRow w (zs (cellL S n0))) := by
  obtain ⟨n, hnl⟩ : ∃ n, S.length = n := ⟨_, rfl⟩
  have hm := smakeW n (by omega) (w.alloc (.cells #[.int .i64 (n0 : Int)] 3))
  rw [hnl]
  refine callsIn_of_wp_marks Try.func40 rfl trivial ?_ rfl
  simp only [Try.ntmps40, List.size_toArray, List.length_cons, List.length_nil, Nat.reduceAdd, Nat.reduceSub, Array.replicate_succ, Array.replicate_zero, List.push_toArray, List.append_toArray, List.nil_append, List.cons_append]
  gi_wp2_with (first
    | (gi_at_call 57; refine (backward_in Fence.wide _ trivial rfl _ _ _ _).mono ?_; rintro e w' ⟨rfl, rfl⟩)
    | (refine ⟨trivial, ?_⟩; gi_at_call 57; refine (backward_in Fence.wide _ trivial rfl _ _ _ _).mono ?_; rintro e w' ⟨rfl, rfl⟩))
  obtain ⟨A, hA⟩ : ∃ A, w.heap.size = A := ⟨_, rfl⟩
  rw [hA]
  obtain ⟨W0, hW0⟩ : ∃ W0, ((((w.alloc (Obj.cells #[Value.int IntKind.i64 (n0 : Int)] 3)).alloc (Obj.cells (iv (List.replicate n 0)).toArray 3)).alloc (Obj.cells #[Value.slice (some { block := A + 1, off := 0 }) n n] 22)).alloc (Obj.cells #[Value.slice (some { block := b, off := o }) n c] 22)) = W0 := ⟨_, rfl⟩
  have hs0 : W0.heap.size = A + 4 := by rw [← hW0]; simp [hA]
  have hB0 : Below A w W0 := by
    rw [← hW0]; exact ((((Below.refl _ w).alloc (by omega) _).alloc (by simp; omega) _).alloc (by simp; omega) _).alloc (by simp; omega) _
  have x0 : W0.heap[A]? = some (.cells #[Value.int IntKind.i64 (n0 : Int)] 3 (0, 0)) := by
    rw [← hW0, Below.heap_alloc _ _ _ (by simp; omega), Below.heap_alloc _ _ _ (by simp; omega), Below.heap_alloc _ _ _ (by simp; omega), ← hA]; exact heap_alloc_new w _
  have x1 : W0.heap[A + 1]? = some (.cells (iv (List.replicate n 0)).toArray 3 (0, 0)) := by
    rw [← hW0, Below.heap_alloc _ _ _ (by simp; omega), Below.heap_alloc _ _ _ (by simp; omega)]
    have := heap_alloc_new (w.alloc (Obj.cells #[Value.int IntKind.i64 (n0 : Int)] 3)) (Obj.cells (iv (List.replicate n 0)).toArray 3)
    rw [World.size_alloc, hA] at this; exact this
  have x2 : W0.heap[A + 2]? = some (.cells #[Value.slice (some { block := A + 1, off := 0 }) n n] 22 (0, 0)) := by
    rw [← hW0, Below.heap_alloc _ _ _ (by simp; omega)]
    have := heap_alloc_new ((w.alloc (Obj.cells #[Value.int IntKind.i64 (n0 : Int)] 3)).alloc (Obj.cells (iv (List.replicate n 0)).toArray 3)) (Obj.cells #[Value.slice (some { block := A + 1, off := 0 }) n n] 22)
    rw [World.size_alloc, World.size_alloc, hA] at this; exact this
  have x3 : W0.heap[A + 3]? = some (.cells #[Value.slice (some { block := b, off := o }) n c] 22 (0, 0)) := by
    rw [← hW0]
    have := heap_alloc_new (((w.alloc (Obj.cells #[Value.int IntKind.i64 (n0 : Int)] 3)).alloc (Obj.cells (iv (List.replicate n 0)).toArray 3)).alloc (Obj.cells #[Value.slice (some { block := A + 1, off := 0 }) n n] 22)) (Obj.cells #[Value.slice (some { block := b, off := o }) n c] 22)
    rw [World.size_alloc, World.size_alloc, World.size_alloc, hA] at this; exact this
  rw [hW0]
  clear hW0 hm
  have hr1 : Row W0 (A + 1) (List.replicate n 0) := ⟨[], by rw [List.append_nil]; exact x1⟩
  rw [hA] at hbw
  have hcs : ∀ j (hj : j < S.length), W0.cell? ⟨b, o + j, none⟩ = some (.int .i64 (S[j] : Int)) := fun j hj => (hB0.cell (p := ⟨b, o + j, none⟩) hbw).trans (h j hj)
  have hc3 : W0.cell? ⟨A + 3, 0, none⟩ = some (.slice (some ⟨b, o, none⟩) S.length c) := by rw [cell_of_row _ _ _ _ _ _ x3, hnl]; rfl
  refine wpIn_rangeFunc_ownH rfl (by omega) (gf := 64) (lb := #[.pointer (some ⟨A + 3, 0, none⟩)]) rfl trivial (enters_of Try.func64 (by kernel_rfl) rfl)
    (back_stops Fence.wide (9 - 1) trivial rfl (by omega) (A + 3) A b o c S (by omega) W0 (by omega) (by omega) hbw hc3 hcs) KpI.trans ?hKb (Below.refl _ _) (fun _ => rfl)
    (InvC S n0 n A w)
    (fun c pre W => False) ?hI ?hIx ?h0
    (fun x a' _ => a' = { tmps := #[Value.slice (some { block := b, off := o }) n c, Value.int IntKind.i64 (n0 : Int), undef, Value.pointer (some { block := A, off := 0 }), Value.slice none 0 0, Value.pointer (some { block := A + 1 + 1, off := 0 }), Value.int .i64 ((x.1 : Nat) : Int), Value.int .i64 ((S[x.1] : Nat) : Int),
          Value.slice (some { block := b, off := o }) n c, Value.int IntKind.i64 n, Value.slice (some { block := A + 1, off := 0 }) n n, Value.slice (some { block := b, off := o }) n c,
          Value.func (Fn.func 64) #[] #[Value.pointer (some { block := A + 1 + 1 + 1, off := 0 })], Value.int .i64 ((x.1 : Nat) : Int), Value.int .i64 ((S[x.1] : Nat) : Int), undef, undef, undef, undef, undef, undef, undef, undef, undef, undef], defers := [] })
    (fun x a' _ X Y row hs hg hr => hs) ?assign ?body ?done ?stop
  case hKb =>
    intro W l o1 o2 h1 h2 h3 h4
    exact ⟨by simp, fun k hk => World.putObj_heap_other (by omega)⟩
  case hI =>
    rintro s X Y r ⟨h1, h2, h3, h4, h5⟩ hg hr
    have kb : ∀ j, j < A + 4 → Y.heap[j]? = X.heap[j]? := fun j hj => hg.block j (by omega) (fun e => by have := (hr j e.symm).1; omega)
    exact ⟨h1.keep (kb _ (by omega)), (kb _ (by omega)).trans h2, (kb _ (by omega)).trans h3, h4.grown hg (by omega) (fun j hj => by have := (hr j hj).1; omega), Nat.le_trans h5 hg.size⟩
  case hIx => intro c s X Y r hs; exact hs.elim
  case h0 =>
    refine ⟨?_, x0, x2, hB0, by omega⟩
    show Row W0 (A + 1) (List.replicate S.length 0)
    rw [hnl]; exact hr1
  case assign =>
    rintro l pre x W K ⟨h1, h2, h3, h4, h5⟩ hK
    unfold encI
    gi_wp2
    exact hK _ _ (KeepsFrom.refl _ _) (KpI.refl _ _ _) ⟨h1, h2, h3, h4, h5⟩ rfl
  case body =>
    rintro l pre x a' W hl ⟨r, hr⟩ ⟨h1, h2, h3, h4, h5⟩ rfl hlt
    have hxl : x.1 < (foldC S n0 pre).1.length := by rw [(foldC_len S n0 pre).1]; exact x.2
    have hPn := (foldC_len S n0 pre).2
    have d0 : W.cell? ⟨A, 0, none⟩ = some (.int .i64 (((foldC S n0 pre).2 : Nat) : Int)) := by rw [cell_of_row _ _ _ _ _ _ h2]; rfl
    have d2 : W.cell? ⟨A + 2, 0, none⟩ = some (.slice (some ⟨A + 1, 0, none⟩) n n) := by rw [cell_of_row _ _ _ _ _ _ h3]; rfl
    have d1 := h1.cell x.1 hxl
    have f1 := h1.frozen x.1
    have f0 : W.frozen? ⟨A, 0, none⟩ = false := (show Row W A [(((foldC S n0 pre).2 : Nat) : Int)] from ⟨[], by rw [List.append_nil]; exact h2⟩).frozen 0
    have hs1 : 0 < S[x.1] := hS _ (List.getElem_mem x.2)
    have hxn : x.1 < n := by rw [← hnl]; exact x.2
    have HSN := hid (foldC_snoc S n0 pre x)
    have H1 := hid h1; have H2 := hid h2; have H3 := hid h3; have H4 := hid h4; have H5 := hid h5
    clear h1 h2 h3 h4 h5
    generalize (foldC S n0 pre).1[x.1] = v at d1
    generalize (foldC S n0 pre).2 = P at *
    generalize (foldC S n0 pre).1 = L at *
    obtain ⟨i, hi⟩ := x
    dsimp only at *
    generalize S[i] = s at *
    have es2 : ¬ (s = 0) := by omega
    have hsN := hid hs1
    have q0 := d2
    have q1 : ∀ u, (W.setCell ⟨A + 1, i, none⟩ u).cell? ⟨A + 2, 0, none⟩ = some (.slice (some ⟨A + 1, 0, none⟩) n n) := fun u => (World.cell?_of_block (heap_setCell_other _ _ _ _ (by simp))).trans d2
    have q2 : ∀ u u', ((W.setCell ⟨A + 1, i, none⟩ u).setCell ⟨A, 0, none⟩ u').cell? ⟨A + 2, 0, none⟩ = some (.slice (some ⟨A + 1, 0, none⟩) n n) := fun u u' => (World.cell?_of_block (heap_setCell_other _ _ _ _ (by simp))).trans (q1 u)
    have v0 : ∀ u, (W.setCell ⟨A + 1, i, none⟩ u).cell? ⟨A, 0, none⟩ = some (.int .i64 (P : Int)) := fun u => (World.cell?_of_block (heap_setCell_other _ _ _ _ (by simp))).trans d0
    have em : (P : Int).tmod (s : Int) = ((P % s : Nat) : Int) := (Int.ofNat_tmod P s).symm
    have ed : IntKind.i64.wrap ((P : Int) / (s : Int)) = ((P / s : Nat) : Int) := by
      rw [← Int.natCast_ediv]
      have hd := Nat.div_le_self P s
      generalize P / s = d at hd
      exact Go.IntWalk.i64_in _ (by omega)
    have HFIN := hid (show KeepsFrom W0.heap.size W (((W.setCell ⟨A + 1, i, none⟩ (.int .i64 ((P : Int).tmod (s : Int)))).setCell ⟨A, 0, none⟩ (.int .i64 (IntKind.i64.wrap ((P : Int) / (s : Int))))).drew) ∧ KpI A (A + 3) W (((W.setCell ⟨A + 1, i, none⟩ (.int .i64 ((P : Int).tmod (s : Int)))).setCell ⟨A, 0, none⟩ (.int .i64 (IntKind.i64.wrap ((P : Int) / (s : Int))))).drew) ∧ InvC S n0 n A w (pre ++ [⟨i, hi⟩]) (((W.setCell ⟨A + 1, i, none⟩ (.int .i64 ((P : Int).tmod (s : Int)))).setCell ⟨A, 0, none⟩ (.int .i64 (IntKind.i64.wrap ((P : Int) / (s : Int))))).drew) by
      rw [em, ed]
      refine ⟨?_, ⟨?_, ?_⟩, ?_⟩
      · exact ((KeepsOthers.setCell W ⟨A + 1, i, none⟩ _).from _).trans (KeepsFrom.trans ((KeepsOthers.setCell _ ⟨A, 0, none⟩ _).from _) ⟨Nat.le_refl _, fun k o _ hk _ => hk⟩)
      · show W.heap.size ≤ ((W.setCell ⟨A + 1, i, none⟩ _).setCell ⟨A, 0, none⟩ _).heap.size
        rw [World.size_setCell, World.size_setCell]; exact Nat.le_refl _
      · intro j hj
        show ((W.setCell ⟨A + 1, i, none⟩ _).setCell ⟨A, 0, none⟩ _).heap[j]? = _
        rw [heap_setCell_other _ _ _ _ (by show j ≠ A; omega), heap_setCell_other _ _ _ _ (by show j ≠ A + 1; omega)]
      · refine ⟨?_, ?_, ?_, ?_, ?_⟩
        · rw [HSN.out]; exact ((H1.out.set i hxl ((P % s : Nat) : Int)).keep (heap_setCell_other _ _ _ _ (by show A + 1 ≠ A; omega))).keep rfl
        · rw [HSN.out]; exact one_set ((heap_setCell_other _ _ _ _ (by show A ≠ A + 1; omega)).trans H2.out)
        · show ((W.setCell ⟨A + 1, i, none⟩ _).setCell ⟨A, 0, none⟩ _).heap[A + 2]? = _
          rw [heap_setCell_other _ _ _ _ (by show A + 2 ≠ A; omega), heap_setCell_other _ _ _ _ (by show A + 2 ≠ A + 1; omega)]; exact H3.out
        · exact ((H4.out.setCell (p := ⟨A + 1, i, none⟩) (by show A ≤ A + 1; omega) _).setCell (p := ⟨A, 0, none⟩) (Nat.le_refl _) _).drew
        · show A + 4 ≤ ((W.setCell ⟨A + 1, i, none⟩ _).setCell ⟨A, 0, none⟩ _).heap.size
          rw [World.size_setCell, World.size_setCell]; exact H5.out)
    clear em ed
    gi_wp2
    refine region_in (S := (fun V => V.cell? ⟨A + 2, 0, none⟩ = some (.slice (some ⟨A + 1, 0, none⟩) n n))) (by kernel_rfl) (by kernel_rfl) (by intro _ _ h; exact h) (by exact q0) (fun hHeld => ?_)
    refine wpAnyH_take (i := 1) (oi := { dst := some 16, op := Op.move (Operand.tmp 6), type := 3, pos := "region.go:78", after := #[], guard := none }) (v := ?vc1) rfl (by kernel_rfl) (by kernel_rfl) (by kernel_rfl) (fun _ _ _ h => h) (Or.inl ⟨by rfl, ?hyc1⟩) (by assumption) ?restc1
    case hyc1 => (intro w hSw; (try dsimp only at hSw); go_simp; (try with_reducible rfl))
    simp only [Act.put, List.setIfInBounds_toArray, List.set_cons_zero, List.set_cons_succ]
    refine wpAnyH_take (i := 3) (oi := { dst := some 18, op := Op.move (Operand.tmp 7), type := 3, pos := "region.go:78", after := #[], guard := none }) (v := ?vc3) rfl (by kernel_rfl) (by kernel_rfl) (by kernel_rfl) (fun _ _ _ h => h) (Or.inl ⟨by rfl, ?hyc3⟩) (by assumption) ?restc3
    case hyc3 => (intro w hSw; (try dsimp only at hSw); go_simp; (try with_reducible rfl))
    simp only [Act.put, List.setIfInBounds_toArray, List.set_cons_zero, List.set_cons_succ]
    refine wpAnyH_take (i := 6) (oi := { dst := some 21, op := Op.move (Operand.tmp 7), type := 3, pos := "region.go:78", after := #[], guard := none }) (v := ?vc6) rfl (by kernel_rfl) (by kernel_rfl) (by kernel_rfl) (fun _ _ _ h => h) (Or.inl ⟨by rfl, ?hyc6⟩) (by assumption) ?restc6
    case hyc6 => (intro w hSw; (try dsimp only at hSw); go_simp; (try with_reducible rfl))
    simp only [Act.put, List.setIfInBounds_toArray, List.set_cons_zero, List.set_cons_succ]
    refine wpAnyH_take (i := 0) (oi := { dst := some 15, op := Op.load 22 (Operand.tmp 5), type := 22, pos := "region.go:78", after := #[], guard := none }) (v := ?vc0) rfl (by kernel_rfl) (by kernel_rfl) (by kernel_rfl) (fun _ _ _ h => h) (Or.inl ⟨by rfl, ?hyc0⟩) (by assumption) ?restc0
    case hyc0 => (intro w hSw; (try dsimp only at hSw); go_simp; (try with_reducible rfl))
    simp only [Act.put, List.setIfInBounds_toArray, List.set_cons_zero, List.set_cons_succ]
    refine wpAnyH_ready (rs := [2, 5]) (by kernel_rfl) (by simp) (AllReadyH.cons (o := { dst := some 17, op := Op.load 3 (Operand.tmp 3), type := 3, pos := "region.go:78", after := #[], guard := none }) rfl (fun K hK => ?_) (AllReadyH.cons (o := { dst := some 20, op := Op.load 3 (Operand.tmp 3), type := 3, pos := "region.go:78", after := #[], guard := none }) rfl (fun K hK => ?_) AllReadyH.nil))
    · go_simp
      refine hK.out _ _ (by exact q0) (fun hHeld => ?_)
      clear hK K
      refine wpAnyH_take (i := 4) (oi := { dst := some 19, op := Op.binOp BinOp.rem 3 (Operand.tmp 17) (Operand.tmp 18) 3, type := 3, pos := "region.go:78", after := #[{ on := 2, ground := Ground.data }, { on := 3, ground := Ground.data }], guard := none }) (v := ?vca4) rfl (by kernel_rfl) (by kernel_rfl) (by kernel_rfl) (fun _ _ _ h => h) (Or.inl ⟨by rfl, ?hyca4⟩) (by assumption) ?restca4
      case hyca4 => (intro w hSw; (try dsimp only at hSw); go_simp; (try with_reducible rfl))
      simp only [Act.put, List.setIfInBounds_toArray, List.set_cons_zero, List.set_cons_succ]
      refine wpAnyH_take (i := 8) (oi := { dst := some 23, op := Op.indexAddr 22 (Operand.tmp 15) (Operand.tmp 16), type := 0, pos := "region.go:78", after := #[{ on := 0, ground := Ground.data }, { on := 1, ground := Ground.data }, { on := 0, ground := Ground.phase }, { on := 1, ground := Ground.phase }, { on := 2, ground := Ground.phase }, { on := 3, ground := Ground.phase }, { on := 4, ground := Ground.phase }, { on := 5, ground := Ground.textOnly Departure.inlinedCapture }, { on := 6, ground := Ground.textOnly Departure.lateStores }, { on := 7, ground := Ground.textOnly Departure.inlinedCapture }], guard := none }) (v := ?vca8) rfl (by kernel_rfl) (by kernel_rfl) (by kernel_rfl) (fun _ _ _ h => h) (Or.inl ⟨by rfl, ?hyca8⟩) (by assumption) ?restca8
      case hyca8 => (intro w hSw; (try dsimp only at hSw); go_simp; (try with_reducible rfl))
      simp only [Act.put, List.setIfInBounds_toArray, List.set_cons_zero, List.set_cons_succ]
      refine wpAnyH_ready (rs := [5, 9]) (by kernel_rfl) (by simp) (AllReadyH.cons (o := { dst := some 20, op := Op.load 3 (Operand.tmp 3), type := 3, pos := "region.go:78", after := #[], guard := none }) rfl (fun K hK => ?_) (AllReadyH.cons (o := { dst := none, op := Op.store 3 (Operand.tmp 23) (Operand.tmp 19), type := 0, pos := "region.go:78", after := #[{ on := 8, ground := Ground.data }, { on := 4, ground := Ground.data }, { on := 0, ground := Ground.phase }, { on := 1, ground := Ground.phase }, { on := 2, ground := Ground.phase }, { on := 3, ground := Ground.phase }, { on := 4, ground := Ground.phase }, { on := 5, ground := Ground.textOnly Departure.inlinedCapture }, { on := 6, ground := Ground.textOnly Departure.lateStores }, { on := 7, ground := Ground.textOnly Departure.inlinedCapture }], guard := none }) rfl (fun K hK => ?_) AllReadyH.nil))
      · go_simp
        refine hK.out _ _ (by exact q0) (fun hHeld => ?_)
        clear hK K
        refine wpAnyH_take (i := 7) (oi := { dst := some 22, op := Op.binOp BinOp.quo 3 (Operand.tmp 20) (Operand.tmp 21) 3, type := 3, pos := "region.go:78", after := #[{ on := 5, ground := Ground.data }, { on := 6, ground := Ground.data }], guard := none }) (v := ?vcaa7) rfl (by kernel_rfl) (by kernel_rfl) (by kernel_rfl) (fun _ _ _ h => h) (Or.inl ⟨by rfl, ?hycaa7⟩) (by assumption) ?restcaa7
        case hycaa7 => (intro w hSw; (try dsimp only at hSw); go_simp; (try with_reducible rfl))
        simp only [Act.put, List.setIfInBounds_toArray, List.set_cons_zero, List.set_cons_succ]
        refine wpAnyH_ready (rs := [9]) (by kernel_rfl) (by simp) (AllReadyH.cons (o := { dst := none, op := Op.store 3 (Operand.tmp 23) (Operand.tmp 19), type := 0, pos := "region.go:78", after := #[{ on := 8, ground := Ground.data }, { on := 4, ground := Ground.data }, { on := 0, ground := Ground.phase }, { on := 1, ground := Ground.phase }, { on := 2, ground := Ground.phase }, { on := 3, ground := Ground.phase }, { on := 4, ground := Ground.phase }, { on := 5, ground := Ground.textOnly Departure.inlinedCapture }, { on := 6, ground := Ground.textOnly Departure.lateStores }, { on := 7, ground := Ground.textOnly Departure.inlinedCapture }], guard := none }) rfl (fun K hK => ?_) AllReadyH.nil)
        go_simp
        refine hK.out _ _ (by exact q1 _) (fun hHeld => ?_)
        clear hK K
        refine wpAnyH_ready (rs := [10]) (by kernel_rfl) (by simp) (AllReadyH.cons (o := { dst := none, op := Op.store 3 (Operand.tmp 3) (Operand.tmp 22), type := 0, pos := "region.go:78", after := #[{ on := 7, ground := Ground.data }, { on := 9, ground := Ground.chain }, { on := 0, ground := Ground.phase }, { on := 1, ground := Ground.phase }, { on := 2, ground := Ground.phase }, { on := 3, ground := Ground.phase }, { on := 4, ground := Ground.phase }, { on := 5, ground := Ground.phase }, { on := 6, ground := Ground.phase }, { on := 7, ground := Ground.phase }, { on := 8, ground := Ground.phase }, { on := 9, ground := Ground.phase }], guard := none }) rfl (fun K hK => ?_) AllReadyH.nil)
        go_simp
        refine hK.out _ _ (by exact q2 _ _) (fun hHeld => ?_)
        clear hK K
        refine wpAnyH_done (by kernel_rfl) ?_ _
        exact HFIN.out
      · go_simp
        refine hK.out _ _ (by exact q1 _) (fun hHeld => ?_)
        clear hK K
        refine wpAnyH_ready (rs := [5]) (by kernel_rfl) (by simp) (AllReadyH.cons (o := { dst := some 20, op := Op.load 3 (Operand.tmp 3), type := 3, pos := "region.go:78", after := #[], guard := none }) rfl (fun K hK => ?_) AllReadyH.nil)
        go_simp
        refine hK.out _ _ (by exact q1 _) (fun hHeld => ?_)
        clear hK K
        refine wpAnyH_take (i := 7) (oi := { dst := some 22, op := Op.binOp BinOp.quo 3 (Operand.tmp 20) (Operand.tmp 21) 3, type := 3, pos := "region.go:78", after := #[{ on := 5, ground := Ground.data }, { on := 6, ground := Ground.data }], guard := none }) (v := ?vcab7) rfl (by kernel_rfl) (by kernel_rfl) (by kernel_rfl) (fun _ _ _ h => h) (Or.inl ⟨by rfl, ?hycab7⟩) (by assumption) ?restcab7
        case hycab7 => (intro w hSw; (try dsimp only at hSw); go_simp; (try with_reducible rfl))
        simp only [Act.put, List.setIfInBounds_toArray, List.set_cons_zero, List.set_cons_succ]
        refine wpAnyH_ready (rs := [10]) (by kernel_rfl) (by simp) (AllReadyH.cons (o := { dst := none, op := Op.store 3 (Operand.tmp 3) (Operand.tmp 22), type := 0, pos := "region.go:78", after := #[{ on := 7, ground := Ground.data }, { on := 9, ground := Ground.chain }, { on := 0, ground := Ground.phase }, { on := 1, ground := Ground.phase }, { on := 2, ground := Ground.phase }, { on := 3, ground := Ground.phase }, { on := 4, ground := Ground.phase }, { on := 5, ground := Ground.phase }, { on := 6, ground := Ground.phase }, { on := 7, ground := Ground.phase }, { on := 8, ground := Ground.phase }, { on := 9, ground := Ground.phase }], guard := none }) rfl (fun K hK => ?_) AllReadyH.nil)
        go_simp
        refine hK.out _ _ (by exact q2 _ _) (fun hHeld => ?_)
        clear hK K
        refine wpAnyH_done (by kernel_rfl) ?_ _
        exact HFIN.out
    · go_simp
      refine hK.out _ _ (by exact q0) (fun hHeld => ?_)
      clear hK K
      refine wpAnyH_take (i := 7) (oi := { dst := some 22, op := Op.binOp BinOp.quo 3 (Operand.tmp 20) (Operand.tmp 21) 3, type := 3, pos := "region.go:78", after := #[{ on := 5, ground := Ground.data }, { on := 6, ground := Ground.data }], guard := none }) (v := ?vcb7) rfl (by kernel_rfl) (by kernel_rfl) (by kernel_rfl) (fun _ _ _ h => h) (Or.inl ⟨by rfl, ?hycb7⟩) (by assumption) ?restcb7
      case hycb7 => (intro w hSw; (try dsimp only at hSw); go_simp; (try with_reducible rfl))
      simp only [Act.put, List.setIfInBounds_toArray, List.set_cons_zero, List.set_cons_succ]
      refine wpAnyH_ready (rs := [2]) (by kernel_rfl) (by simp) (AllReadyH.cons (o := { dst := some 17, op := Op.load 3 (Operand.tmp 3), type := 3, pos := "region.go:78", after := #[], guard := none }) rfl (fun K hK => ?_) AllReadyH.nil)
      go_simp
      refine hK.out _ _ (by exact q0) (fun hHeld => ?_)
      clear hK K
      refine wpAnyH_take (i := 4) (oi := { dst := some 19, op := Op.binOp BinOp.rem 3 (Operand.tmp 17) (Operand.tmp 18) 3, type := 3, pos := "region.go:78", after := #[{ on := 2, ground := Ground.data }, { on := 3, ground := Ground.data }], guard := none }) (v := ?vcb4) rfl (by kernel_rfl) (by kernel_rfl) (by kernel_rfl) (fun _ _ _ h => h) (Or.inl ⟨by rfl, ?hycb4⟩) (by assumption) ?restcb4
      case hycb4 => (intro w hSw; (try dsimp only at hSw); go_simp; (try with_reducible rfl))
      simp only [Act.put, List.setIfInBounds_toArray, List.set_cons_zero, List.set_cons_succ]
      refine wpAnyH_take (i := 8) (oi := { dst := some 23, op := Op.indexAddr 22 (Operand.tmp 15) (Operand.tmp 16), type := 0, pos := "region.go:78", after := #[{ on := 0, ground := Ground.data }, { on := 1, ground := Ground.data }, { on := 0, ground := Ground.phase }, { on := 1, ground := Ground.phase }, { on := 2, ground := Ground.phase }, { on := 3, ground := Ground.phase }, { on := 4, ground := Ground.phase }, { on := 5, ground := Ground.textOnly Departure.inlinedCapture }, { on := 6, ground := Ground.textOnly Departure.lateStores }, { on := 7, ground := Ground.textOnly Departure.inlinedCapture }], guard := none }) (v := ?vcb8) rfl (by kernel_rfl) (by kernel_rfl) (by kernel_rfl) (fun _ _ _ h => h) (Or.inl ⟨by rfl, ?hycb8⟩) (by assumption) ?restcb8
      case hycb8 => (intro w hSw; (try dsimp only at hSw); go_simp; (try with_reducible rfl))
      simp only [Act.put, List.setIfInBounds_toArray, List.set_cons_zero, List.set_cons_succ]
      refine wpAnyH_ready (rs := [9]) (by kernel_rfl) (by simp) (AllReadyH.cons (o := { dst := none, op := Op.store 3 (Operand.tmp 23) (Operand.tmp 19), type := 0, pos := "region.go:78", after := #[{ on := 8, ground := Ground.data }, { on := 4, ground := Ground.data }, { on := 0, ground := Ground.phase }, { on := 1, ground := Ground.phase }, { on := 2, ground := Ground.phase }, { on := 3, ground := Ground.phase }, { on := 4, ground := Ground.phase }, { on := 5, ground := Ground.textOnly Departure.inlinedCapture }, { on := 6, ground := Ground.textOnly Departure.lateStores }, { on := 7, ground := Ground.textOnly Departure.inlinedCapture }], guard := none }) rfl (fun K hK => ?_) AllReadyH.nil)
      go_simp
      refine hK.out _ _ (by exact q1 _) (fun hHeld => ?_)
      clear hK K
      refine wpAnyH_ready (rs := [10]) (by kernel_rfl) (by simp) (AllReadyH.cons (o := { dst := none, op := Op.store 3 (Operand.tmp 3) (Operand.tmp 22), type := 0, pos := "region.go:78", after := #[{ on := 7, ground := Ground.data }, { on := 9, ground := Ground.chain }, { on := 0, ground := Ground.phase }, { on := 1, ground := Ground.phase }, { on := 2, ground := Ground.phase }, { on := 3, ground := Ground.phase }, { on := 4, ground := Ground.phase }, { on := 5, ground := Ground.phase }, { on := 6, ground := Ground.phase }, { on := 7, ground := Ground.phase }, { on := 8, ground := Ground.phase }, { on := 9, ground := Ground.phase }], guard := none }) rfl (fun K hK => ?_) AllReadyH.nil)
      go_simp
      refine hK.out _ _ (by exact q2 _ _) (fun hHeld => ?_)
      clear hK K
      refine wpAnyH_done (by kernel_rfl) ?_ _
      exact HFIN.out
  case done =>
    rintro D ys W hDD rfl ⟨h1, h2, h3, h4, h5⟩ hK
    rw [foldC_all] at h1
    have d2 : W.cell? ⟨A + 2, 0, none⟩ = some (.slice (some ⟨A + 1, 0, none⟩) n n) := by rw [cell_of_row _ _ _ _ _ _ h3]; rfl
    have hDA : A + 4 ≤ D := by omega
    have HR := hid (show NewRow w (zs (cellL S n0)) (.returned (.slice (some ⟨A + 1, 0, none⟩) n n)) (W.putObj D (.deferred none)) from
      ⟨A + 1, n, by rw [zs_len, cellL_length, hnl], by omega, by rw [zs_len, cellL_length, hnl]; exact Nat.le_refl _, h1.keep (World.putObj_heap_other (by omega)), by rw [hA]; exact h4.grown (grownBy_putObj' W D (.deferred none)) (by omega) (fun j hj => by cases hj; omega)⟩)
    have HK := hid hK
    clear h1 h2 h3 h4 h5 hK
    gi_wp2
    refine ⟨by simp, .inl ⟨_, _, rfl, run_takeDeferred HK.out, ?_⟩⟩
    refine ⟨.slice (some ⟨A + 1, 0, none⟩) n n, ?_, HR.out⟩
    simp [results, Try.f40, go_sem]
  case stop =>
    rintro D c pre W hDD hSp hs
    exact hs.elim
theorem cell_ok (S : List Nat) (n0 : Nat) (p : Option Addr) (c : Nat) (w : World) (h : CellsAt w p (iv (zs S))) (hS : ∀ s ∈ S, 0 < s) (hs : S.length ≤ 6) (h0 : 0 < S.length) (hn : n0 ≤ 1000000) :
    Calls Try.prog 40 #[.slice p S.length c, .int .i64 (n0 : Int)] w (NewRow w (zs (cellL S n0))) := by
  obtain ⟨b, o, rfl, hb, _⟩ := atI h 0 h0
  refine callsIn_wide.1 (cell_in S n0 b o c w hb (fun j hj => ?_) hS hs h0 hn)
  obtain ⟨b', o', e, _, hc⟩ := atI h j hj
  injection e with e; injection e with e1 e2; subst e1; subst e2
  exact hc
end Go.Proofs.Ytnmhdlincgefeaa.Rg
