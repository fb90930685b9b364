/- Seen of slab. -/
import Derived.Test.YtpbidpgpehicmaaSlFill
import Derived.Maps.OwnIn
import Derived.Maps.OwnSet
import Derived.Maps.AppendAt
namespace Go.Proofs.Ytpbidpgpehicmaa.Sl
open Go.RowKit Go.Shelf Go.Maps
open Go.Lib (hid)
attribute [local go_sem] Oper.semAt_some

/-- one more number, if it is a new one -/
def addI (out : List Int) (x : Int) : List Int := if out.contains x then out else out ++ [x]
/-- the first of each -/
def firstsA (xs : List Int) : List Int := xs.foldl addI []
theorem firstsA_snoc (xs : List Int) (x : Int) : firstsA (xs ++ [x]) = addI (firstsA xs) x := by simp [firstsA]
theorem firstsA_len (xs : List Int) : (firstsA xs).length ≤ xs.length := by
  suffices H : ∀ (out : List Int), (xs.foldl addI out).length ≤ out.length + xs.length by simpa [firstsA] using H []
  induction xs with
  | nil => intro out; simp
  | cons x t ih =>
    intro out
    have := ih (addI out x)
    have h2 : (addI out x).length ≤ out.length + 1 := by unfold addI; split <;> simp
    simp only [List.foldl_cons, List.length_cons]
    omega
/-- the set of just these -/
def setI (xs : List Int) : DataW Unit := setOf (.agg []) (xs.map (Lit.int .i64))
theorem any_int (x : Int) : ∀ l : List Int, l.any ((fun y : Lit => y.sameKey (.int .i64 x)) ∘ Lit.int .i64) = l.contains x
  | [] => rfl
  | a :: r => by
    rw [List.any_cons, List.contains_cons, any_int x r]
    congr 1
    show decide (IntKind.i64 = IntKind.i64 ∧ a = x) = (x == a)
    by_cases e : a = x
    · subst e
      simp
    · have e' : ¬ x = a := fun h => e h.symm
      simp [e, e']
theorem has_setI (xs : List Int) (x : Int) : Maps.has (setI xs) (.int .i64 x) = xs.contains x := by
  unfold setI
  rw [has_setOf _ _ _ (fun y hy => by obtain ⟨_, _, rfl⟩ := List.mem_map.1 hy; trivial), List.any_map]
  exact any_int x _
theorem setI_snoc (xs : List Int) (x : Int) : setI (xs ++ [x]) = (setI xs).put (.int .i64 x) (.agg []) := by
  unfold setI
  rw [List.map_append, List.map_singleton, setOf_snoc]
theorem law3 : Keyed Try.prog 3 := int_keyed Try.underlying3
theorem zeroU (w : World) : (zeroValue 68).run Try.prog w = .ok (.agg #[]) w := by kernel_rfl
/-- the contents at so many places -/
def atL (C : List Int) (ps : List Nat) : List Int := ps.map fun p => C.getD p 0
theorem new_at (w : World) (o : Obj) (k : Nat) (h : k = w.heap.size) : (w.alloc o).heap[k]? = some o := by subst h; exact World.alloc_heap_new w o
/-- a round that puts a number into the set and at the row's end: what it leaves -/
theorem seen_step {W w1 w2 : World} {N ob mb n n' : Nat} {v v' : Value} {xs ys : List Value} {o1 o2 : Obj} (hv : Boxed W ob 30 v) (hrow : W.ownsRow (N + 4) 3 1 v n xs) (hg1 : (W.alloc o1).grownBy w1 (some mb)) (hg2 : (w1.alloc o2).grownBy w2 v.ownBlock)
    (hown : w2.ownsRow (N + 4) 3 1 v' n' ys) (hob : ob < N) (hmb : mb < N) (hne : ob ≠ mb) (hN : N + 3 < W.heap.size) :
    Boxed w1 ob 30 v ∧ w1.ownsRow (N + 4) 3 1 v n xs ∧ Boxed w2 ob 30 v ∧ Boxed (w2.setCell ⟨ob, 0, none⟩ v') ob 30 v' ∧ (w2.setCell ⟨ob, 0, none⟩ v').ownsRow (N + 4) 3 1 v' n' ys ∧ KeepsFrom N W (w2.setCell ⟨ob, 0, none⟩ v') ∧
    Kp N (fun k => k = ob ∨ k = mb) (N + 3) W (w2.setCell ⟨ob, 0, none⟩ v') := by
  have hlt : ∀ k, v.ownBlock = some k → N + 4 ≤ k := fun k hk => (hrow.lt k hk).1
  have b1 : Boxed w1 ob 30 v := (hv.alloc o1).kept hg1 (fun e => hne (by injection e))
  have r1 : w1.ownsRow (N + 4) 3 1 v n xs := (hrow.alloc o1).kept hg1 (.inr fun e => by have := hlt mb e; omega)
  have b2 : Boxed w2 ob 30 v := (b1.alloc o2).kept hg2 (fun e => by have := hlt ob e.symm; omega)
  have s1 := hg1.size
  have s2 := hg2.size
  simp only [World.size_alloc] at s1 s2
  refine ⟨b1, r1, b2, b2.set v', hown.kept (grownBy_setCell' w2 ob v') (.inr fun e => by have := (hown.lt ob e).1; omega), ?_, ?_, ?_⟩
  · have k1 : KeepsFrom N W w1 := ((KeepsOthers.alloc W o1).from N).trans (KeepsFrom.of_grownBy hg1 fun j e => by injection e with e; omega)
    have k2 : KeepsFrom N w1 w2 := ((KeepsOthers.alloc w1 o2).from N).trans ((KeepsOthers.of_grownBy hg2 fun j o ej hj => by
      rcases (r1.alloc o2).2 with ⟨rfl, _⟩ | ⟨g, cap, cur, rfl, _, hgb, _⟩
      · simp [Value.ownBlock] at ej
      · obtain rfl : g = j := by simpa [Value.ownBlock] using ej
        rw [hgb] at hj; cases hj; rfl).from N)
    exact (k1.trans k2).trans ((KeepsOthers.setCell w2 ⟨ob, 0, none⟩ v').from N)
  · refine ⟨by rw [World.size_setCell]; omega, fun k hk hq => ?_⟩
    rw [heap_setCell_other _ _ _ _ (fun e => hq (.inl e)), hg2.block k (by simp; omega) (fun e => by have := hlt k e.symm; omega), Below.heap_alloc _ _ _ (by omega), hg1.block k (by simp; omega) (fun e => hq (.inr (by injection e))), Below.heap_alloc _ _ _ (by omega)]
  · intro _
    rw [heap_setCell_other _ _ _ _ (by show N + 3 ≠ ob; omega), hg2.block (N + 3) (by simp; omega) (fun e => by have := hlt (N + 3) e.symm; omega), Below.heap_alloc _ _ _ (by omega), hg1.block (N + 3) (by simp; omega) (fun e => by injection e with e; omega), Below.heap_alloc _ _ _ (by omega)]
theorem any_of_owns {w : World} {base : Nat} {v : Value} {l : List Int} (h : w.ownsRow base 3 1 v l.length (iv l)) : ∃ p c, v = .slice p l.length c ∧ ∀ j, (hj : j < (iv l).length) → ∃ b off, p = some ⟨b, off, none⟩ ∧ b < w.heap.size ∧ base ≤ b ∧ w.cell? ⟨b, off + j, none⟩ = some (iv l)[j] := by
  by_cases h0 : 0 < l.length
  · obtain ⟨g, c, e, hb, hr, _⟩ := row_of_owns h h0
    refine ⟨_, c, e, fun j hj => ⟨g, 0, rfl, hr.lt, hb, ?_⟩⟩
    obtain ⟨b', off, e2, _, hc⟩ := hr.cells j hj
    injection e2 with e2
    injection e2 with e3 e4
    subst e3; subst e4
    exact hc
  · have hl : l = [] := List.length_eq_zero_iff.1 (by omega)
    subst hl
    rcases h.2 with ⟨e, _⟩ | ⟨g, cap, cur, e, _⟩
    · exact ⟨none, 0, e, fun j hj => absurd hj (by simp [iv])⟩
    · exact ⟨_, cap, e, fun j hj => absurd hj (by simp [iv])⟩
/-- what Seen gives -/
def SeenR (w : World) (l : List Int) (e : Ending) (w' : World) : Prop := ∃ p c, e = .returned (.tuple #[.slice p l.length c, .int .i64 0]) ∧ CellsAt w' p (iv l) ∧ Below w.heap.size w w'
set_option maxRecDepth 100000 in
set_option maxHeartbeats 2000000 in
theorem seen_in (w : World) (b g h : Nat) (S : List Nat) (C : List Int) (H : Slb w b g h (zs S) C) (F : Fits S C) (hwf : ∀ x ∈ C, (Lit.int .i64 x).wf = true) (lo hi : List Nat) (p q : Option Addr) (c1 c2 : Nat) (hp : CellsAt w p (iv (zs lo))) (hq : CellsAt w q (iv (zs hi)))
    (hr : rangeB (zs S) (zs lo) (zs hi) = true) (hok : okC S lo = true) (hok2 : okC S hi = true) :
    CallsIn Fence.wide 9 Try.prog 22 #[.pointer (some ⟨b, 0, none⟩), .slice p lo.length c1, .slice q hi.length c2] w (SeenR w (firstsA (atL C ((rangeL lo hi).map (placeL S))))) := by
  obtain ⟨k, m, _, _, HS⟩ := H.sb
  have HLL := hid (okC_length S lo hok)
  have HLH := hid (okC_length S hi hok2)
  have hfew := F.few
  have hmm := @run_makeMap Try.prog
  have HRG := hid (range_ok b _ _ k m (zs S) C (w.alloc (.cells #[.pointer (some ⟨b, 0, none⟩)] 23)) (HS.below (below_alloc w _)) (zs lo) (zs hi) p q c1 c2 (hp.below (below_alloc w _)) (hq.below (below_alloc w _)) (by rw [zs_len]; have := HLL.out; omega) (by rw [zs_len]; have := HLH.out; omega))
  rw [hr] at HRG
  simp only [zs_len] at HRG
  have HR := hid hr
  have HSS := hid HS
  have HH := hid H
  have HPP := hid hp
  have HQQ := hid hq
  clear hr HS H hp hq
  refine callsIn_of_wp_marks Try.func22 rfl trivial ?_ rfl
  simp only [Try.ntmps22, List.size_toArray, List.length_cons, List.length_nil, Nat.reduceAdd, Nat.reduceSub, Array.replicate_succ, Array.replicate_zero, List.push_toArray, List.append_toArray, List.nil_append, List.cons_append]
  gi_wp2_with (first
    | (gi_at_call 36; refine (callsIn_wide.2 HRG.out).mono ?_; rintro e w' ⟨rfl, n1, rfl⟩)
    | (refine ⟨trivial, ?_⟩; gi_at_call 36; refine (callsIn_wide.2 HRG.out).mono ?_; rintro e w' ⟨rfl, n1, rfl⟩)
    | (gi_at_call 37; refine (places_in _ _ _ _ _ _ _ _ _).mono ?_; rintro e w' ⟨rfl, rfl⟩)
    | (refine ⟨trivial, ?_⟩; gi_at_call 37; refine (places_in _ _ _ _ _ _ _ _ _).mono ?_; rintro e w' ⟨rfl, rfl⟩))
  obtain ⟨W0, hW0⟩ : ∃ W0, ((((((((w.alloc (Obj.cells #[Value.pointer (some ⟨b, 0, none⟩)] 23)).drewN n1).alloc (Obj.cells #[Value.slice none 0 0] 30)).alloc (Obj.map #[] 0)).alloc (Obj.cells #[Value.map (some (w.heap.size + 1 + 1))] 67)).alloc
    (Obj.cells #[Value.pointer (some ⟨b, 0, none⟩)] 23)).alloc (Obj.cells #[Value.slice p lo.length c1] 30)).alloc (Obj.cells #[Value.slice q hi.length c2] 30)) = W0 := ⟨_, rfl⟩
  rw [hW0]
  have szd : ∀ (V : World) (n : Nat), (V.drewN n).heap.size = V.heap.size := fun _ _ => rfl
  have hs0 : W0.heap.size = w.heap.size + 7 := by rw [← hW0]; simp
  have hBw : Below w.heap.size w W0 := by
    rw [← hW0]
    exact (((((((below_drewN (below_alloc w _) n1).alloc (by first | (simp only [World.size_alloc, szd]; done) | (simp only [World.size_alloc, szd]; omega) | omega) _).alloc (by first | (simp only [World.size_alloc, szd]; done) | (simp only [World.size_alloc, szd]; omega) | omega) _).alloc (by first | (simp only [World.size_alloc, szd]; done) | (simp only [World.size_alloc, szd]; omega) | omega) _).alloc (by first | (simp only [World.size_alloc, szd]; done) | (simp only [World.size_alloc, szd]; omega) | omega) _).alloc (by first | (simp only [World.size_alloc, szd]; done) | (simp only [World.size_alloc, szd]; omega) | omega) _).alloc (by first | (simp only [World.size_alloc, szd]; done) | (simp only [World.size_alloc, szd]; omega) | omega) _)
  have g0 : Boxed W0 w.heap.size 23 (.pointer (some ⟨b, 0, none⟩)) := by
    unfold Boxed
    rw [← hW0]; repeat rw [Below.heap_alloc _ _ _ (by first | (simp only [World.size_alloc, szd]; done) | (simp only [World.size_alloc, szd]; omega) | omega)]
    exact new_at w _ _ rfl
  have g1 : Boxed W0 (w.heap.size + 1) 30 (.slice none 0 0) := by
    unfold Boxed
    rw [← hW0]; repeat rw [Below.heap_alloc _ _ _ (by first | (simp only [World.size_alloc, szd]; done) | (simp only [World.size_alloc, szd]; omega) | omega)]
    exact new_at _ _ _ (by first | (simp only [World.size_alloc, szd]; done) | (simp only [World.size_alloc, szd]; omega) | omega)
  have g2 : W0.ownsMap Try.prog 3 (unitElem (H := Unit)) (w.heap.size + 1 + 1) 0 (.map []) := by
    have h0 := World.ownsMap_made (((w.alloc (Obj.cells #[Value.pointer (some ⟨b, 0, none⟩)] 23)).drewN n1).alloc (Obj.cells #[Value.slice none 0 0] 30)) Try.prog 3 (unitElem (H := Unit))
    rw [show (((w.alloc (Obj.cells #[Value.pointer (some ⟨b, 0, none⟩)] 23)).drewN n1).alloc (Obj.cells #[Value.slice none 0 0] 30)).heap.size = w.heap.size + 1 + 1 by simp] at h0
    rw [← hW0]
    exact (((h0.alloc _).alloc _).alloc _).alloc _
  have g3 : Boxed W0 (w.heap.size + 1 + 1 + 1) 67 (.map (some (w.heap.size + 1 + 1))) := by
    unfold Boxed
    rw [← hW0]; repeat rw [Below.heap_alloc _ _ _ (by first | (simp only [World.size_alloc, szd]; done) | (simp only [World.size_alloc, szd]; omega) | omega)]
    exact new_at _ _ _ (by first | (simp only [World.size_alloc, szd]; done) | (simp only [World.size_alloc, szd]; omega) | omega)
  have g4 : Boxed W0 (w.heap.size + 1 + 1 + 1 + 1) 23 (.pointer (some ⟨b, 0, none⟩)) := by
    unfold Boxed
    rw [← hW0]; repeat rw [Below.heap_alloc _ _ _ (by first | (simp only [World.size_alloc, szd]; done) | (simp only [World.size_alloc, szd]; omega) | omega)]
    exact new_at _ _ _ (by first | (simp only [World.size_alloc, szd]; done) | (simp only [World.size_alloc, szd]; omega) | omega)
  have g5 : Boxed W0 (w.heap.size + 1 + 1 + 1 + 1 + 1) 30 (.slice p lo.length c1) := by
    unfold Boxed
    rw [← hW0]; repeat rw [Below.heap_alloc _ _ _ (by first | (simp only [World.size_alloc, szd]; done) | (simp only [World.size_alloc, szd]; omega) | omega)]
    exact new_at _ _ _ (by first | (simp only [World.size_alloc, szd]; done) | (simp only [World.size_alloc, szd]; omega) | omega)
  have g6 : Boxed W0 (w.heap.size + 1 + 1 + 1 + 1 + 1 + 1) 30 (.slice q hi.length c2) := by
    unfold Boxed
    rw [← hW0]
    exact new_at _ _ _ (by first | (simp only [World.size_alloc, szd]; done) | (simp only [World.size_alloc, szd]; omega) | omega)
  clear hW0
  have hs1 : w.heap.size + 7 ≤ W0.heap.size := Nat.le_of_eq hs0.symm
  have hs2 : W0.heap.size ≤ w.heap.size + 7 := Nat.le_of_eq hs0
  have hH0 := HH.out.below hBw
  have hbw := HH.out.lts
  have hbl := hbw b (.inl rfl)
  have hgl := hbw g (.inr (.inl rfl))
  have hhl := hbw h (.inr (.inr rfl))
  have cellW : ∀ W, Stay W0.heap.size (fun k => k = w.heap.size + 1 ∨ k = w.heap.size + 1 + 1) W0 W → ∀ j i, j < W0.heap.size → j ≠ w.heap.size + 1 → j ≠ w.heap.size + 1 + 1 → W.cell? ⟨j, i, none⟩ = W0.cell? ⟨j, i, none⟩ := fun W hst j i hj h1 h2 =>
    World.cell?_of_block (hst.block j hj (fun e => e.elim h1 h2))
  have keepW : ∀ W, Stay W0.heap.size (fun k => k = w.heap.size + 1 ∨ k = w.heap.size + 1 + 1) W0 W → Stay w.heap.size (fun _ => False) w W := fun W hst => by
    have := hBw.size
    have := hst.size
    exact ⟨by omega, fun k hk _ => (hst.block k (by omega) (fun e => by rcases e with e | e <;> omega)).trans (hBw.block k hk)⟩
  have readW : ∀ W, Stay w.heap.size (fun _ => False) w W → ∀ (r : Option Addr) (l : List Value), CellsAt w r l → CellsAt W r l := fun W hst r l hc j hj => by
    obtain ⟨b', off, e, hlt, hcc⟩ := hc j hj
    exact ⟨b', off, e, Nat.lt_of_lt_of_le hlt hst.size, (World.cell?_of_block (hst.block b' hlt (fun e => e))).trans hcc⟩
  have y0 : w.cell? ⟨b, 0, none⟩ = some (.slice (some ⟨g, 0, none⟩) S.length k) := by have := HSS.out.cell0; rwa [zs_len] at this
  have y1 : w.cell? ⟨b, 1, none⟩ = some (.slice (some ⟨h, 0, none⟩) C.length m) := HSS.out.cell1
  have hItF : ∀ W, Stay W0.heap.size (fun k => k = w.heap.size + 1 ∨ k = w.heap.size + 1 + 1) W0 W → ItF (w.heap.size + 1 + 1 + 1 + 1) (w.heap.size + 1 + 1 + 1 + 1 + 1) (w.heap.size + 1 + 1 + 1 + 1 + 1 + 1) b (some ⟨g, 0, none⟩) p q k c1 c2 S lo hi W := fun W hst => by
    have hk := keepW W hst
    refine ⟨?_, ?_, ?_, ?_, ?_, ?_, ?_⟩
    · rw [cellW W hst _ _ (by omega) (by omega) (by omega)]; exact g4.cell
    · rw [cellW W hst _ _ (by omega) (by omega) (by omega)]; exact g5.cell
    · rw [cellW W hst _ _ (by omega) (by omega) (by omega)]; exact g6.cell
    · exact (World.cell?_of_block (hk.block b hbl (fun e => e))).trans y0
    · exact readW W hk _ _ HSS.out.sz
    · exact readW W hk _ _ HPP.out
    · exact readW W hk _ _ HQQ.out
  have hp0 : 0 < prodL S := prodL_pos S F.pos
  have hS0 : 0 < S.length := List.length_pos_iff.2 F.some
  have hmost := F.most
  have hwi : withinL lo lo hi = true := range_within S lo hi hok hok2 HR.out
  have hCl := hid F.len
  have HRL : Hid ((rangeL lo hi).length ≤ 4096) := hid (by
    have := congrArg List.length (places_eq S lo hi hok hok2 F.pos)
    rw [List.length_map] at this
    rw [this]
    refine Nat.le_trans (List.length_filter_le _ _) ?_
    rw [List.length_range]; exact hmost)
  obtain ⟨i0, hi0, hz0, hz1, hz2⟩ := info_parts iinfo
  refine range_cells rfl ?h1 (gf := 47) (lb := #[.pointer (some ⟨w.heap.size + 1 + 1 + 1 + 1 + 1, 0, none⟩), .pointer (some ⟨w.heap.size + 1 + 1 + 1 + 1, 0, none⟩), .pointer (some ⟨w.heap.size + 1 + 1 + 1 + 1 + 1 + 1, 0, none⟩)]) rfl trivial (enters_of Try.func47 (by kernel_rfl) rfl)
    (encs := fun (x : Fin (prodL S)) => #[Value.int .i64 ((x.1 : Nat) : Int)]) (Kp := Kp W0.heap.size (fun k => k = w.heap.size + 1 ∨ k = w.heap.size + 1 + 1) (W0.heap.size + 3)) (S := fun xs => xs = (rangeL lo hi).map (pf S hp0)) (N := (rangeL lo hi).length) (w0 := W0) (C := W0.heap.size + 3) ?hC
    (fun l J Jx W hW hWs hJ hJx hY h0 => by
      have e3 : W.heap.size + 1 = W0.heap.size + 3 := by omega
      have := places1_in (9 - 1) (by omega) l (w.heap.size + 1 + 1 + 1 + 1) (w.heap.size + 1 + 1 + 1 + 1 + 1) (w.heap.size + 1 + 1 + 1 + 1 + 1 + 1) b (some ⟨g, 0, none⟩) p q k c1 c2 S lo hi hok hok2 hwi (by omega) (by omega) hS0 hp0 W0.heap.size (fun k => k = w.heap.size + 1 ∨ k = w.heap.size + 1 + 1) W0 (by omega) hItF J Jx W (Stay.below hW (by omega)) (by rw [e3]; exact hJ) (by rw [e3]; exact hY) h0
      exact this)
    Kp.trans ?hKb ?hb0 (fun _ => rfl)
    (fun pre W => (∃ v, Boxed W (w.heap.size + 1) 30 v ∧ W.ownsRow (W0.heap.size + 4) 3 1 v (firstsA (atL C (pre.map (·.1)))).length (iv (firstsA (atL C (pre.map (·.1)))))) ∧ W.ownsMap Try.prog 3 (unitElem (H := Unit)) (w.heap.size + 1 + 1) pre.length (setI (firstsA (atL C (pre.map (·.1)))))
      ∧ Stay W0.heap.size (fun k => k = w.heap.size + 1 ∨ k = w.heap.size + 1 + 1) W0 W ∧ W.os = W0.os ∧ W.tape = W0.tape ∧ W.output = W0.output) ?hI ?h0
    (fun x => { tmps := #[Value.pointer (some ⟨b, 0, none⟩), Value.slice p lo.length c1, Value.slice q hi.length c2,
          Value.pointer (some ⟨w.heap.size, 0, none⟩), undef, undef, Value.slice none 0 0,
          Value.int IntKind.i64 0, Value.pointer (some ⟨w.heap.size + 1, 0, none⟩),
          Value.pointer (some ⟨w.heap.size + 1 + 1 + 1, 0, none⟩), Value.int .i64 ((x.1 : Nat) : Int), undef, undef, undef,
          Value.pointer (some ⟨b, 0, none⟩), Value.slice p lo.length c1, Value.slice q hi.length c2,
          Value.bool true, Value.bool false, Value.map (some (w.heap.size + 1 + 1)),
          Value.pointer (some ⟨b, 0, none⟩), Value.slice p lo.length c1, Value.slice q hi.length c2,
          Value.func (Fn.func 47) #[]
            #[Value.pointer (some ⟨w.heap.size + 1 + 1 + 1 + 1 + 1, 0, none⟩),
              Value.pointer (some ⟨w.heap.size + 1 + 1 + 1 + 1, 0, none⟩),
              Value.pointer (some ⟨w.heap.size + 1 + 1 + 1 + 1 + 1 + 1, 0, none⟩)],
          Value.int .i64 ((x.1 : Nat) : Int), undef, undef, undef, undef, undef, undef, undef, undef, undef, undef, undef, undef, undef, undef,
          undef, undef, undef, undef, undef, undef, undef, undef, undef], defers := [] })
    ?assign ?body ?done
  case h1 => omega
  case hC => omega
  case hKb =>
    intro W l o h1 h2
    exact ⟨⟨by simp, fun k hk _ => World.putObj_heap_other (by omega)⟩, fun _ => World.putObj_heap_other (by omega)⟩
  case hb0 => exact Below.refl _ _
  case hI =>
    rintro s X Y r ⟨⟨v, h1, h1'⟩, h2, h3, h4, h5, h6⟩ hr1 hr2 hg
    have hsz := h3.size
    exact ⟨⟨v, h1.kept hg (fun e => by injection e with e; omega), h1'.kept hg (.inr fun e => by have := (h1'.lt r e).1; omega)⟩, h2.kept hg (fun e => by injection e with e; omega), h3.trans (Stay.grown hg (by omega) (by omega)), hg.os.trans h4, hg.tape.trans h5, hg.output.trans h6⟩
  case h0 => exact ⟨⟨_, g1, World.ownsRow_nil _ _ _ _⟩, g2, Stay.refl _ _ _, rfl, rfl, rfl⟩
  case assign =>
    intro l x W K hK
    clear hs0
    gi_wp2
    exact hK
  case body =>
    rintro l pre x W ⟨⟨v, hv, hrow⟩, hmap, hst, h4, h5, h6⟩ hC hlen
    have hk := keepW W hst
    have z0 : W.cell? ⟨w.heap.size, 0, none⟩ = some (.pointer (some ⟨b, 0, none⟩)) := by rw [cellW W hst _ _ (by omega) (by omega) (by omega)]; exact g0.cell
    have z1 : W.cell? ⟨b, 1, none⟩ = some (.slice (some ⟨h, 0, none⟩) C.length m) := (World.cell?_of_block (hk.block b hbl (fun e => e))).trans y1
    have hxc : x.1 < C.length := by rw [hCl.out]; exact x.2
    have z2 : W.cell? ⟨h, x.1, none⟩ = some (.int .i64 C[x.1]) := (World.cell?_of_block (hk.block h hhl (fun e => e))).trans (HH.out.co.cell x.1 hxc)
    have z3 : W.cell? ⟨w.heap.size + 1 + 1 + 1, 0, none⟩ = some (.map (some (w.heap.size + 1 + 1))) := by rw [cellW W hst _ _ (by omega) (by omega) (by omega)]; exact g3.cell
    have hA : firstsA (atL C ((pre ++ [x]).map (·.1))) = addI (firstsA (atL C (pre.map (·.1)))) C[x.1] := by
      unfold atL
      rw [List.map_append, List.map_append, List.map_singleton, List.map_singleton, firstsA_snoc]
      congr 1
      simp [hxc]
    have hwx := hwf C[x.1] (List.getElem_mem hxc)
    have hkey : keyOf Try.prog 3 (.int .i64 C[x.1]) = some (.int .i64 C[x.1]) := keyOf_int_mk Try.underlying3 hwx
    have hhas := has_setI (firstsA (atL C (pre.map (·.1)))) C[x.1]
    have hpl : (firstsA (atL C (pre.map (·.1)))).length ≤ 4096 := by
      have := firstsA_len (atL C (pre.map (·.1)))
      have h2 : (atL C (pre.map (·.1))).length = pre.length := by simp [atL]
      have := HRL.out
      omega
    have hpp : pre.length ≤ 4096 := by have := HRL.out; omega
    generalize hAA : firstsA (atL C (pre.map (·.1))) = A at hrow hmap hA hhas hpl
    generalize C[x.1] = z at z2 hA hkey hhas
    have hnz : w.heap.size + 1 + 1 + 1 < W.heap.size := by omega
    have z3a : (W.alloc (.cells #[] 68)).cell? ⟨w.heap.size + 1 + 1 + 1, 0, none⟩ = some (.map (some (w.heap.size + 1 + 1))) := ((below_alloc W _).cell (p := ⟨w.heap.size + 1 + 1 + 1, 0, none⟩) hnz).trans z3
    have HXC := hid hxc; have HA := hid hA; have HHAS := hid hhas; have HAA := hid hAA; have HST := hid hst; have HV := hid hv; have HROW := hid hrow
    have hcv := hv.cell
    generalize hxv : x.1 = xv at z2 hxc
    have e0 : (0 : Int) ≤ (xv : Int) := by omega
    clear hA hhas hAA hwx HXC hs0 hst hv hrow hk hxv
    cases hcn : A.contains z with
    | false =>
      have e1 : Maps.has (setI A) (.int .i64 z) = false := by rw [HHAS.out, hcn]
      have hAd : addI A z = A ++ [z] := by unfold addI; rw [hcn]; rfl
      have HAD := hid hAd
      clear hcn hAd
      gi_wp2_with (first
        | (gi_at_lookup; refine wpListIn_lookup_own_unit _ rfl _ _ 67 rfl 3 68 law3 Try.underlying67 (zeroU _) (w.heap.size + 1 + 1) pre.length _ rfl hmap _ _ rfl hkey ?_)
        | (gi_at_mapUpdate; refine wpListIn_mapUpdate_own _ rfl _ _ _ 67 rfl 3 68 law3 Try.underlying67 (unitElem (H := Unit)) (w.heap.size + 1 + 1) pre.length _ rfl (hmap.alloc _) (by unfold maxLen; omega) _ _ _ rfl rfl hkey _ [] unitElem_mk ?_; intro w1 hown1 hgrow1; have hb1 := (HV.out.alloc _).kept hgrow1 (fun e => by injection e with e; omega); have hcv1 := hb1.cell; have HR1 := hid ((HROW.out.alloc _).kept hgrow1 (.inr fun e => by have := (HROW.out.lt _ e).1; omega)); have hsz1 := hgrow1.size)
        | (gi_at_builtin; refine wpListIn_append_own _ rfl _ _ 30 rfl (W0.heap.size + 4) 3 i0 (.int .i64 0) 1 8 Try.underlying30 hi0 hz0 hz1 hz2 rfl (by decide) _ _ _ rfl (HR1.out.alloc _) ⟨w1.heap.size, 0, none⟩ 1 1 [.int .i64 z] rfl rfl (cell_one_new _ _ _) (by simp [Value.oneCell']) (by unfold maxLen; omega) (by omega) (by simp only [World.size_alloc] at hsz1 ⊢; omega) ?_; intro v' w2 hown' hgrow2 _; obtain ⟨g', cap', rfl⟩ := ownsRow_succ hown'; obtain ⟨-, -, s2, s3, s4, s5, s6⟩ := seen_step HV.out HROW.out hgrow1 hgrow2 hown' (by omega) (by omega) (by omega) hC; have hc2 := s2.cell; have hf2 := s2.frozen))
      refine ⟨s5, s6, ⟨_, s3, ?_⟩, ?_, HST.out.trans s6.1, hgrow2.os.trans (hgrow1.os.trans h4), hgrow2.tape.trans (hgrow1.tape.trans h5), hgrow2.output.trans (hgrow1.output.trans h6)⟩
      · rw [HA.out, HAD.out, List.length_append, iv_append]; exact s4
      · rw [HA.out, HAD.out, setI_snoc, List.length_append]
        have hnr : some (w.heap.size + 1 + 1) ≠ v.ownBlock := fun e => by have := (HROW.out.lt _ e.symm).1; omega
        exact ((hown1.alloc _).kept hgrow2 hnr).kept (grownBy_setCell' w2 _ _) (fun e => by injection e with e; omega)
    | true =>
      have e1 : Maps.has (setI A) (.int .i64 z) = true := by rw [HHAS.out, hcn]
      have hAd : addI A z = A := by unfold addI; rw [hcn]; rfl
      have HAD := hid hAd
      clear hcn hAd
      gi_wp2_with (gi_at_lookup; refine wpListIn_lookup_own_unit _ rfl _ _ 67 rfl 3 68 law3 Try.underlying67 (zeroU _) (w.heap.size + 1 + 1) pre.length _ rfl hmap _ _ rfl hkey ?_)
      have hst : Stay W0.heap.size (fun k => k = w.heap.size + 1 ∨ k = w.heap.size + 1 + 1) W (W.alloc (.cells #[] 68)) := ⟨by simp, fun k hk _ => Below.heap_alloc _ _ _ (by omega)⟩
      refine ⟨(KeepsOthers.alloc _ _).from _, ⟨hst, fun hG => Below.heap_alloc _ _ _ hG⟩, ⟨_, HV.out.alloc _, ?_⟩, ?_, HST.out.trans hst, h4, h5, h6⟩
      · rw [HA.out, HAD.out]; exact HROW.out.alloc _
      · rw [HA.out, HAD.out, List.length_append]; exact (hmap.alloc _).mono (Nat.le_succ _)
  case done =>
    rintro D xs W rfl rfl ⟨⟨v, hv, hrow⟩, hmap, hst, h4, h5, h6⟩ hK
    have hrw : ((rangeL lo hi).map (pf S hp0)).map (·.1) = (rangeL lo hi).map (placeL S) := by
      rw [List.map_map]
      exact List.map_congr_left fun c hc => pf_val S hp0 c (range_okC S lo hi c hok hok2 F.pos hc)
    rw [hrw] at hrow
    obtain ⟨pv, cv, hvv, hcv⟩ := any_of_owns hrow
    have hcell := hv.cell
    rw [hvv] at hcell
    have HCELLS : Hid (CellsAt (W.putObj W0.heap.size (.deferred none)) pv (iv (firstsA (atL C ((rangeL lo hi).map (placeL S)))))) := hid fun j hj => by
      obtain ⟨b', off, e, hlt, hge, hcc⟩ := hcv j hj
      refine ⟨b', off, e, by simpa using hlt, ?_⟩
      rw [World.cell?_of_block (a := ⟨b', off + j, none⟩) (World.putObj_heap_other (by show b' ≠ W0.heap.size; omega))]; exact hcc
    have HB : Hid (Below w.heap.size w (W.putObj W0.heap.size (.deferred none))) := hid (by
      have hk := keepW W hst
      refine ⟨h4.trans hBw.os, h5.trans hBw.tape, h6.trans hBw.output, by have := hk.size; simpa using this, fun j hj => ?_⟩
      rw [World.putObj_heap_other (by omega)]
      exact hk.block j hj (fun e => e))
    have HK := hid hK
    clear hrw hv hrow hmap hst h4 h5 h6 hK hcv hvv hs0
    gi_wp2
    refine ⟨by simp, .inl ⟨_, _, rfl, run_takeDeferred HK.out, ?_⟩⟩
    refine ⟨.tuple #[.slice pv _ cv, .int .i64 0], ?_, pv, cv, rfl, HCELLS.out, HB.out⟩
    simp [results, Try.f22, go_sem]
theorem seen_ok (w : World) (b g h : Nat) (S : List Nat) (C : List Int) (H : Slb w b g h (zs S) C) (F : Fits S C) (hwf : ∀ x ∈ C, (Lit.int .i64 x).wf = true) (lo hi : List Nat) (p q : Option Addr) (c1 c2 : Nat) (hp : CellsAt w p (iv (zs lo))) (hq : CellsAt w q (iv (zs hi)))
    (hr : rangeB (zs S) (zs lo) (zs hi) = true) (hok : okC S lo = true) (hok2 : okC S hi = true) :
    Calls Try.prog 22 #[.pointer (some ⟨b, 0, none⟩), .slice p lo.length c1, .slice q hi.length c2] w (SeenR w (firstsA (atL C ((rangeL lo hi).map (placeL S))))) :=
  callsIn_wide.1 (seen_in w b g h S C H F hwf lo hi p q c1 c2 hp hq hr hok hok2)
set_option maxRecDepth 100000 in
set_option maxHeartbeats 1000000 in
theorem seen_bad (w : World) (b g h : Nat) (S C : List Int) (H : Slb w b g h S C) (lo hi : List Int) (p q : Option Addr) (c1 c2 : Nat) (hp : CellsAt w p (iv lo)) (hq : CellsAt w q (iv hi)) (hl : lo.length ≤ 1000000) (hl2 : hi.length ≤ 1000000)
    (hr : rangeB S lo hi = false) :
    Calls Try.prog 22 #[.pointer (some ⟨b, 0, none⟩), .slice p lo.length c1, .slice q hi.length c2] w fun e w' => e = .returned (.tuple #[.slice none 0 0, .int .i64 1]) ∧ Below w.heap.size w w' := by
  obtain ⟨k, m, _, _, HS⟩ := H.sb
  have HRG := hid (range_ok b _ _ k m S C _ (HS.below (below_alloc w (.cells #[.pointer (some ⟨b, 0, none⟩)] 23))) lo hi p q c1 c2 (hp.below (below_alloc w _)) (hq.below (below_alloc w _)) hl hl2)
  rw [hr] at HRG
  clear H HS hp hq hr
  go_enter Try.func22, Try.ntmps22
  go_wp2_with fail
  refine HRG.out.mono ?_
  rintro e w1 ⟨rfl, n1, rfl⟩
  go_wp2_with fail
  go_ret2
  exact ⟨rfl, below_drewN (below_alloc w _) _⟩
end Go.Proofs.Ytpbidpgpehicmaa.Sl
