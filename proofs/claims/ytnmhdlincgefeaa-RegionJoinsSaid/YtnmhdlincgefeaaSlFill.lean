/- Fill of slab. -/
import Derived.Test.YtnmhdlincgefeaaSlIter
import Derived.Test.YtnmhdlincgefeaaSlNone
namespace Go.Proofs.Ytnmhdlincgefeaa.Sl
open Go.RowKit Go.Shelf
open Go.Lib (hid)
attribute [local go_sem] Oper.semAt_some

/-- cells in blocks that are none of D -/
def CellsD (D : Nat → Prop) (w : World) (p : Option Addr) (l : List Value) : Prop := ∀ j, (hj : j < l.length) → ∃ b off, p = some ⟨b, off, none⟩ ∧ b < w.heap.size ∧ ¬ D b ∧ w.cell? ⟨b, off + j, none⟩ = some l[j]
theorem CellsD.cells {D : Nat → Prop} {w : World} {p : Option Addr} {l : List Value} (h : CellsD D w p l) : CellsAt w p l := fun j hj => by
  obtain ⟨b, off, e, hb, _, hc⟩ := h j hj
  exact ⟨b, off, e, hb, hc⟩
theorem CellsD.keep {D : Nat → Prop} {w w' : World} {p : Option Addr} {l : List Value} (h : CellsD D w p l) (hs : w.heap.size ≤ w'.heap.size) (hk : ∀ k, k < w.heap.size → ¬ D k → w'.heap[k]? = w.heap[k]?) : CellsD D w' p l := fun j hj => by
  obtain ⟨b, off, e, hb, hd, hc⟩ := h j hj
  refine ⟨b, off, e, Nat.lt_of_lt_of_le hb hs, hd, ?_⟩
  rw [World.cell?_of_block (hk b hb hd)]; exact hc
theorem CellsD.below {D : Nat → Prop} {w w' : World} {p : Option Addr} {l : List Value} (h : CellsD D w p l) (hb : Below w.heap.size w w') : CellsD D w' p l := h.keep hb.size fun k hk _ => hb.block k hk
theorem CellsD.stay {N : Nat} {D Q : Nat → Prop} {w w' : World} {p : Option Addr} {l : List Value} (h : CellsD D w p l) (hN : w.heap.size ≤ N) (hs : Stay N Q w w') (hq : ∀ k, Q k → D k) : CellsD D w' p l := h.keep hs.size fun k hk hd => hs.block k (Nat.lt_of_lt_of_le hk hN) fun e => hd (hq k e)
/-- but the blocks F all is as it was -/
structure Onl (F : Nat → Prop) (w w' : World) : Prop where
  os : w'.os = w.os
  tape : w'.tape = w.tape
  output : w'.output = w.output
  size : w.heap.size ≤ w'.heap.size
  block : ∀ k, k < w.heap.size → ¬ F k → w'.heap[k]? = w.heap[k]?
theorem Onl.ofBelow {F : Nat → Prop} {w w' : World} (h : Below w.heap.size w w') : Onl F w w' := ⟨h.os, h.tape, h.output, h.size, fun k hk _ => h.block k hk⟩
theorem Onl.below {F : Nat → Prop} {w w' : World} {N : Nat} (h : Onl F w w') (hN : N ≤ w.heap.size) (hf : ∀ k, F k → N ≤ k) : Below N w w' :=
  ⟨h.os, h.tape, h.output, h.size, fun k hk => h.block k (Nat.lt_of_lt_of_le hk hN) (fun hk' => by have := hf k hk'; omega)⟩
theorem Onl.trans {F : Nat → Prop} {a b c : World} (h : Onl F a b) (k : Onl F b c) : Onl F a c :=
  ⟨k.os.trans h.os, k.tape.trans h.tape, k.output.trans h.output, Nat.le_trans h.size k.size, fun i hi hf => (k.block i (Nat.lt_of_lt_of_le hi h.size) hf).trans (h.block i hi hf)⟩
/-- the contents, with so many places filled -/
def fillL (n : Int) (ps : List Nat) (C : List Int) : List Int := ps.foldl (fun C p => C.set p n) C
theorem fillL_snoc (n : Int) (ps : List Nat) (p : Nat) (C : List Int) : fillL n (ps ++ [p]) C = (fillL n ps C).set p n := by simp [fillL]
theorem fillL_length (n : Int) (ps : List Nat) (C : List Int) : (fillL n ps C).length = C.length := set_all_length n ps C
theorem range_within (S lo hi : List Nat) (h1 : okC S lo = true) (h2 : okC S hi = true) (h : rangeB (zs S) (zs lo) (zs hi) = true) : withinL lo lo hi = true := by
  have hll := okC_length S lo h1
  have hlh := okC_length S hi h2
  unfold rangeB at h
  simp only [Bool.and_eq_true, List.all_eq_true, List.mem_range, decide_eq_true_eq, zs_len] at h
  replace h := h.2
  have h' : ∀ j (hj : j < lo.length) (hj2 : j < hi.length), lo[j] ≤ hi[j] := fun j hj hj2 => by
    have := h j hj
    rw [zs_at lo j hj, zs_at hi j hj2] at this
    omega
  have hl : lo.length = hi.length := by omega
  clear h h1 h2 hlh hll
  induction lo generalizing hi with
  | nil => rfl
  | cons l lo ih => cases hi with
    | nil => cases hl
    | cons x hi =>
      simp only [withinL, Bool.and_eq_true, decide_eq_true_eq]
      exact ⟨⟨Nat.le_refl _, h' 0 (by simp) (by simp)⟩, ih hi (fun j hj hj2 => by have := h' (j + 1) (by simpa using hj) (by simpa using hj2); simpa using this) (by simpa using hl)⟩
/-- what Fill leaves -/
def Filled (w : World) (b g h : Nat) (S lo hi : List Nat) (C : List Int) (n : Int) (e : Ending) (w' : World) : Prop :=
  e = .returned (.int .i64 0) ∧ Slb w' b g h (zs S) (fillL n ((rangeL lo hi).map (placeL S)) C) ∧ Onl (· = h) w w'
set_option maxRecDepth 100000 in
set_option maxHeartbeats 2000000 in
theorem fill_in (w : World) (b g h : Nat) (S : List Nat) (C : List Int) (H : Slb w b g h (zs S) C) (F : Fits S C) (lo hi : List Nat) (p q : Option Addr) (c1 c2 : Nat) (hp : CellsD (· = h) w p (iv (zs lo))) (hq : CellsD (· = h) w q (iv (zs hi)))
    (hr : rangeB (zs S) (zs lo) (zs hi) = true) (hok : okC S lo = true) (hok2 : okC S hi = true) (n : Int) :
    CallsIn Fence.wide 9 Try.prog 21 #[.pointer (some ⟨b, 0, none⟩), .slice p lo.length c1, .slice q hi.length c2, .int .i64 n] w (Filled w b g h S lo hi C n) := by
  obtain ⟨k, m, _, _, HS⟩ := H.sb
  have HLL := hid (okC_length S lo hok)
  have HLH := hid (okC_length S hi hok2)
  have hfew := F.few
  obtain ⟨W1, hW1⟩ : ∃ W1, (w.alloc (.cells #[.pointer (some ⟨b, 0, none⟩)] 24)).alloc (.cells #[.int .i64 n] 3) = W1 := ⟨_, rfl⟩
  have hB1 : Below w.heap.size w W1 := by rw [← hW1]; exact (below_alloc w _).alloc (by simp) _
  have hs1 : W1.heap.size = w.heap.size + 1 + 1 := by rw [← hW1]; simp
  have x0 : W1.cell? ⟨w.heap.size, 0, none⟩ = some (.pointer (some ⟨b, 0, none⟩)) := by
    rw [← hW1, cell_of_row _ _ _ _ _ _ ((Below.heap_alloc _ _ _ (by simp)).trans (heap_alloc_new w _))]; rfl
  have x1 : W1.cell? ⟨w.heap.size + 1, 0, none⟩ = some (.int .i64 n) := by
    have := heap_alloc_new (w.alloc (.cells #[.pointer (some ⟨b, 0, none⟩)] 24)) (.cells #[.int .i64 n] 3)
    rw [World.size_alloc] at this
    rw [← hW1, cell_of_row _ _ _ _ _ _ this]; rfl
  have HRG := hid fun (V : World) (hV : Below w.heap.size w V) => range_ok b _ _ k m (zs S) C V (HS.below hV) (zs lo) (zs hi) p q c1 c2 (hp.below hV).cells (hq.below hV).cells (by rw [zs_len]; have := HLL.out; omega) (by rw [zs_len]; have := HLH.out; omega)
  rw [hr] at HRG
  simp only [zs_len] at HRG
  have HB1 := hid hB1
  have HR := hid hr
  have HSS := hid HS
  have HH := hid H
  have HPP := hid hp
  have HQQ := hid hq
  have HS1 := hid hs1
  clear hr HS H hp hq hB1 hs1
  refine callsIn_of_wp_marks Try.func21 rfl trivial ?_ rfl
  simp only [Try.ntmps21, List.size_toArray, List.length_cons, List.length_nil, Nat.reduceAdd, Nat.reduceSub, Array.replicate_succ, Array.replicate_zero, List.push_toArray, List.append_toArray, List.nil_append, List.cons_append]
  gi_wp2_with (first
    | (gi_at_call 38; refine (callsIn_wide.2 (HRG.out _ HB1.out)).mono ?_; rintro e w' ⟨rfl, n1, rfl⟩)
    | (refine ⟨trivial, ?_⟩; gi_at_call 38; refine (callsIn_wide.2 (HRG.out _ HB1.out)).mono ?_; rintro e w' ⟨rfl, n1, rfl⟩)
    | (gi_at_call 39; refine (places_in _ _ _ _ _ _ _ _ _).mono ?_; rintro e w' ⟨rfl, rfl⟩)
    | (refine ⟨trivial, ?_⟩; gi_at_call 39; refine (places_in _ _ _ _ _ _ _ _ _).mono ?_; rintro e w' ⟨rfl, rfl⟩))
  obtain ⟨W0, hW0⟩ : ∃ W0, ((((W1.drewN n1).alloc (Obj.cells #[Value.pointer (some ⟨b, 0, none⟩)] 24)).alloc (Obj.cells #[Value.slice p lo.length c1] 22)).alloc (Obj.cells #[Value.slice q hi.length c2] 22)) = W0 := ⟨_, rfl⟩
  have hs0' : W0.heap.size = W1.heap.size + 1 + 1 + 1 := by rw [← hW0]; simp
  have hs0 : W0.heap.size ≤ W1.heap.size + 1 + 1 + 1 := Nat.le_of_eq hs0'
  have hs02 : W1.heap.size + 1 + 1 + 1 ≤ W0.heap.size := Nat.le_of_eq hs0'.symm
  clear hs0'
  have hB0 : Below W1.heap.size W1 W0 := by
    rw [← hW0]
    exact (((below_drewN (Below.refl _ _) n1).alloc (by simp) _).alloc (by simp) _).alloc (by simp; omega) _
  have b0 : W0.heap[W1.heap.size]? = some (.cells #[Value.pointer (some ⟨b, 0, none⟩)] 24 (0, 0)) := by
    rw [← hW0, Below.heap_alloc _ _ _ (by simp; omega), Below.heap_alloc _ _ _ (by simp)]; exact heap_alloc_new (W1.drewN n1) _
  have b1 : W0.heap[W1.heap.size + 1]? = some (.cells #[Value.slice p lo.length c1] 22 (0, 0)) := by
    rw [← hW0, Below.heap_alloc _ _ _ (by simp)]
    have := heap_alloc_new ((W1.drewN n1).alloc (Obj.cells #[Value.pointer (some ⟨b, 0, none⟩)] 24)) (Obj.cells #[Value.slice p lo.length c1] 22)
    rw [World.size_alloc] at this; exact this
  have b2 : W0.heap[W1.heap.size + 1 + 1]? = some (.cells #[Value.slice q hi.length c2] 22 (0, 0)) := by
    rw [← hW0]
    have := heap_alloc_new (((W1.drewN n1).alloc (Obj.cells #[Value.pointer (some ⟨b, 0, none⟩)] 24)).alloc (Obj.cells #[Value.slice p lo.length c1] 22)) (Obj.cells #[Value.slice q hi.length c2] 22)
    rw [World.size_alloc, World.size_alloc] at this; exact this
  have hBw : Below w.heap.size w W0 := HB1.out.trans (hB0.mono HB1.out.size)
  have hH0 := HH.out.below hBw
  have hne := HH.out.ne
  have hlt := HH.out.co.lt
  have hws : W1.heap.size ≤ w.heap.size + 2 := Nat.le_of_eq HS1.out
  have hws2 : w.heap.size + 2 ≤ W1.heap.size := Nat.le_of_eq HS1.out.symm
  rw [hW0]
  clear hW0
  have x0' : W0.cell? ⟨w.heap.size, 0, none⟩ = some (.pointer (some ⟨b, 0, none⟩)) := (hB0.cell (p := ⟨w.heap.size, 0, none⟩) (by show w.heap.size < _; omega)).trans x0
  have x1' : W0.cell? ⟨w.heap.size + 1, 0, none⟩ = some (.int .i64 n) := (hB0.cell (p := ⟨w.heap.size + 1, 0, none⟩) (by show w.heap.size + 1 < _; omega)).trans x1
  have hItF : ∀ W, Stay W0.heap.size (· = h) W0 W → ItF W1.heap.size (W1.heap.size + 1) (W1.heap.size + 1 + 1) b (some ⟨g, 0, none⟩) p q k c1 c2 S lo hi W := fun W hst => by
    have cell : ∀ j i, j < W0.heap.size → j ≠ h → W.cell? ⟨j, i, none⟩ = W0.cell? ⟨j, i, none⟩ := fun j i hj hjh => World.cell?_of_block (hst.block j hj hjh)
    have y0 := (HSS.out.below hBw).cell0
    rw [zs_len] at y0
    refine ⟨?_, ?_, ?_, ?_, ?_, ?_, ?_⟩
    · rw [cell _ _ (by omega) (by omega), cell_of_row _ _ _ _ _ _ b0]; rfl
    · rw [cell _ _ (by omega) (by omega), cell_of_row _ _ _ _ _ _ b1]; rfl
    · rw [cell _ _ (by omega) (by omega), cell_of_row _ _ _ _ _ _ b2]; rfl
    · rw [cell _ _ (hH0.lt) hne.2.1]; exact y0
    · exact (hH0.sz.keep (hst.block g hH0.sz.lt hne.2.2)).cells
    · exact ((HPP.out.below hBw).stay (Nat.le_refl _) hst fun _ e => e).cells
    · exact ((HQQ.out.below hBw).stay (Nat.le_refl _) hst fun _ e => e).cells
  have hp0 : 0 < prodL S := prodL_pos S F.pos
  have hS0 : 0 < S.length := List.length_pos_iff.2 F.some
  have hmost := F.most
  have hwi : withinL lo lo hi = true := range_within S lo hi hok hok2 HR.out
  have hCl := hid F.len
  have hbN := hH0.lt
  have hhN := hH0.co.lt
  have hy1 : W0.cell? ⟨b, 1, none⟩ = some (.slice (some ⟨h, 0, none⟩) C.length m) := (HSS.out.below hBw).cell1
  refine range_cells rfl ?h1 (gf := 54) (lb := #[.pointer (some ⟨W1.heap.size + 1, 0, none⟩), .pointer (some ⟨W1.heap.size, 0, none⟩), .pointer (some ⟨W1.heap.size + 1 + 1, 0, none⟩)]) rfl trivial (enters_of Try.func54 (by kernel_rfl) rfl)
    (encs := fun (x : Fin (prodL S)) => #[Value.int .i64 ((x.1 : Nat) : Int)]) (Kp := Kp W0.heap.size (· = h) (W0.heap.size + 3)) (S := fun xs => xs = (rangeL lo hi).map (pf S hp0)) (N := (rangeL lo hi).length) (w0 := W0) (C := W0.heap.size + 3) ?hC
    (fun l J Jx W hW hWs hJ hJx hY h0 => by
      have e3 : W.heap.size + 1 = W0.heap.size + 3 := by omega
      have := places1_in (9 - 1) (by omega) l W1.heap.size (W1.heap.size + 1) (W1.heap.size + 1 + 1) b (some ⟨g, 0, none⟩) p q k c1 c2 S lo hi hok hok2 hwi (by omega) (by omega) hS0 hp0 W0.heap.size (· = h) W0 (by omega) hItF J Jx W (Stay.below hW (by omega)) (by rw [e3]; exact hJ) (by rw [e3]; exact hY) h0
      exact this)
    Kp.trans ?hKb ?hb0 (fun _ => rfl) (fun pre W => Row W h (fillL n (pre.map (·.1)) C) ∧ Stay W0.heap.size (· = h) W0 W ∧ W.os = W0.os ∧ W.tape = W0.tape ∧ W.output = W0.output) ?hI ?h0
    (fun x => { tmps := #[Value.pointer (some ⟨b, 0, none⟩), Value.slice p lo.length c1, Value.slice q hi.length c2,
          Value.int IntKind.i64 n, Value.pointer (some ⟨w.heap.size, 0, none⟩), undef, undef,
          Value.pointer (some ⟨w.heap.size + 1, 0, none⟩), Value.int IntKind.i64 0, Value.int .i64 ((x.1 : Nat) : Int),
          Value.pointer (some ⟨b, 0, none⟩), Value.slice p lo.length c1, Value.slice q hi.length c2,
          Value.bool true, Value.bool false, Value.pointer (some ⟨b, 0, none⟩), Value.slice p lo.length c1,
          Value.slice q hi.length c2,
          Value.func (Fn.func 54) #[]
            #[Value.pointer (some ⟨W1.heap.size + 1, 0, none⟩),
              Value.pointer (some ⟨W1.heap.size, 0, none⟩),
              Value.pointer (some ⟨W1.heap.size + 1 + 1, 0, none⟩)],
          Value.int .i64 ((x.1 : Nat) : Int), undef, undef, undef, undef, undef, undef, undef], defers := [] })
    ?assign ?body ?done
  case h1 => omega
  case hC => omega
  case hKb =>
    intro W l o h1 h2
    exact ⟨⟨by simp, fun k hk _ => World.putObj_heap_other (by omega)⟩, fun _ => World.putObj_heap_other (by omega)⟩
  case hb0 => exact Below.refl _ _
  case hI =>
    rintro s X Y r ⟨h1, h2, h3, h4, h5⟩ hr1 hr2 hg
    have hsz := h2.size
    exact ⟨h1.keep (hg.block h h1.lt (fun e => by injection e with e; omega)), h2.trans (Stay.grown hg (by omega) (by omega)), hg.os.trans h3, hg.tape.trans h4, hg.output.trans h5⟩
  case h0 => exact ⟨hH0.co, Stay.refl _ _ _, rfl, rfl, rfl⟩
  case assign =>
    intro l x W K hK
    gi_wp2
    exact hK
  case body =>
    rintro l pre x W ⟨h1, h2, h3, h4, h5⟩ hC hlen
    have cell : ∀ j i, j < W0.heap.size → j ≠ h → W.cell? ⟨j, i, none⟩ = W0.cell? ⟨j, i, none⟩ := fun j i hj hjh => World.cell?_of_block (h2.block j hj hjh)
    have z0 := (cell w.heap.size 0 (by omega) (by omega)).trans x0'
    have z1 := (cell (w.heap.size + 1) 0 (by omega) (by omega)).trans x1'
    have z2 := (cell b 1 (by omega) hne.2.1).trans hy1
    have hxl : x.1 < (fillL n (pre.map (·.1)) C).length := by rw [fillL_length, hCl.out]; exact x.2
    have z3 := h1.cell x.1 hxl
    have f3 := h1.frozen x.1
    have hxc : x.1 < C.length := by rw [hCl.out]; exact x.2
    have hG0 : h < W.heap.size := h1.lt
    have hrow : Row ((W.setCell ⟨h, x.1, none⟩ (.int .i64 n)).drew) h (fillL n ((pre ++ [x]).map (·.1)) C) := by
      rw [List.map_append, List.map_singleton, fillL_snoc]
      exact (h1.set x.1 hxl n).keep rfl
    have hdr : ∀ V : World, V.drew.heap = V.heap := fun _ => rfl
    have fin : KeepsFrom W0.heap.size W ((W.setCell ⟨h, x.1, none⟩ (.int .i64 n)).drew) ∧ Kp W0.heap.size (· = h) (W0.heap.size + 3) W ((W.setCell ⟨h, x.1, none⟩ (.int .i64 n)).drew) ∧ Row ((W.setCell ⟨h, x.1, none⟩ (.int .i64 n)).drew) h (fillL n ((pre ++ [x]).map (·.1)) C) ∧
        Stay W0.heap.size (· = h) W0 ((W.setCell ⟨h, x.1, none⟩ (.int .i64 n)).drew) ∧ ((W.setCell ⟨h, x.1, none⟩ (.int .i64 n)).drew).os = W0.os ∧ ((W.setCell ⟨h, x.1, none⟩ (.int .i64 n)).drew).tape = W0.tape ∧ ((W.setCell ⟨h, x.1, none⟩ (.int .i64 n)).drew).output = W0.output := by
      have hst : Stay W0.heap.size (· = h) W ((W.setCell ⟨h, x.1, none⟩ (.int .i64 n)).drew) := ⟨by rw [hdr, World.size_setCell]; exact Nat.le_refl _, fun k _ hq => by rw [hdr]; exact heap_setCell_other _ _ _ _ hq⟩
      refine ⟨?_, ⟨hst, fun _ => by rw [hdr]; exact heap_setCell_other _ _ _ _ (by show W0.heap.size + 3 ≠ h; omega)⟩, hrow, h2.trans hst, h3, h4, h5⟩
      have := (KeepsOthers.setCell W ⟨h, x.1, none⟩ (.int .i64 n))
      exact ⟨this.size, fun k o _ hk ho => this.same k o hk ho⟩
    have FIN := hid fin
    clear fin hdr hrow
    generalize hv : x.1 = v at *
    gi_wp2
    gi_region
    all_goals gi_wp2
    all_goals exact FIN.out
  case done =>
    rintro D xs W rfl rfl ⟨h1, h2, h3, h4, h5⟩ hK
    have hrw : ((rangeL lo hi).map (pf S hp0)).map (·.1) = (rangeL lo hi).map (placeL S) := by
      rw [List.map_map]
      exact List.map_congr_left fun c hc => pf_val S hp0 c (range_okC S lo hi c hok hok2 F.pos hc)
    rw [hrw] at h1
    have hst := h2.trans (Stay.grown (N := W0.heap.size) (Q := (· = h)) (G := W0.heap.size) (grownBy_putObj' W W0.heap.size (.deferred none)) h2.size (Nat.le_refl _))
    have hfin : Filled w b g h S lo hi C n (.returned (.int .i64 0)) (W.putObj W0.heap.size (.deferred none)) := by
      refine ⟨rfl, ⟨?_, ?_, ?_, hne⟩, ⟨?_, ?_, ?_, ?_, ?_⟩⟩
      · obtain ⟨k', m', e1, e2, e⟩ := hH0.head
        exact ⟨k', m', e1, by rw [fillL_length]; exact e2, by rw [fillL_length]; exact (hst.block b hbN hne.2.1).trans e⟩
      · exact hH0.sz.keep (hst.block g hH0.sz.lt hne.2.2)
      · exact h1.keep (World.putObj_heap_other (by omega))
      · exact h3.trans hBw.os
      · exact h4.trans hBw.tape
      · exact h5.trans hBw.output
      · have := hBw.size; have := hst.size; omega
      · intro j hj hjh
        have := hBw.size
        exact (hst.block j (by omega) hjh).trans (hBw.block j hj)
    have HF := hid hfin
    have HK := hid hK
    clear hfin hst hrw h1 h2 h3 h4 h5 hK
    gi_wp2
    refine ⟨by simp, .inl ⟨_, _, rfl, run_takeDeferred HK.out, ?_⟩⟩
    refine ⟨.int .i64 0, ?_, HF.out⟩
    simp [results, Try.f21, go_sem]
theorem fill_ok (w : World) (b g h : Nat) (S : List Nat) (C : List Int) (H : Slb w b g h (zs S) C) (F : Fits S C) (lo hi : List Nat) (p q : Option Addr) (c1 c2 : Nat) (hp : CellsD (· = h) w p (iv (zs lo))) (hq : CellsD (· = h) w q (iv (zs hi)))
    (hr : rangeB (zs S) (zs lo) (zs hi) = true) (hok : okC S lo = true) (hok2 : okC S hi = true) (n : Int) :
    Calls Try.prog 21 #[.pointer (some ⟨b, 0, none⟩), .slice p lo.length c1, .slice q hi.length c2, .int .i64 n] w (Filled w b g h S lo hi C n) :=
  callsIn_wide.1 (fill_in w b g h S C H F lo hi p q c1 c2 hp hq hr hok hok2 n)
set_option maxRecDepth 100000 in
set_option maxHeartbeats 1000000 in
theorem fill_bad (w : World) (b g h : Nat) (S C : List Int) (H : Slb w b g h S C) (lo hi : List Int) (p q : Option Addr) (c1 c2 : Nat) (hp : CellsAt w p (iv lo)) (hq : CellsAt w q (iv hi)) (hl : lo.length ≤ 1000000) (hl2 : hi.length ≤ 1000000)
    (hr : rangeB S lo hi = false) (n : Int) :
    Calls Try.prog 21 #[.pointer (some ⟨b, 0, none⟩), .slice p lo.length c1, .slice q hi.length c2, .int .i64 n] w fun e w' => e = .returned (.int .i64 1) ∧ Below w.heap.size w w' := by
  obtain ⟨k, m, _, _, HS⟩ := H.sb
  obtain ⟨W1, hW1⟩ : ∃ W1, (w.alloc (.cells #[.pointer (some ⟨b, 0, none⟩)] 24)).alloc (.cells #[.int .i64 n] 3) = W1 := ⟨_, rfl⟩
  have hB1 : Below w.heap.size w W1 := by rw [← hW1]; exact (below_alloc w _).alloc (by simp) _
  have x0 : W1.cell? ⟨w.heap.size, 0, none⟩ = some (.pointer (some ⟨b, 0, none⟩)) := by
    rw [← hW1, cell_of_row _ _ _ _ _ _ ((Below.heap_alloc _ _ _ (by simp)).trans (heap_alloc_new w _))]; rfl
  have HRG := hid (range_ok b _ _ k m S C W1 (HS.below hB1) lo hi p q c1 c2 (hp.below hB1) (hq.below hB1) hl hl2)
  rw [hr] at HRG
  have HB := hid hB1
  clear hB1 H HS hp hq hr
  go_enter Try.func21, Try.ntmps21
  go_wp2_with fail
  refine HRG.out.mono ?_
  rintro e w1 ⟨rfl, n1, rfl⟩
  go_wp2_with fail
  go_ret
  exact ⟨rfl, below_drewN HB.out _⟩
end Go.Proofs.Ytnmhdlincgefeaa.Sl
