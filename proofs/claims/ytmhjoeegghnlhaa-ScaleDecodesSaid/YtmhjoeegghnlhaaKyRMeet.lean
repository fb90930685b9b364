/- Meet of the reference. -/
import Derived.Test.YtmhjoeegghnlhaaKyWhole
namespace Go.Proofs.Ytmhjoeegghnlhaa.Ky
open Go.RowKit
open Go.Lib (hid)

/-- the loop's relation -/
def RM (w W : World) (N : Nat) (hs ls : List Nat) (i : Value) (wr : World) : Prop :=
  ∃ (k : Nat) (vl vh : Value), k ≤ N ∧ i = .int .i64 k ∧ Bx wr (w.heap.size + 3) vl vh (hs.take k) (ls.take k) ∧ Below W.heap.size W wr
theorem take_zip {f : Nat → Nat → Nat} {l m : List Nat} {k : Nat} (h1 : k < l.length) (h2 : k < m.length) : (List.zipWith f l m).take k ++ [f l[k] m[k]] = (List.zipWith f l m).take (k + 1) := by
  rw [List.take_succ_eq_append_getElem (by simp; omega), List.getElem_zipWith]
theorem ifmax (x y : Nat) : (if x < y then (y : Int) else (x : Int)) = ((max x y : Nat) : Int) := by split <;> omega
theorem ifmin (x y : Nat) : (if y < x then (y : Int) else (x : Int)) = ((min x y : Nat) : Int) := by split <;> omega
theorem mid_below {w W wr w2 : World} {v : Value} {o : Obj} {xs : List Value} {n : Nat} (hb : Below W.heap.size W wr) (ho : wr.ownsRow (w.heap.size + 4) 30 1 v n xs) (hg : (wr.alloc o).grownBy w2 v.ownBlock) (_hl : w.heap.size + 3 < wr.heap.size) (hW : W.heap.size = w.heap.size + 3) : Below W.heap.size W w2 :=
  (hb.alloc hb.size o).grown hg (by have := hb.size; simp; omega) (fun k hk => by have := (ho.lt k hk).1; omega)
theorem bel_push2 {w W wr w2 : World} {v : Value} {o : Obj} {xs : List Value} {n i : Nat} (hb : Below W.heap.size W wr) (ho : wr.ownsRow (w.heap.size + 4) 30 1 v n xs) (hg : (wr.alloc o).grownBy w2 v.ownBlock) (hl : w.heap.size + 3 < wr.heap.size) (hW : W.heap.size = w.heap.size + 3) (u : Value) : Below W.heap.size W (w2.setCell ⟨w.heap.size + 3, i, none⟩ u) :=
  (mid_below hb ho hg hl hW).setCell (by show W.heap.size ≤ w.heap.size + 3; omega) _
theorem pick4 {p1 p2 p3 p4 q1 q2 q3 q4 : Prop} (h : (p1 ∧ p2 ∧ p3 ∧ p4) ∧ q1 ∧ q2 ∧ q3 ∧ q4) : p1 ∧ p3 ∧ q1 ∧ q3 := ⟨h.1.1, h.1.2.2.1, h.2.1, h.2.2.2.1⟩
theorem pick4' {p1 p2 p3 p4 q1 q2 q3 q4 : Prop} (h : (p1 ∧ p2 ∧ p3 ∧ p4) ∧ q1 ∧ q2 ∧ q3 ∧ q4) : p2 ∧ p4 ∧ q2 ∧ q4 := ⟨h.1.2.1, h.1.2.2.2, h.2.2.1, h.2.2.2.2⟩
theorem ready_check2 {w V : World} {g : Nat} {A A' : Option Addr} {c c' : Nat} {lo hi : List Nat} (h : Ready w V g A c A' c' lo hi) (d : Int) (hl : lo.length ≤ 9223372036854775807) (b : Bool) (hb : boxB lo hi d = b) :
    Calls Try.prog 35 #[.agg #[.slice A lo.length c, .slice A' hi.length c'], .int .i64 d] V fun e w' => e = .returned (.int .i64 (err b)) ∧ Ready w w' g A c A' c' lo hi := by
  refine (refCheckBox_ok lo hi A A' c c' d V h.low h.high hl).mono fun e w' hh => ⟨by rw [hh.1, hb], ?_⟩
  have hb2 := hh.2
  exact ⟨h.below.trans (hb2.mono h.below.size), h.low.below hb2, h.high.below hb2, (hb2.block _ (lt_of h.box)).trans h.box, (hb2.block _ (lt_of h.out)).trans h.out, h.ne, h.ge⟩
theorem meetB_four {al ah bl bh : List Nat} (h1 : ah.length = al.length) (h2 : bl.length = al.length) (h3 : bh.length = al.length) : meetB al ah bl bh = boxB (List.zipWith max al bl) (List.zipWith min ah bh) (al.length : Int) := by
  have e1 : (List.zipWith max al bl).length = al.length := by simp; omega
  unfold meetB boxB checkB boxN four hiOf loOf
  rw [e1, mayB_nat]
  simp [h1, h2, h3]
theorem un_drew {w w' : World} {row : Option Nat} (h : w.drew.grownBy w' row) : w.grownBy w' row := ⟨h.os, h.tape, h.output, h.size, h.block⟩
set_option maxRecDepth 100000 in
set_option maxHeartbeats 40000000 in
theorem refMeet_ok (al ah bl bh : List Nat) (p q r s : Option Addr) (c1 c2 c3 c4 : Nat) (w : World) (h1 : Pt w p al) (h2 : Pt w q ah) (h3 : Pt w r bl) (h4 : Pt w s bh) (g1 : al.length ≤ 1000000) :
    Calls Try.prog 36 #[.agg #[.slice p al.length c1, .slice q ah.length c2], .agg #[.slice r bl.length c3, .slice s bh.length c4]] w (NewBox w (meetLo al ah bl bh) (meetHi al ah bl bh) (.bool (meetB al ah bl bh))) := by
  obtain ⟨oa, hoa⟩ : ∃ o, o = Obj.cells #[Value.slice p al.length c1, .slice q ah.length c2] 34 := ⟨_, rfl⟩
  obtain ⟨ob, hob⟩ : ∃ o, o = Obj.cells #[Value.slice r bl.length c3, .slice s bh.length c4] 34 := ⟨_, rfl⟩
  obtain ⟨oz, hoz⟩ : ∃ o, o = Obj.cells #[Value.slice none 0 0, .slice none 0 0] 34 := ⟨_, rfl⟩
  have HB0 := hid (((below_alloc w oa).alloc (below_alloc w oa).size ob).alloc ((below_alloc w oa).alloc (below_alloc w oa).size ob).size oz)
  obtain ⟨W, hW⟩ : ∃ W, W = ((w.alloc oa).alloc ob).alloc oz := ⟨_, rfl⟩
  have HK := hid (show W.cell? ⟨w.heap.size, 0, none⟩ = some (.slice p al.length c1) ∧ W.cell? ⟨w.heap.size, 1, none⟩ = some (.slice q ah.length c2) ∧ W.cell? ⟨w.heap.size + 1, 0, none⟩ = some (.slice r bl.length c3) ∧ W.cell? ⟨w.heap.size + 1, 1, none⟩ = some (.slice s bh.length c4) ∧ W.heap.size = w.heap.size + 3 by
    obtain ⟨a1, a2, _, a4⟩ := three_new w oa ob oz
    subst hoa hob hoz
    rw [hW]
    exact ⟨by rw [cell_of_row _ _ _ _ _ _ a1]; rfl, by rw [cell_of_row _ _ _ _ _ _ a1]; rfl, by rw [cell_of_row _ _ _ _ _ _ a2]; rfl, by rw [cell_of_row _ _ _ _ _ _ a2]; rfl, a4⟩)
  have HZ := hid (show W.heap[w.heap.size + 2]? = some (.cells #[Value.slice none 0 0, .slice none 0 0] 34 (0, 0)) by rw [hW, (three_new w oa ob oz).2.2.1, hoz])
  have HBL := HB0
  rw [← hW] at HB0
  have HP := hid fun (w' : World) (h : Below w.heap.size w w') => And.intro (h1.below h) (And.intro (h2.below h) (And.intro (h3.below h) (h4.below h)))
  have HF := hid (And.intro (zip_fit (f := max) (fun a b _ _ => by omega) (pt_mem h1) (pt_mem h3)) (zip_fit (f := min) (fun a b _ _ => by omega) (pt_mem h2) (pt_mem h4)))
  have HG := hid g1
  clear h1 h2 h3 h4 g1
  have x := keep4 HK.out (Below.refl _ _)
  have HS := hid (store_out (lo := []) (hi := []) (A := none) (A' := none) HB0.out (by omega) HZ.out (Pt.nil _ _) (Pt.nil _ _) (.slice none 0 0) (.slice none 0 0) (by simp))
  have z := zero_cells HZ.out
  subst hoa hob hoz
  by_cases f1 : ah.length = al.length
  · by_cases f2 : bl.length = al.length
    · by_cases f3 : bh.length = al.length
      · have e0 : ((ah.length : Int) != (al.length : Int)) = false := by simp [f1]
        have e1 : ((bl.length : Int) != (al.length : Int)) = false := by simp [f2]
        have e2 : ((bh.length : Int) != (al.length : Int)) = false := by simp [f3]
        have HLN := hid (And.intro f1 (And.intro f2 f3))
        have HX0 := hid (new_bx W)
        rw [HK.out.2.2.2.2] at HX0
        obtain ⟨i0, hi0, hz0, hz1, hz2⟩ := info_parts info46'
        clear f1 f2 f3
        go_enter Try.func36, Try.ntmps36
        go_wp2_with fail
        rw [← hW]
        clear hW e0 e1 e2 x z HS HBL
        go_loopw [8] (fun i wr => RM w W al.length (List.zipWith max al bl) (List.zipWith min ah bh) i wr) (fun i _ => al.length - (intOf i).toNat)
        case atStart => exact ⟨0, _, _, by omega, rfl, HX0.out, (Below.refl _ _).alloc (Nat.le_refl _) _⟩
        case round =>
          obtain ⟨k, vl, vh, hk, rfl, hx, hb⟩ := hrel
          have HX := hid hx; have HB := hid hb; clear hx hb HX0
          have x := keep4 HK.out HB.out
          have c := HX.out.cells
          by_cases hlt : k < al.length
          · obtain ⟨P1, P2, P3, P4⟩ := HP.out _ (Below.refl _ _)
            have n2 : k < ah.length := by have := HLN.out; omega
            have n3 : k < bl.length := by have := HLN.out; omega
            have n4 : k < bh.length := by have := HLN.out; omega
            obtain ⟨b1, o1, rfl, l1, d1⟩ := P1.cells k hlt
            obtain ⟨b2, o2, rfl, l2, d2⟩ := P2.cells k n2
            obtain ⟨b3, o3, rfl, l3, d3⟩ := P3.cells k n3
            obtain ⟨b4, o4, rfl, l4, d4⟩ := P4.cells k n4
            have HT1 := hid (take_zip (f := max) hlt n3)
            have HT2 := hid (take_zip (f := min) n2 n4)
            have HL1 : Hid ((List.take k (List.zipWith max al bl)).length = k) := hid (by simp; omega)
            have HL2 : Hid ((List.take k (List.zipWith min ah bh)).length = k) := hid (by simp; omega)
            have hmx := ifmax al[k] bl[k]
            have hmn := ifmin ah[k] bh[k]
            generalize al[k] = x1 at d1 hmx HT1
            generalize bl[k] = y1 at d3 hmx HT1
            generalize ah[k] = x2 at d2 hmn HT2
            generalize bh[k] = y2 at d4 hmn HT2
            generalize max x1 y1 = m1 at hmx HT1
            generalize min x2 y2 = m2 at hmn HT2
            have HSW := hid fun (w' : World) (hb : Below W.heap.size W w') => And.intro (keep4 HK.out hb) (And.intro ((((HB0.out.trans (hb.mono HB0.out.size)).cell (p := ⟨b1, o1 + k, none⟩) l1).trans d1)) (And.intro (((HB0.out.trans (hb.mono HB0.out.size)).cell (p := ⟨b2, o2 + k, none⟩) l2).trans d2) (And.intro (((HB0.out.trans (hb.mono HB0.out.size)).cell (p := ⟨b3, o3 + k, none⟩) l3).trans d3) (((HB0.out.trans (hb.mono HB0.out.size)).cell (p := ⟨b4, o4 + k, none⟩) l4).trans d4))))
            clear d1 d2 d3 d4 l1 l2 l3 l4 P1 P2 P3 P4 x
            have hk6 : k ≤ 1000000 := by have := HG.out; omega
            have hmax : k + 1 ≤ maxLen := by unfold maxLen; omega
            have hby : (k + 1) * 4 ≤ 140737488355328 := by omega
            have HOL : Hid (wr.ownsRow (w.heap.size + 4) 30 1 vl k (kl ((List.zipWith max al bl).take k))) := hid (by have := HX.out.ol; rw [HL1.out] at this; exact this)
            have HSZ := hid HX.out.lt
            have HGW := hid (show W.heap.size = w.heap.size + 3 from HK.out.2.2.2.2)
            have HB1 := hid HB.out.drew
            have HB2 := hid (show Below W.heap.size W (wr.alloc (.cells #[Value.int .u32 (m1 : Int)] 30)).drew from (HB.out.alloc HB.out.size _).drew)
            have HOD : Hid ((wr.alloc (.cells #[Value.int .u32 (m1 : Int)] 30)).drew.ownsRow (w.heap.size + 4) 30 1 vl k (kl ((List.zipWith max al bl).take k))) := hid (HOL.out.alloc _)
            have HSD : Hid (w.heap.size + 4 ≤ (wr.alloc (.cells #[Value.int .u32 (m1 : Int)] 30)).drew.heap.size) := hid (show w.heap.size + 4 ≤ (wr.alloc (.cells #[Value.int .u32 (m1 : Int)] 30)).heap.size by have := HSZ.out; simp; omega)
            have HND := hid (World.news_of_block (w := (wr.alloc (.cells #[Value.int .u32 (m1 : Int)] 30)).drew) (B := wr.heap.size) (cs := #[.int .u32 (m1 : Int)]) (t := 30) (fr := (0, 0)) (heap_alloc_new wr _))
            have ca : (wr.alloc (.cells #[Value.int .u32 (m1 : Int)] 30)).cell? ⟨w.heap.size + 3, 0, none⟩ = some vl := (World.cell?_alloc_lt _ _ _ HSZ.out).trans c.1
            go_wp2_with fail
            have c1d : wr.drew.cell? ⟨w.heap.size + 3, 0, none⟩ = some vl := c.1
            refine wp_region_held_drew (S := fun w' => w'.cell? ⟨w.heap.size, 0, none⟩ = some (.slice (some ⟨b1, o1, none⟩) al.length c1) ∧ w'.cell? ⟨w.heap.size + 1, 0, none⟩ = some (.slice (some ⟨b3, o3, none⟩) bl.length c3) ∧ w'.cell? ⟨b1, o1 + k, none⟩ = some (.int .u32 (x1 : Int)) ∧ w'.cell? ⟨b3, o3 + k, none⟩ = some (.int .u32 (y1 : Int))) (by kernel_rfl) (by exact (pick4 (HSW.out _ HB1.out))) (fun hHeld => ?_)
            refine wpAnyH_take (i := 0) (oi := { dst := some 38, op := Op.fieldAddr 34 (Operand.tmp 7) 0, type := 0, pos := "ref.go:67", after := #[], guard := none }) (v := ?vp0) rfl (by kernel_rfl) (by kernel_rfl) (by kernel_rfl) (fun _ _ _ h => h) (Or.inl ⟨by rfl, ?hyp0⟩) (by assumption) ?restp0
            case hyp0 => (intro w hSw; (try dsimp only at hSw); go_simp; (try with_reducible rfl))
            simp only [Act.put, List.setIfInBounds_toArray, List.set_cons_zero, List.set_cons_succ]
            refine wpAnyH_take (i := 2) (oi := { dst := some 40, op := Op.fieldAddr 34 (Operand.tmp 2) 0, type := 0, pos := "ref.go:67", after := #[], guard := none }) (v := ?vp2) rfl (by kernel_rfl) (by kernel_rfl) (by kernel_rfl) (fun _ _ _ h => h) (Or.inl ⟨by rfl, ?hyp2⟩) (by assumption) ?restp2
            case hyp2 => (intro w hSw; (try dsimp only at hSw); go_simp; (try with_reducible rfl))
            simp only [Act.put, List.setIfInBounds_toArray, List.set_cons_zero, List.set_cons_succ]
            refine wpAnyH_take (i := 3) (oi := { dst := some 41, op := Op.load 32 (Operand.tmp 40), type := 32, pos := "ref.go:67", after := #[{ on := 2, ground := Ground.data }], guard := none }) (v := ?vp3) rfl (by kernel_rfl) (by kernel_rfl) (by kernel_rfl) (fun _ _ _ h => h) (Or.inl ⟨by rfl, ?hyp3⟩) (by assumption) ?restp3
            case hyp3 => (intro w hSw; (try dsimp only at hSw); go_simp; (try with_reducible rfl))
            simp only [Act.put, List.setIfInBounds_toArray, List.set_cons_zero, List.set_cons_succ]
            refine wpAnyH_take (i := 4) (oi := { dst := some 42, op := Op.move (Operand.tmp 8), type := 3, pos := "ref.go:67", after := #[], guard := none }) (v := ?vp4) rfl (by kernel_rfl) (by kernel_rfl) (by kernel_rfl) (fun _ _ _ h => h) (Or.inl ⟨by rfl, ?hyp4⟩) (by assumption) ?restp4
            case hyp4 => (intro w hSw; (try dsimp only at hSw); go_simp; (try with_reducible rfl))
            simp only [Act.put, List.setIfInBounds_toArray, List.set_cons_zero, List.set_cons_succ]
            refine wpAnyH_take (i := 5) (oi := { dst := some 43, op := Op.indexAddr 32 (Operand.tmp 41) (Operand.tmp 42), type := 0, pos := "ref.go:67", after := #[{ on := 3, ground := Ground.data }, { on := 4, ground := Ground.data }], guard := none }) (v := ?vp5) rfl (by kernel_rfl) (by kernel_rfl) (by kernel_rfl) (fun _ _ _ h => h) (Or.inl ⟨by rfl, ?hyp5⟩) (by assumption) ?restp5
            case hyp5 => (intro w hSw; (try dsimp only at hSw); go_simp; (try with_reducible rfl))
            simp only [Act.put, List.setIfInBounds_toArray, List.set_cons_zero, List.set_cons_succ]
            refine wpAnyH_take (i := 6) (oi := { dst := some 44, op := Op.load 30 (Operand.tmp 43), type := 30, pos := "ref.go:67", after := #[{ on := 5, ground := Ground.data }], guard := none }) (v := ?vp6) rfl (by kernel_rfl) (by kernel_rfl) (by kernel_rfl) (fun _ _ _ h => h) (Or.inl ⟨by rfl, ?hyp6⟩) (by assumption) ?restp6
            case hyp6 => (intro w hSw; (try dsimp only at hSw); go_simp; (try with_reducible rfl))
            simp only [Act.put, List.setIfInBounds_toArray, List.set_cons_zero, List.set_cons_succ]
            refine wpAnyH_take (i := 7) (oi := { dst := some 45, op := Op.fieldAddr 34 (Operand.tmp 3) 0, type := 0, pos := "ref.go:67", after := #[], guard := none }) (v := ?vp7) rfl (by kernel_rfl) (by kernel_rfl) (by kernel_rfl) (fun _ _ _ h => h) (Or.inl ⟨by rfl, ?hyp7⟩) (by assumption) ?restp7
            case hyp7 => (intro w hSw; (try dsimp only at hSw); go_simp; (try with_reducible rfl))
            simp only [Act.put, List.setIfInBounds_toArray, List.set_cons_zero, List.set_cons_succ]
            refine wpAnyH_take (i := 8) (oi := { dst := some 46, op := Op.load 32 (Operand.tmp 45), type := 32, pos := "ref.go:67", after := #[{ on := 7, ground := Ground.data }], guard := none }) (v := ?vp8) rfl (by kernel_rfl) (by kernel_rfl) (by kernel_rfl) (fun _ _ _ h => h) (Or.inl ⟨by rfl, ?hyp8⟩) (by assumption) ?restp8
            case hyp8 => (intro w hSw; (try dsimp only at hSw); go_simp; (try with_reducible rfl))
            simp only [Act.put, List.setIfInBounds_toArray, List.set_cons_zero, List.set_cons_succ]
            refine wpAnyH_take (i := 9) (oi := { dst := some 47, op := Op.move (Operand.tmp 8), type := 3, pos := "ref.go:67", after := #[], guard := none }) (v := ?vp9) rfl (by kernel_rfl) (by kernel_rfl) (by kernel_rfl) (fun _ _ _ h => h) (Or.inl ⟨by rfl, ?hyp9⟩) (by assumption) ?restp9
            case hyp9 => (intro w hSw; (try dsimp only at hSw); go_simp; (try with_reducible rfl))
            simp only [Act.put, List.setIfInBounds_toArray, List.set_cons_zero, List.set_cons_succ]
            refine wpAnyH_take (i := 10) (oi := { dst := some 48, op := Op.indexAddr 32 (Operand.tmp 46) (Operand.tmp 47), type := 0, pos := "ref.go:67", after := #[{ on := 8, ground := Ground.data }, { on := 9, ground := Ground.data }], guard := none }) (v := ?vp10) rfl (by kernel_rfl) (by kernel_rfl) (by kernel_rfl) (fun _ _ _ h => h) (Or.inl ⟨by rfl, ?hyp10⟩) (by assumption) ?restp10
            case hyp10 => (intro w hSw; (try dsimp only at hSw); go_simp; (try with_reducible rfl))
            simp only [Act.put, List.setIfInBounds_toArray, List.set_cons_zero, List.set_cons_succ]
            refine wpAnyH_take (i := 11) (oi := { dst := some 49, op := Op.load 30 (Operand.tmp 48), type := 30, pos := "ref.go:67", after := #[{ on := 10, ground := Ground.data }], guard := none }) (v := ?vp11) rfl (by kernel_rfl) (by kernel_rfl) (by kernel_rfl) (fun _ _ _ h => h) (Or.inl ⟨by rfl, ?hyp11⟩) (by assumption) ?restp11
            case hyp11 => (intro w hSw; (try dsimp only at hSw); go_simp; (try with_reducible rfl))
            simp only [Act.put, List.setIfInBounds_toArray, List.set_cons_zero, List.set_cons_succ]
            refine wpAnyH_take (i := 12) (oi := { dst := some 50, op := Op.call { callee := Callee.builtin Builtin.max, args := #[Operand.tmp 44, Operand.tmp 49], argTypes := #[30, 30] }, type := 30, pos := "ref.go:67", after := #[{ on := 6, ground := Ground.data }, { on := 11, ground := Ground.data }], guard := none }) (v := ?vp12) rfl (by kernel_rfl) (by kernel_rfl) (by kernel_rfl) (fun _ _ _ h => h) (Or.inl ⟨by rfl, ?hyp12⟩) (by assumption) ?restp12
            case hyp12 => (intro w hSw; (try dsimp only at hSw); go_simp; (try with_reducible rfl))
            simp only [Act.put, List.setIfInBounds_toArray, List.set_cons_zero, List.set_cons_succ]
            refine wpAnyH_ready (rs := [1, 13]) (by kernel_rfl) (by simp) (AllReadyH.cons (o := { dst := some 39, op := Op.load 32 (Operand.tmp 38), type := 32, pos := "ref.go:67", after := #[{ on := 0, ground := Ground.data }], guard := none }) rfl (fun K hK => ?_) (AllReadyH.cons (o := { dst := some 51, op := Op.buildSlice 32 1 #[(0, Operand.tmp 50)], type := 32, pos := "ref.go:67", after := #[{ on := 12, ground := Ground.data }], guard := none }) rfl (fun K hK => ?_) AllReadyH.nil))
            go_simp
            refine hK.out _ _ (pick4 (HSW.out _ HB1.out)) (fun hHeld => ?_)
            clear hK K
            refine wpAnyH_ready (rs := [13]) (by kernel_rfl) (by simp) (AllReadyH.cons (o := { dst := some 51, op := Op.buildSlice 32 1 #[(0, Operand.tmp 50)], type := 32, pos := "ref.go:67", after := #[{ on := 12, ground := Ground.data }], guard := none }) rfl (fun K hK => ?_) AllReadyH.nil)
            go_simp
            refine hK.out _ _ (pick4 (HSW.out _ HB2.out)) (fun hHeld => ?_)
            clear hK K
            refine wpAnyH_ready (rs := [14]) (by kernel_rfl) (by simp) (AllReadyH.cons (o := { dst := some 52, op := Op.call { callee := Callee.builtin Builtin.append, args := #[Operand.tmp 39, Operand.tmp 51], argTypes := #[32, 32] }, type := 32, pos := "ref.go:67", after := #[{ on := 1, ground := Ground.data }, { on := 13, ground := Ground.data }], guard := none }) rfl (fun K hK => ?_) AllReadyH.nil)
            refine step_append_lies _ (by rfl) _ _ _ (by rfl) (w.heap.size + 4) 30 i0 _ 1 4 Try.underlying32 hi0 hz0 hz1 hz2 rfl (by omega) vl k (kl ((List.zipWith max al bl).take k)) (by rfl) HOD.out ⟨wr.heap.size, 0, none⟩ 1 1 [.int .u32 (m1 : Int)] (by rfl) (by rfl) HND.out (by simp [Value.oneCell']) (by omega) hmax hby HSD.out (wr.heap.size + 1) (by simp) ?_
            intro gg cap w2 ho hg hat _
            have HO := hid ho
            have HGR := hid (un_drew hg)
            have HA := hid hat
            clear ho hg hat
            have c2 := HX.out.midc (.inl rfl) HGR.out
            have HB3 := hid (mid_below HB.out HOL.out HGR.out HSZ.out HGW.out)
            have HB4 := hid (bel_push2 (i := 0) HB.out HOL.out HGR.out HSZ.out HGW.out (.slice (some ⟨gg, 0, none⟩) (k + 1) cap))
            refine hK.out _ _ (pick4 (HSW.out _ HB3.out)) (fun hHeld => ?_)
            clear hK K
            refine wpAnyH_take (i := 15) (oi := { dst := some 53, op := Op.fieldAddr 34 (Operand.tmp 7) 0, type := 0, pos := "ref.go:67", after := #[{ on := 0, ground := Ground.phase }, { on := 1, ground := Ground.phase }, { on := 2, ground := Ground.phase }, { on := 3, ground := Ground.phase }, { on := 4, ground := Ground.phase }, { on := 5, ground := Ground.phase }, { on := 6, ground := Ground.phase }, { on := 7, ground := Ground.phase }, { on := 8, ground := Ground.phase }, { on := 9, ground := Ground.phase }, { on := 10, ground := Ground.phase }, { on := 11, ground := Ground.phase }, { on := 12, ground := Ground.phase }, { on := 13, ground := Ground.phase }, { on := 14, ground := Ground.phase }], guard := none }) (v := ?vp15a) rfl (by kernel_rfl) (by kernel_rfl) (by kernel_rfl) (fun _ _ _ h => h) (Or.inl ⟨by rfl, ?hyp15a⟩) (by assumption) ?restp15a
            case hyp15a => (intro w hSw; (try dsimp only at hSw); go_simp; (try with_reducible rfl))
            simp only [Act.put, List.setIfInBounds_toArray, List.set_cons_zero, List.set_cons_succ]
            refine wpAnyH_ready (rs := [16]) (by kernel_rfl) (by simp) (AllReadyH.cons (o := { dst := none, op := Op.store 32 (Operand.tmp 53) (Operand.tmp 52), type := 0, pos := "ref.go:67", after := #[{ on := 15, ground := Ground.data }, { on := 14, ground := Ground.data }, { on := 14, ground := Ground.chain }, { on := 0, ground := Ground.phase }, { on := 1, ground := Ground.phase }, { on := 2, ground := Ground.phase }, { on := 3, ground := Ground.phase }, { on := 4, ground := Ground.phase }, { on := 5, ground := Ground.phase }, { on := 6, ground := Ground.phase }, { on := 7, ground := Ground.phase }, { on := 8, ground := Ground.phase }, { on := 9, ground := Ground.phase }, { on := 10, ground := Ground.phase }, { on := 11, ground := Ground.phase }, { on := 12, ground := Ground.phase }, { on := 13, ground := Ground.phase }, { on := 14, ground := Ground.phase }], guard := none }) rfl (fun K hK => ?_) AllReadyH.nil)
            go_simp
            refine hK.out _ _ (pick4 (HSW.out _ HB4.out)) (fun hHeld => ?_)
            clear hK K
            refine wpAnyH_done (by kernel_rfl) ?_ _
            rotate_left
            go_simp
            refine hK.out _ _ (pick4 (HSW.out _ HB2.out)) (fun hHeld => ?_)
            clear hK K
            refine wpAnyH_ready (rs := [1]) (by kernel_rfl) (by simp) (AllReadyH.cons (o := { dst := some 39, op := Op.load 32 (Operand.tmp 38), type := 32, pos := "ref.go:67", after := #[{ on := 0, ground := Ground.data }], guard := none }) rfl (fun K hK => ?_) AllReadyH.nil)
            go_simp
            refine hK.out _ _ (pick4 (HSW.out _ HB2.out)) (fun hHeld => ?_)
            clear hK K
            refine wpAnyH_ready (rs := [14]) (by kernel_rfl) (by simp) (AllReadyH.cons (o := { dst := some 52, op := Op.call { callee := Callee.builtin Builtin.append, args := #[Operand.tmp 39, Operand.tmp 51], argTypes := #[32, 32] }, type := 32, pos := "ref.go:67", after := #[{ on := 1, ground := Ground.data }, { on := 13, ground := Ground.data }], guard := none }) rfl (fun K hK => ?_) AllReadyH.nil)
            refine step_append_lies _ (by rfl) _ _ _ (by rfl) (w.heap.size + 4) 30 i0 _ 1 4 Try.underlying32 hi0 hz0 hz1 hz2 rfl (by omega) vl k (kl ((List.zipWith max al bl).take k)) (by rfl) HOD.out ⟨wr.heap.size, 0, none⟩ 1 1 [.int .u32 (m1 : Int)] (by rfl) (by rfl) HND.out (by simp [Value.oneCell']) (by omega) hmax hby HSD.out (wr.heap.size + 1) (by simp) ?_
            intro gg cap w2 ho hg hat _
            have HO := hid ho
            have HGR := hid (un_drew hg)
            have HA := hid hat
            clear ho hg hat
            have c2 := HX.out.midc (.inl rfl) HGR.out
            have HB3 := hid (mid_below HB.out HOL.out HGR.out HSZ.out HGW.out)
            have HB4 := hid (bel_push2 (i := 0) HB.out HOL.out HGR.out HSZ.out HGW.out (.slice (some ⟨gg, 0, none⟩) (k + 1) cap))
            refine hK.out _ _ (pick4 (HSW.out _ HB3.out)) (fun hHeld => ?_)
            clear hK K
            refine wpAnyH_take (i := 15) (oi := { dst := some 53, op := Op.fieldAddr 34 (Operand.tmp 7) 0, type := 0, pos := "ref.go:67", after := #[{ on := 0, ground := Ground.phase }, { on := 1, ground := Ground.phase }, { on := 2, ground := Ground.phase }, { on := 3, ground := Ground.phase }, { on := 4, ground := Ground.phase }, { on := 5, ground := Ground.phase }, { on := 6, ground := Ground.phase }, { on := 7, ground := Ground.phase }, { on := 8, ground := Ground.phase }, { on := 9, ground := Ground.phase }, { on := 10, ground := Ground.phase }, { on := 11, ground := Ground.phase }, { on := 12, ground := Ground.phase }, { on := 13, ground := Ground.phase }, { on := 14, ground := Ground.phase }], guard := none }) (v := ?vp15b) rfl (by kernel_rfl) (by kernel_rfl) (by kernel_rfl) (fun _ _ _ h => h) (Or.inl ⟨by rfl, ?hyp15b⟩) (by assumption) ?restp15b
            case hyp15b => (intro w hSw; (try dsimp only at hSw); go_simp; (try with_reducible rfl))
            simp only [Act.put, List.setIfInBounds_toArray, List.set_cons_zero, List.set_cons_succ]
            refine wpAnyH_ready (rs := [16]) (by kernel_rfl) (by simp) (AllReadyH.cons (o := { dst := none, op := Op.store 32 (Operand.tmp 53) (Operand.tmp 52), type := 0, pos := "ref.go:67", after := #[{ on := 15, ground := Ground.data }, { on := 14, ground := Ground.data }, { on := 14, ground := Ground.chain }, { on := 0, ground := Ground.phase }, { on := 1, ground := Ground.phase }, { on := 2, ground := Ground.phase }, { on := 3, ground := Ground.phase }, { on := 4, ground := Ground.phase }, { on := 5, ground := Ground.phase }, { on := 6, ground := Ground.phase }, { on := 7, ground := Ground.phase }, { on := 8, ground := Ground.phase }, { on := 9, ground := Ground.phase }, { on := 10, ground := Ground.phase }, { on := 11, ground := Ground.phase }, { on := 12, ground := Ground.phase }, { on := 13, ground := Ground.phase }, { on := 14, ground := Ground.phase }], guard := none }) rfl (fun K hK => ?_) AllReadyH.nil)
            go_simp
            refine hK.out _ _ (pick4 (HSW.out _ HB4.out)) (fun hHeld => ?_)
            clear hK K
            refine wpAnyH_done (by kernel_rfl) ?_ _
            · obtain ⟨V, hV⟩ : ∃ V, V = w2.setCell ⟨w.heap.size + 3, 0, none⟩ (.slice (some ⟨gg, 0, none⟩) (k + 1) cap) := ⟨_, rfl⟩
              have HX9 := hid (show Bx V (w.heap.size + 3) (.slice (some ⟨gg, 0, none⟩) (k + 1) cap) vh (_ ++ [m1]) _ by rw [hV]; exact HX.out.pushLo HL1.out.symm HO.out HGR.out HA.out)
              have HB9 := hid (show Below W.heap.size W V by rw [hV]; exact HB4.out)
              have HOL9 : Hid (V.ownsRow (w.heap.size + 4) 30 1 vh k (kl ((List.zipWith min ah bh).take k))) := hid (by have := HX9.out.oh; rw [HL2.out] at this; exact this)
              have HSZ9 := hid HX9.out.lt
              have HC1 := hid HB9.out.drew
              have HC2 := hid (show Below W.heap.size W (V.alloc (.cells #[Value.int .u32 (m2 : Int)] 30)).drew from (HB9.out.alloc HB9.out.size _).drew)
              have HOD9 : Hid ((V.alloc (.cells #[Value.int .u32 (m2 : Int)] 30)).drew.ownsRow (w.heap.size + 4) 30 1 vh k (kl ((List.zipWith min ah bh).take k))) := hid (HOL9.out.alloc _)
              have HSD9 : Hid (w.heap.size + 4 ≤ (V.alloc (.cells #[Value.int .u32 (m2 : Int)] 30)).drew.heap.size) := hid (show w.heap.size + 4 ≤ (V.alloc (.cells #[Value.int .u32 (m2 : Int)] 30)).heap.size by have := HSZ9.out; simp; omega)
              have HND9 := hid (World.news_of_block (w := (V.alloc (.cells #[Value.int .u32 (m2 : Int)] 30)).drew) (B := V.heap.size) (cs := #[.int .u32 (m2 : Int)]) (t := 30) (fr := (0, 0)) (heap_alloc_new V _))
              have ca9 : (V.alloc (.cells #[Value.int .u32 (m2 : Int)] 30)).cell? ⟨w.heap.size + 3, 1, none⟩ = some vh := (World.cell?_alloc_lt _ _ _ HSZ9.out).trans HX9.out.cells.2.1
              have cv9 : V.drew.cell? ⟨w.heap.size + 3, 1, none⟩ = some vh := HX9.out.cells.2.1
              have cw9 : V.cell? ⟨w.heap.size + 3, 1, none⟩ = some vh := HX9.out.cells.2.1
              rw [← hV]
              clear hV c c2 ca c1d HO HGR HA HB3 HB4 HOD HSD HND
              go_wp2_with fail
              refine wp_region_held_drew (S := fun w' => w'.cell? ⟨w.heap.size, 1, none⟩ = some (.slice (some ⟨b2, o2, none⟩) ah.length c2) ∧ w'.cell? ⟨w.heap.size + 1, 1, none⟩ = some (.slice (some ⟨b4, o4, none⟩) bh.length c4) ∧ w'.cell? ⟨b2, o2 + k, none⟩ = some (.int .u32 (x2 : Int)) ∧ w'.cell? ⟨b4, o4 + k, none⟩ = some (.int .u32 (y2 : Int))) (by kernel_rfl) (by exact (pick4' (HSW.out _ HC1.out))) (fun hHeld => ?_)
              refine wpAnyH_take (i := 0) (oi := { dst := some 54, op := Op.fieldAddr 34 (Operand.tmp 7) 1, type := 0, pos := "ref.go:68", after := #[], guard := none }) (v := ?vq0) rfl (by kernel_rfl) (by kernel_rfl) (by kernel_rfl) (fun _ _ _ h => h) (Or.inl ⟨by rfl, ?hyq0⟩) (by assumption) ?restq0
              case hyq0 => (intro w hSw; (try dsimp only at hSw); go_simp; (try with_reducible rfl))
              simp only [Act.put, List.setIfInBounds_toArray, List.set_cons_zero, List.set_cons_succ]
              refine wpAnyH_take (i := 2) (oi := { dst := some 56, op := Op.fieldAddr 34 (Operand.tmp 2) 1, type := 0, pos := "ref.go:68", after := #[], guard := none }) (v := ?vq2) rfl (by kernel_rfl) (by kernel_rfl) (by kernel_rfl) (fun _ _ _ h => h) (Or.inl ⟨by rfl, ?hyq2⟩) (by assumption) ?restq2
              case hyq2 => (intro w hSw; (try dsimp only at hSw); go_simp; (try with_reducible rfl))
              simp only [Act.put, List.setIfInBounds_toArray, List.set_cons_zero, List.set_cons_succ]
              refine wpAnyH_take (i := 3) (oi := { dst := some 57, op := Op.load 32 (Operand.tmp 56), type := 32, pos := "ref.go:68", after := #[{ on := 2, ground := Ground.data }], guard := none }) (v := ?vq3) rfl (by kernel_rfl) (by kernel_rfl) (by kernel_rfl) (fun _ _ _ h => h) (Or.inl ⟨by rfl, ?hyq3⟩) (by assumption) ?restq3
              case hyq3 => (intro w hSw; (try dsimp only at hSw); go_simp; (try with_reducible rfl))
              simp only [Act.put, List.setIfInBounds_toArray, List.set_cons_zero, List.set_cons_succ]
              refine wpAnyH_take (i := 4) (oi := { dst := some 58, op := Op.move (Operand.tmp 8), type := 3, pos := "ref.go:68", after := #[], guard := none }) (v := ?vq4) rfl (by kernel_rfl) (by kernel_rfl) (by kernel_rfl) (fun _ _ _ h => h) (Or.inl ⟨by rfl, ?hyq4⟩) (by assumption) ?restq4
              case hyq4 => (intro w hSw; (try dsimp only at hSw); go_simp; (try with_reducible rfl))
              simp only [Act.put, List.setIfInBounds_toArray, List.set_cons_zero, List.set_cons_succ]
              refine wpAnyH_take (i := 5) (oi := { dst := some 59, op := Op.indexAddr 32 (Operand.tmp 57) (Operand.tmp 58), type := 0, pos := "ref.go:68", after := #[{ on := 3, ground := Ground.data }, { on := 4, ground := Ground.data }], guard := none }) (v := ?vq5) rfl (by kernel_rfl) (by kernel_rfl) (by kernel_rfl) (fun _ _ _ h => h) (Or.inl ⟨by rfl, ?hyq5⟩) (by assumption) ?restq5
              case hyq5 => (intro w hSw; (try dsimp only at hSw); go_simp; (try with_reducible rfl))
              simp only [Act.put, List.setIfInBounds_toArray, List.set_cons_zero, List.set_cons_succ]
              refine wpAnyH_take (i := 6) (oi := { dst := some 60, op := Op.load 30 (Operand.tmp 59), type := 30, pos := "ref.go:68", after := #[{ on := 5, ground := Ground.data }], guard := none }) (v := ?vq6) rfl (by kernel_rfl) (by kernel_rfl) (by kernel_rfl) (fun _ _ _ h => h) (Or.inl ⟨by rfl, ?hyq6⟩) (by assumption) ?restq6
              case hyq6 => (intro w hSw; (try dsimp only at hSw); go_simp; (try with_reducible rfl))
              simp only [Act.put, List.setIfInBounds_toArray, List.set_cons_zero, List.set_cons_succ]
              refine wpAnyH_take (i := 7) (oi := { dst := some 61, op := Op.fieldAddr 34 (Operand.tmp 3) 1, type := 0, pos := "ref.go:68", after := #[], guard := none }) (v := ?vq7) rfl (by kernel_rfl) (by kernel_rfl) (by kernel_rfl) (fun _ _ _ h => h) (Or.inl ⟨by rfl, ?hyq7⟩) (by assumption) ?restq7
              case hyq7 => (intro w hSw; (try dsimp only at hSw); go_simp; (try with_reducible rfl))
              simp only [Act.put, List.setIfInBounds_toArray, List.set_cons_zero, List.set_cons_succ]
              refine wpAnyH_take (i := 8) (oi := { dst := some 62, op := Op.load 32 (Operand.tmp 61), type := 32, pos := "ref.go:68", after := #[{ on := 7, ground := Ground.data }], guard := none }) (v := ?vq8) rfl (by kernel_rfl) (by kernel_rfl) (by kernel_rfl) (fun _ _ _ h => h) (Or.inl ⟨by rfl, ?hyq8⟩) (by assumption) ?restq8
              case hyq8 => (intro w hSw; (try dsimp only at hSw); go_simp; (try with_reducible rfl))
              simp only [Act.put, List.setIfInBounds_toArray, List.set_cons_zero, List.set_cons_succ]
              refine wpAnyH_take (i := 9) (oi := { dst := some 63, op := Op.move (Operand.tmp 8), type := 3, pos := "ref.go:68", after := #[], guard := none }) (v := ?vq9) rfl (by kernel_rfl) (by kernel_rfl) (by kernel_rfl) (fun _ _ _ h => h) (Or.inl ⟨by rfl, ?hyq9⟩) (by assumption) ?restq9
              case hyq9 => (intro w hSw; (try dsimp only at hSw); go_simp; (try with_reducible rfl))
              simp only [Act.put, List.setIfInBounds_toArray, List.set_cons_zero, List.set_cons_succ]
              refine wpAnyH_take (i := 10) (oi := { dst := some 64, op := Op.indexAddr 32 (Operand.tmp 62) (Operand.tmp 63), type := 0, pos := "ref.go:68", after := #[{ on := 8, ground := Ground.data }, { on := 9, ground := Ground.data }], guard := none }) (v := ?vq10) rfl (by kernel_rfl) (by kernel_rfl) (by kernel_rfl) (fun _ _ _ h => h) (Or.inl ⟨by rfl, ?hyq10⟩) (by assumption) ?restq10
              case hyq10 => (intro w hSw; (try dsimp only at hSw); go_simp; (try with_reducible rfl))
              simp only [Act.put, List.setIfInBounds_toArray, List.set_cons_zero, List.set_cons_succ]
              refine wpAnyH_take (i := 11) (oi := { dst := some 65, op := Op.load 30 (Operand.tmp 64), type := 30, pos := "ref.go:68", after := #[{ on := 10, ground := Ground.data }], guard := none }) (v := ?vq11) rfl (by kernel_rfl) (by kernel_rfl) (by kernel_rfl) (fun _ _ _ h => h) (Or.inl ⟨by rfl, ?hyq11⟩) (by assumption) ?restq11
              case hyq11 => (intro w hSw; (try dsimp only at hSw); go_simp; (try with_reducible rfl))
              simp only [Act.put, List.setIfInBounds_toArray, List.set_cons_zero, List.set_cons_succ]
              refine wpAnyH_take (i := 12) (oi := { dst := some 66, op := Op.call { callee := Callee.builtin Builtin.min, args := #[Operand.tmp 60, Operand.tmp 65], argTypes := #[30, 30] }, type := 30, pos := "ref.go:68", after := #[{ on := 6, ground := Ground.data }, { on := 11, ground := Ground.data }], guard := none }) (v := ?vq12) rfl (by kernel_rfl) (by kernel_rfl) (by kernel_rfl) (fun _ _ _ h => h) (Or.inl ⟨by rfl, ?hyq12⟩) (by assumption) ?restq12
              case hyq12 => (intro w hSw; (try dsimp only at hSw); go_simp; (try with_reducible rfl))
              simp only [Act.put, List.setIfInBounds_toArray, List.set_cons_zero, List.set_cons_succ]
              refine wpAnyH_ready (rs := [1, 13]) (by kernel_rfl) (by simp) (AllReadyH.cons (o := { dst := some 55, op := Op.load 32 (Operand.tmp 54), type := 32, pos := "ref.go:68", after := #[{ on := 0, ground := Ground.data }], guard := none }) rfl (fun K hK => ?_) (AllReadyH.cons (o := { dst := some 67, op := Op.buildSlice 32 1 #[(0, Operand.tmp 66)], type := 32, pos := "ref.go:68", after := #[{ on := 12, ground := Ground.data }], guard := none }) rfl (fun K hK => ?_) AllReadyH.nil))
              go_simp
              refine hK.out _ _ (pick4' (HSW.out _ HC1.out)) (fun hHeld => ?_)
              clear hK K
              refine wpAnyH_ready (rs := [13]) (by kernel_rfl) (by simp) (AllReadyH.cons (o := { dst := some 67, op := Op.buildSlice 32 1 #[(0, Operand.tmp 66)], type := 32, pos := "ref.go:68", after := #[{ on := 12, ground := Ground.data }], guard := none }) rfl (fun K hK => ?_) AllReadyH.nil)
              go_simp
              refine hK.out _ _ (pick4' (HSW.out _ HC2.out)) (fun hHeld => ?_)
              clear hK K
              refine wpAnyH_ready (rs := [14]) (by kernel_rfl) (by simp) (AllReadyH.cons (o := { dst := some 68, op := Op.call { callee := Callee.builtin Builtin.append, args := #[Operand.tmp 55, Operand.tmp 67], argTypes := #[32, 32] }, type := 32, pos := "ref.go:68", after := #[{ on := 1, ground := Ground.data }, { on := 13, ground := Ground.data }], guard := none }) rfl (fun K hK => ?_) AllReadyH.nil)
              refine step_append_lies _ (by rfl) _ _ _ (by rfl) (w.heap.size + 4) 30 i0 _ 1 4 Try.underlying32 hi0 hz0 hz1 hz2 rfl (by omega) vh k (kl ((List.zipWith min ah bh).take k)) (by rfl) HOD9.out ⟨V.heap.size, 0, none⟩ 1 1 [.int .u32 (m2 : Int)] (by rfl) (by rfl) HND9.out (by simp [Value.oneCell']) (by omega) hmax hby HSD9.out (V.heap.size + 1) (by simp) ?_
              intro g3 cap3 w4 ho hg hat _
              have HO := hid ho
              have HGR := hid (un_drew hg)
              have HA := hid hat
              clear ho hg hat
              have c4 := HX9.out.midc (.inr rfl) HGR.out
              have HB3 := hid (mid_below HB9.out HOL9.out HGR.out HSZ9.out HGW.out)
              have HB4 := hid (bel_push2 (i := 1) HB9.out HOL9.out HGR.out HSZ9.out HGW.out (.slice (some ⟨g3, 0, none⟩) (k + 1) cap3))
              refine hK.out _ _ (pick4' (HSW.out _ HB3.out)) (fun hHeld => ?_)
              clear hK K
              refine wpAnyH_take (i := 15) (oi := { dst := some 69, op := Op.fieldAddr 34 (Operand.tmp 7) 1, type := 0, pos := "ref.go:68", after := #[{ on := 0, ground := Ground.phase }, { on := 1, ground := Ground.phase }, { on := 2, ground := Ground.phase }, { on := 3, ground := Ground.phase }, { on := 4, ground := Ground.phase }, { on := 5, ground := Ground.phase }, { on := 6, ground := Ground.phase }, { on := 7, ground := Ground.phase }, { on := 8, ground := Ground.phase }, { on := 9, ground := Ground.phase }, { on := 10, ground := Ground.phase }, { on := 11, ground := Ground.phase }, { on := 12, ground := Ground.phase }, { on := 13, ground := Ground.phase }, { on := 14, ground := Ground.phase }], guard := none }) (v := ?vq15a) rfl (by kernel_rfl) (by kernel_rfl) (by kernel_rfl) (fun _ _ _ h => h) (Or.inl ⟨by rfl, ?hyq15a⟩) (by assumption) ?restq15a
              case hyq15a => (intro w hSw; (try dsimp only at hSw); go_simp; (try with_reducible rfl))
              simp only [Act.put, List.setIfInBounds_toArray, List.set_cons_zero, List.set_cons_succ]
              refine wpAnyH_ready (rs := [16]) (by kernel_rfl) (by simp) (AllReadyH.cons (o := { dst := none, op := Op.store 32 (Operand.tmp 69) (Operand.tmp 68), type := 0, pos := "ref.go:68", after := #[{ on := 15, ground := Ground.data }, { on := 14, ground := Ground.data }, { on := 14, ground := Ground.chain }, { on := 0, ground := Ground.phase }, { on := 1, ground := Ground.phase }, { on := 2, ground := Ground.phase }, { on := 3, ground := Ground.phase }, { on := 4, ground := Ground.phase }, { on := 5, ground := Ground.phase }, { on := 6, ground := Ground.phase }, { on := 7, ground := Ground.phase }, { on := 8, ground := Ground.phase }, { on := 9, ground := Ground.phase }, { on := 10, ground := Ground.phase }, { on := 11, ground := Ground.phase }, { on := 12, ground := Ground.phase }, { on := 13, ground := Ground.phase }, { on := 14, ground := Ground.phase }], guard := none }) rfl (fun K hK => ?_) AllReadyH.nil)
              go_simp
              refine hK.out _ _ (pick4' (HSW.out _ HB4.out)) (fun hHeld => ?_)
              clear hK K
              refine wpAnyH_done (by kernel_rfl) ?_ _
              rotate_left
              go_simp
              refine hK.out _ _ (pick4' (HSW.out _ HC2.out)) (fun hHeld => ?_)
              clear hK K
              refine wpAnyH_ready (rs := [1]) (by kernel_rfl) (by simp) (AllReadyH.cons (o := { dst := some 55, op := Op.load 32 (Operand.tmp 54), type := 32, pos := "ref.go:68", after := #[{ on := 0, ground := Ground.data }], guard := none }) rfl (fun K hK => ?_) AllReadyH.nil)
              go_simp
              refine hK.out _ _ (pick4' (HSW.out _ HC2.out)) (fun hHeld => ?_)
              clear hK K
              refine wpAnyH_ready (rs := [14]) (by kernel_rfl) (by simp) (AllReadyH.cons (o := { dst := some 68, op := Op.call { callee := Callee.builtin Builtin.append, args := #[Operand.tmp 55, Operand.tmp 67], argTypes := #[32, 32] }, type := 32, pos := "ref.go:68", after := #[{ on := 1, ground := Ground.data }, { on := 13, ground := Ground.data }], guard := none }) rfl (fun K hK => ?_) AllReadyH.nil)
              refine step_append_lies _ (by rfl) _ _ _ (by rfl) (w.heap.size + 4) 30 i0 _ 1 4 Try.underlying32 hi0 hz0 hz1 hz2 rfl (by omega) vh k (kl ((List.zipWith min ah bh).take k)) (by rfl) HOD9.out ⟨V.heap.size, 0, none⟩ 1 1 [.int .u32 (m2 : Int)] (by rfl) (by rfl) HND9.out (by simp [Value.oneCell']) (by omega) hmax hby HSD9.out (V.heap.size + 1) (by simp) ?_
              intro g3 cap3 w4 ho hg hat _
              have HO := hid ho
              have HGR := hid (un_drew hg)
              have HA := hid hat
              clear ho hg hat
              have c4 := HX9.out.midc (.inr rfl) HGR.out
              have HB3 := hid (mid_below HB9.out HOL9.out HGR.out HSZ9.out HGW.out)
              have HB4 := hid (bel_push2 (i := 1) HB9.out HOL9.out HGR.out HSZ9.out HGW.out (.slice (some ⟨g3, 0, none⟩) (k + 1) cap3))
              refine hK.out _ _ (pick4' (HSW.out _ HB3.out)) (fun hHeld => ?_)
              clear hK K
              refine wpAnyH_take (i := 15) (oi := { dst := some 69, op := Op.fieldAddr 34 (Operand.tmp 7) 1, type := 0, pos := "ref.go:68", after := #[{ on := 0, ground := Ground.phase }, { on := 1, ground := Ground.phase }, { on := 2, ground := Ground.phase }, { on := 3, ground := Ground.phase }, { on := 4, ground := Ground.phase }, { on := 5, ground := Ground.phase }, { on := 6, ground := Ground.phase }, { on := 7, ground := Ground.phase }, { on := 8, ground := Ground.phase }, { on := 9, ground := Ground.phase }, { on := 10, ground := Ground.phase }, { on := 11, ground := Ground.phase }, { on := 12, ground := Ground.phase }, { on := 13, ground := Ground.phase }, { on := 14, ground := Ground.phase }], guard := none }) (v := ?vq15b) rfl (by kernel_rfl) (by kernel_rfl) (by kernel_rfl) (fun _ _ _ h => h) (Or.inl ⟨by rfl, ?hyq15b⟩) (by assumption) ?restq15b
              case hyq15b => (intro w hSw; (try dsimp only at hSw); go_simp; (try with_reducible rfl))
              simp only [Act.put, List.setIfInBounds_toArray, List.set_cons_zero, List.set_cons_succ]
              refine wpAnyH_ready (rs := [16]) (by kernel_rfl) (by simp) (AllReadyH.cons (o := { dst := none, op := Op.store 32 (Operand.tmp 69) (Operand.tmp 68), type := 0, pos := "ref.go:68", after := #[{ on := 15, ground := Ground.data }, { on := 14, ground := Ground.data }, { on := 14, ground := Ground.chain }, { on := 0, ground := Ground.phase }, { on := 1, ground := Ground.phase }, { on := 2, ground := Ground.phase }, { on := 3, ground := Ground.phase }, { on := 4, ground := Ground.phase }, { on := 5, ground := Ground.phase }, { on := 6, ground := Ground.phase }, { on := 7, ground := Ground.phase }, { on := 8, ground := Ground.phase }, { on := 9, ground := Ground.phase }, { on := 10, ground := Ground.phase }, { on := 11, ground := Ground.phase }, { on := 12, ground := Ground.phase }, { on := 13, ground := Ground.phase }, { on := 14, ground := Ground.phase }], guard := none }) rfl (fun K hK => ?_) AllReadyH.nil)
              go_simp
              refine hK.out _ _ (pick4' (HSW.out _ HB4.out)) (fun hHeld => ?_)
              clear hK K
              refine wpAnyH_done (by kernel_rfl) ?_ _
              all_goals
                have HX10 := hid (HX9.out.pushHi HL2.out.symm HO.out HGR.out HA.out)
                rw [HT1.out, HT2.out] at HX10
                clear c4 ca9 cv9 cw9 hmx hmn
                go_wp2_with fail
                go_roundw
                case rel => exact ⟨k + 1, _, _, by omega, by go_num, HX10.out, HB4.out⟩
                case measure => simp [intOf]; omega
            · obtain ⟨V, hV⟩ : ∃ V, V = w2.setCell ⟨w.heap.size + 3, 0, none⟩ (.slice (some ⟨gg, 0, none⟩) (k + 1) cap) := ⟨_, rfl⟩
              have HX9 := hid (show Bx V (w.heap.size + 3) (.slice (some ⟨gg, 0, none⟩) (k + 1) cap) vh (_ ++ [m1]) _ by rw [hV]; exact HX.out.pushLo HL1.out.symm HO.out HGR.out HA.out)
              have HB9 := hid (show Below W.heap.size W V by rw [hV]; exact HB4.out)
              have HOL9 : Hid (V.ownsRow (w.heap.size + 4) 30 1 vh k (kl ((List.zipWith min ah bh).take k))) := hid (by have := HX9.out.oh; rw [HL2.out] at this; exact this)
              have HSZ9 := hid HX9.out.lt
              have HC1 := hid HB9.out.drew
              have HC2 := hid (show Below W.heap.size W (V.alloc (.cells #[Value.int .u32 (m2 : Int)] 30)).drew from (HB9.out.alloc HB9.out.size _).drew)
              have HOD9 : Hid ((V.alloc (.cells #[Value.int .u32 (m2 : Int)] 30)).drew.ownsRow (w.heap.size + 4) 30 1 vh k (kl ((List.zipWith min ah bh).take k))) := hid (HOL9.out.alloc _)
              have HSD9 : Hid (w.heap.size + 4 ≤ (V.alloc (.cells #[Value.int .u32 (m2 : Int)] 30)).drew.heap.size) := hid (show w.heap.size + 4 ≤ (V.alloc (.cells #[Value.int .u32 (m2 : Int)] 30)).heap.size by have := HSZ9.out; simp; omega)
              have HND9 := hid (World.news_of_block (w := (V.alloc (.cells #[Value.int .u32 (m2 : Int)] 30)).drew) (B := V.heap.size) (cs := #[.int .u32 (m2 : Int)]) (t := 30) (fr := (0, 0)) (heap_alloc_new V _))
              have ca9 : (V.alloc (.cells #[Value.int .u32 (m2 : Int)] 30)).cell? ⟨w.heap.size + 3, 1, none⟩ = some vh := (World.cell?_alloc_lt _ _ _ HSZ9.out).trans HX9.out.cells.2.1
              have cv9 : V.drew.cell? ⟨w.heap.size + 3, 1, none⟩ = some vh := HX9.out.cells.2.1
              have cw9 : V.cell? ⟨w.heap.size + 3, 1, none⟩ = some vh := HX9.out.cells.2.1
              rw [← hV]
              clear hV c c2 ca c1d HO HGR HA HB3 HB4 HOD HSD HND
              go_wp2_with fail
              refine wp_region_held_drew (S := fun w' => w'.cell? ⟨w.heap.size, 1, none⟩ = some (.slice (some ⟨b2, o2, none⟩) ah.length c2) ∧ w'.cell? ⟨w.heap.size + 1, 1, none⟩ = some (.slice (some ⟨b4, o4, none⟩) bh.length c4) ∧ w'.cell? ⟨b2, o2 + k, none⟩ = some (.int .u32 (x2 : Int)) ∧ w'.cell? ⟨b4, o4 + k, none⟩ = some (.int .u32 (y2 : Int))) (by kernel_rfl) (by exact (pick4' (HSW.out _ HC1.out))) (fun hHeld => ?_)
              refine wpAnyH_take (i := 0) (oi := { dst := some 54, op := Op.fieldAddr 34 (Operand.tmp 7) 1, type := 0, pos := "ref.go:68", after := #[], guard := none }) (v := ?vr0) rfl (by kernel_rfl) (by kernel_rfl) (by kernel_rfl) (fun _ _ _ h => h) (Or.inl ⟨by rfl, ?hyr0⟩) (by assumption) ?restr0
              case hyr0 => (intro w hSw; (try dsimp only at hSw); go_simp; (try with_reducible rfl))
              simp only [Act.put, List.setIfInBounds_toArray, List.set_cons_zero, List.set_cons_succ]
              refine wpAnyH_take (i := 2) (oi := { dst := some 56, op := Op.fieldAddr 34 (Operand.tmp 2) 1, type := 0, pos := "ref.go:68", after := #[], guard := none }) (v := ?vr2) rfl (by kernel_rfl) (by kernel_rfl) (by kernel_rfl) (fun _ _ _ h => h) (Or.inl ⟨by rfl, ?hyr2⟩) (by assumption) ?restr2
              case hyr2 => (intro w hSw; (try dsimp only at hSw); go_simp; (try with_reducible rfl))
              simp only [Act.put, List.setIfInBounds_toArray, List.set_cons_zero, List.set_cons_succ]
              refine wpAnyH_take (i := 3) (oi := { dst := some 57, op := Op.load 32 (Operand.tmp 56), type := 32, pos := "ref.go:68", after := #[{ on := 2, ground := Ground.data }], guard := none }) (v := ?vr3) rfl (by kernel_rfl) (by kernel_rfl) (by kernel_rfl) (fun _ _ _ h => h) (Or.inl ⟨by rfl, ?hyr3⟩) (by assumption) ?restr3
              case hyr3 => (intro w hSw; (try dsimp only at hSw); go_simp; (try with_reducible rfl))
              simp only [Act.put, List.setIfInBounds_toArray, List.set_cons_zero, List.set_cons_succ]
              refine wpAnyH_take (i := 4) (oi := { dst := some 58, op := Op.move (Operand.tmp 8), type := 3, pos := "ref.go:68", after := #[], guard := none }) (v := ?vr4) rfl (by kernel_rfl) (by kernel_rfl) (by kernel_rfl) (fun _ _ _ h => h) (Or.inl ⟨by rfl, ?hyr4⟩) (by assumption) ?restr4
              case hyr4 => (intro w hSw; (try dsimp only at hSw); go_simp; (try with_reducible rfl))
              simp only [Act.put, List.setIfInBounds_toArray, List.set_cons_zero, List.set_cons_succ]
              refine wpAnyH_take (i := 5) (oi := { dst := some 59, op := Op.indexAddr 32 (Operand.tmp 57) (Operand.tmp 58), type := 0, pos := "ref.go:68", after := #[{ on := 3, ground := Ground.data }, { on := 4, ground := Ground.data }], guard := none }) (v := ?vr5) rfl (by kernel_rfl) (by kernel_rfl) (by kernel_rfl) (fun _ _ _ h => h) (Or.inl ⟨by rfl, ?hyr5⟩) (by assumption) ?restr5
              case hyr5 => (intro w hSw; (try dsimp only at hSw); go_simp; (try with_reducible rfl))
              simp only [Act.put, List.setIfInBounds_toArray, List.set_cons_zero, List.set_cons_succ]
              refine wpAnyH_take (i := 6) (oi := { dst := some 60, op := Op.load 30 (Operand.tmp 59), type := 30, pos := "ref.go:68", after := #[{ on := 5, ground := Ground.data }], guard := none }) (v := ?vr6) rfl (by kernel_rfl) (by kernel_rfl) (by kernel_rfl) (fun _ _ _ h => h) (Or.inl ⟨by rfl, ?hyr6⟩) (by assumption) ?restr6
              case hyr6 => (intro w hSw; (try dsimp only at hSw); go_simp; (try with_reducible rfl))
              simp only [Act.put, List.setIfInBounds_toArray, List.set_cons_zero, List.set_cons_succ]
              refine wpAnyH_take (i := 7) (oi := { dst := some 61, op := Op.fieldAddr 34 (Operand.tmp 3) 1, type := 0, pos := "ref.go:68", after := #[], guard := none }) (v := ?vr7) rfl (by kernel_rfl) (by kernel_rfl) (by kernel_rfl) (fun _ _ _ h => h) (Or.inl ⟨by rfl, ?hyr7⟩) (by assumption) ?restr7
              case hyr7 => (intro w hSw; (try dsimp only at hSw); go_simp; (try with_reducible rfl))
              simp only [Act.put, List.setIfInBounds_toArray, List.set_cons_zero, List.set_cons_succ]
              refine wpAnyH_take (i := 8) (oi := { dst := some 62, op := Op.load 32 (Operand.tmp 61), type := 32, pos := "ref.go:68", after := #[{ on := 7, ground := Ground.data }], guard := none }) (v := ?vr8) rfl (by kernel_rfl) (by kernel_rfl) (by kernel_rfl) (fun _ _ _ h => h) (Or.inl ⟨by rfl, ?hyr8⟩) (by assumption) ?restr8
              case hyr8 => (intro w hSw; (try dsimp only at hSw); go_simp; (try with_reducible rfl))
              simp only [Act.put, List.setIfInBounds_toArray, List.set_cons_zero, List.set_cons_succ]
              refine wpAnyH_take (i := 9) (oi := { dst := some 63, op := Op.move (Operand.tmp 8), type := 3, pos := "ref.go:68", after := #[], guard := none }) (v := ?vr9) rfl (by kernel_rfl) (by kernel_rfl) (by kernel_rfl) (fun _ _ _ h => h) (Or.inl ⟨by rfl, ?hyr9⟩) (by assumption) ?restr9
              case hyr9 => (intro w hSw; (try dsimp only at hSw); go_simp; (try with_reducible rfl))
              simp only [Act.put, List.setIfInBounds_toArray, List.set_cons_zero, List.set_cons_succ]
              refine wpAnyH_take (i := 10) (oi := { dst := some 64, op := Op.indexAddr 32 (Operand.tmp 62) (Operand.tmp 63), type := 0, pos := "ref.go:68", after := #[{ on := 8, ground := Ground.data }, { on := 9, ground := Ground.data }], guard := none }) (v := ?vr10) rfl (by kernel_rfl) (by kernel_rfl) (by kernel_rfl) (fun _ _ _ h => h) (Or.inl ⟨by rfl, ?hyr10⟩) (by assumption) ?restr10
              case hyr10 => (intro w hSw; (try dsimp only at hSw); go_simp; (try with_reducible rfl))
              simp only [Act.put, List.setIfInBounds_toArray, List.set_cons_zero, List.set_cons_succ]
              refine wpAnyH_take (i := 11) (oi := { dst := some 65, op := Op.load 30 (Operand.tmp 64), type := 30, pos := "ref.go:68", after := #[{ on := 10, ground := Ground.data }], guard := none }) (v := ?vr11) rfl (by kernel_rfl) (by kernel_rfl) (by kernel_rfl) (fun _ _ _ h => h) (Or.inl ⟨by rfl, ?hyr11⟩) (by assumption) ?restr11
              case hyr11 => (intro w hSw; (try dsimp only at hSw); go_simp; (try with_reducible rfl))
              simp only [Act.put, List.setIfInBounds_toArray, List.set_cons_zero, List.set_cons_succ]
              refine wpAnyH_take (i := 12) (oi := { dst := some 66, op := Op.call { callee := Callee.builtin Builtin.min, args := #[Operand.tmp 60, Operand.tmp 65], argTypes := #[30, 30] }, type := 30, pos := "ref.go:68", after := #[{ on := 6, ground := Ground.data }, { on := 11, ground := Ground.data }], guard := none }) (v := ?vr12) rfl (by kernel_rfl) (by kernel_rfl) (by kernel_rfl) (fun _ _ _ h => h) (Or.inl ⟨by rfl, ?hyr12⟩) (by assumption) ?restr12
              case hyr12 => (intro w hSw; (try dsimp only at hSw); go_simp; (try with_reducible rfl))
              simp only [Act.put, List.setIfInBounds_toArray, List.set_cons_zero, List.set_cons_succ]
              refine wpAnyH_ready (rs := [1, 13]) (by kernel_rfl) (by simp) (AllReadyH.cons (o := { dst := some 55, op := Op.load 32 (Operand.tmp 54), type := 32, pos := "ref.go:68", after := #[{ on := 0, ground := Ground.data }], guard := none }) rfl (fun K hK => ?_) (AllReadyH.cons (o := { dst := some 67, op := Op.buildSlice 32 1 #[(0, Operand.tmp 66)], type := 32, pos := "ref.go:68", after := #[{ on := 12, ground := Ground.data }], guard := none }) rfl (fun K hK => ?_) AllReadyH.nil))
              go_simp
              refine hK.out _ _ (pick4' (HSW.out _ HC1.out)) (fun hHeld => ?_)
              clear hK K
              refine wpAnyH_ready (rs := [13]) (by kernel_rfl) (by simp) (AllReadyH.cons (o := { dst := some 67, op := Op.buildSlice 32 1 #[(0, Operand.tmp 66)], type := 32, pos := "ref.go:68", after := #[{ on := 12, ground := Ground.data }], guard := none }) rfl (fun K hK => ?_) AllReadyH.nil)
              go_simp
              refine hK.out _ _ (pick4' (HSW.out _ HC2.out)) (fun hHeld => ?_)
              clear hK K
              refine wpAnyH_ready (rs := [14]) (by kernel_rfl) (by simp) (AllReadyH.cons (o := { dst := some 68, op := Op.call { callee := Callee.builtin Builtin.append, args := #[Operand.tmp 55, Operand.tmp 67], argTypes := #[32, 32] }, type := 32, pos := "ref.go:68", after := #[{ on := 1, ground := Ground.data }, { on := 13, ground := Ground.data }], guard := none }) rfl (fun K hK => ?_) AllReadyH.nil)
              refine step_append_lies _ (by rfl) _ _ _ (by rfl) (w.heap.size + 4) 30 i0 _ 1 4 Try.underlying32 hi0 hz0 hz1 hz2 rfl (by omega) vh k (kl ((List.zipWith min ah bh).take k)) (by rfl) HOD9.out ⟨V.heap.size, 0, none⟩ 1 1 [.int .u32 (m2 : Int)] (by rfl) (by rfl) HND9.out (by simp [Value.oneCell']) (by omega) hmax hby HSD9.out (V.heap.size + 1) (by simp) ?_
              intro g3 cap3 w4 ho hg hat _
              have HO := hid ho
              have HGR := hid (un_drew hg)
              have HA := hid hat
              clear ho hg hat
              have c4 := HX9.out.midc (.inr rfl) HGR.out
              have HB3 := hid (mid_below HB9.out HOL9.out HGR.out HSZ9.out HGW.out)
              have HB4 := hid (bel_push2 (i := 1) HB9.out HOL9.out HGR.out HSZ9.out HGW.out (.slice (some ⟨g3, 0, none⟩) (k + 1) cap3))
              refine hK.out _ _ (pick4' (HSW.out _ HB3.out)) (fun hHeld => ?_)
              clear hK K
              refine wpAnyH_take (i := 15) (oi := { dst := some 69, op := Op.fieldAddr 34 (Operand.tmp 7) 1, type := 0, pos := "ref.go:68", after := #[{ on := 0, ground := Ground.phase }, { on := 1, ground := Ground.phase }, { on := 2, ground := Ground.phase }, { on := 3, ground := Ground.phase }, { on := 4, ground := Ground.phase }, { on := 5, ground := Ground.phase }, { on := 6, ground := Ground.phase }, { on := 7, ground := Ground.phase }, { on := 8, ground := Ground.phase }, { on := 9, ground := Ground.phase }, { on := 10, ground := Ground.phase }, { on := 11, ground := Ground.phase }, { on := 12, ground := Ground.phase }, { on := 13, ground := Ground.phase }, { on := 14, ground := Ground.phase }], guard := none }) (v := ?vr15a) rfl (by kernel_rfl) (by kernel_rfl) (by kernel_rfl) (fun _ _ _ h => h) (Or.inl ⟨by rfl, ?hyr15a⟩) (by assumption) ?restr15a
              case hyr15a => (intro w hSw; (try dsimp only at hSw); go_simp; (try with_reducible rfl))
              simp only [Act.put, List.setIfInBounds_toArray, List.set_cons_zero, List.set_cons_succ]
              refine wpAnyH_ready (rs := [16]) (by kernel_rfl) (by simp) (AllReadyH.cons (o := { dst := none, op := Op.store 32 (Operand.tmp 69) (Operand.tmp 68), type := 0, pos := "ref.go:68", after := #[{ on := 15, ground := Ground.data }, { on := 14, ground := Ground.data }, { on := 14, ground := Ground.chain }, { on := 0, ground := Ground.phase }, { on := 1, ground := Ground.phase }, { on := 2, ground := Ground.phase }, { on := 3, ground := Ground.phase }, { on := 4, ground := Ground.phase }, { on := 5, ground := Ground.phase }, { on := 6, ground := Ground.phase }, { on := 7, ground := Ground.phase }, { on := 8, ground := Ground.phase }, { on := 9, ground := Ground.phase }, { on := 10, ground := Ground.phase }, { on := 11, ground := Ground.phase }, { on := 12, ground := Ground.phase }, { on := 13, ground := Ground.phase }, { on := 14, ground := Ground.phase }], guard := none }) rfl (fun K hK => ?_) AllReadyH.nil)
              go_simp
              refine hK.out _ _ (pick4' (HSW.out _ HB4.out)) (fun hHeld => ?_)
              clear hK K
              refine wpAnyH_done (by kernel_rfl) ?_ _
              rotate_left
              go_simp
              refine hK.out _ _ (pick4' (HSW.out _ HC2.out)) (fun hHeld => ?_)
              clear hK K
              refine wpAnyH_ready (rs := [1]) (by kernel_rfl) (by simp) (AllReadyH.cons (o := { dst := some 55, op := Op.load 32 (Operand.tmp 54), type := 32, pos := "ref.go:68", after := #[{ on := 0, ground := Ground.data }], guard := none }) rfl (fun K hK => ?_) AllReadyH.nil)
              go_simp
              refine hK.out _ _ (pick4' (HSW.out _ HC2.out)) (fun hHeld => ?_)
              clear hK K
              refine wpAnyH_ready (rs := [14]) (by kernel_rfl) (by simp) (AllReadyH.cons (o := { dst := some 68, op := Op.call { callee := Callee.builtin Builtin.append, args := #[Operand.tmp 55, Operand.tmp 67], argTypes := #[32, 32] }, type := 32, pos := "ref.go:68", after := #[{ on := 1, ground := Ground.data }, { on := 13, ground := Ground.data }], guard := none }) rfl (fun K hK => ?_) AllReadyH.nil)
              refine step_append_lies _ (by rfl) _ _ _ (by rfl) (w.heap.size + 4) 30 i0 _ 1 4 Try.underlying32 hi0 hz0 hz1 hz2 rfl (by omega) vh k (kl ((List.zipWith min ah bh).take k)) (by rfl) HOD9.out ⟨V.heap.size, 0, none⟩ 1 1 [.int .u32 (m2 : Int)] (by rfl) (by rfl) HND9.out (by simp [Value.oneCell']) (by omega) hmax hby HSD9.out (V.heap.size + 1) (by simp) ?_
              intro g3 cap3 w4 ho hg hat _
              have HO := hid ho
              have HGR := hid (un_drew hg)
              have HA := hid hat
              clear ho hg hat
              have c4 := HX9.out.midc (.inr rfl) HGR.out
              have HB3 := hid (mid_below HB9.out HOL9.out HGR.out HSZ9.out HGW.out)
              have HB4 := hid (bel_push2 (i := 1) HB9.out HOL9.out HGR.out HSZ9.out HGW.out (.slice (some ⟨g3, 0, none⟩) (k + 1) cap3))
              refine hK.out _ _ (pick4' (HSW.out _ HB3.out)) (fun hHeld => ?_)
              clear hK K
              refine wpAnyH_take (i := 15) (oi := { dst := some 69, op := Op.fieldAddr 34 (Operand.tmp 7) 1, type := 0, pos := "ref.go:68", after := #[{ on := 0, ground := Ground.phase }, { on := 1, ground := Ground.phase }, { on := 2, ground := Ground.phase }, { on := 3, ground := Ground.phase }, { on := 4, ground := Ground.phase }, { on := 5, ground := Ground.phase }, { on := 6, ground := Ground.phase }, { on := 7, ground := Ground.phase }, { on := 8, ground := Ground.phase }, { on := 9, ground := Ground.phase }, { on := 10, ground := Ground.phase }, { on := 11, ground := Ground.phase }, { on := 12, ground := Ground.phase }, { on := 13, ground := Ground.phase }, { on := 14, ground := Ground.phase }], guard := none }) (v := ?vr15b) rfl (by kernel_rfl) (by kernel_rfl) (by kernel_rfl) (fun _ _ _ h => h) (Or.inl ⟨by rfl, ?hyr15b⟩) (by assumption) ?restr15b
              case hyr15b => (intro w hSw; (try dsimp only at hSw); go_simp; (try with_reducible rfl))
              simp only [Act.put, List.setIfInBounds_toArray, List.set_cons_zero, List.set_cons_succ]
              refine wpAnyH_ready (rs := [16]) (by kernel_rfl) (by simp) (AllReadyH.cons (o := { dst := none, op := Op.store 32 (Operand.tmp 69) (Operand.tmp 68), type := 0, pos := "ref.go:68", after := #[{ on := 15, ground := Ground.data }, { on := 14, ground := Ground.data }, { on := 14, ground := Ground.chain }, { on := 0, ground := Ground.phase }, { on := 1, ground := Ground.phase }, { on := 2, ground := Ground.phase }, { on := 3, ground := Ground.phase }, { on := 4, ground := Ground.phase }, { on := 5, ground := Ground.phase }, { on := 6, ground := Ground.phase }, { on := 7, ground := Ground.phase }, { on := 8, ground := Ground.phase }, { on := 9, ground := Ground.phase }, { on := 10, ground := Ground.phase }, { on := 11, ground := Ground.phase }, { on := 12, ground := Ground.phase }, { on := 13, ground := Ground.phase }, { on := 14, ground := Ground.phase }], guard := none }) rfl (fun K hK => ?_) AllReadyH.nil)
              go_simp
              refine hK.out _ _ (pick4' (HSW.out _ HB4.out)) (fun hHeld => ?_)
              clear hK K
              refine wpAnyH_done (by kernel_rfl) ?_ _
              all_goals
                have HX10 := hid (HX9.out.pushHi HL2.out.symm HO.out HGR.out HA.out)
                rw [HT1.out, HT2.out] at HX10
                clear c4 ca9 cv9 cw9 hmx hmn
                go_wp2_with fail
                go_roundw
                case rel => exact ⟨k + 1, _, _, by omega, by go_num, HX10.out, HB4.out⟩
                case measure => simp [intOf]; omega
          · obtain rfl : k = al.length := by omega
            have hx := HX.out
            rw [List.take_of_length_le (show (List.zipWith max al bl).length ≤ al.length by simp; omega), List.take_of_length_le (show (List.zipWith min ah bh).length ≤ al.length by have := HLN.out; simp; omega)] at hx
            have HLL := hid (show (List.zipWith max al bl).length ≤ 1000000 by have := HG.out; simp; omega)
            have HMB := hid (meetB_four HLN.out.1 HLN.out.2.1 HLN.out.2.2)
            have HZL := hid (And.intro (zipL_yes (f := max) HLN.out.2.1) (zipL_yes (f := min) (l := ah) (m := bh) (by have := HLN.out; omega)))
            have hF := HF.out
            clear HF HX x c
            generalize List.zipWith max al bl = L1 at hx HLL HMB HZL hF
            generalize List.zipWith min ah bh = L2 at hx HMB HZL hF
            obtain ⟨A, d, A', d', rfl, rfl, p1, p2⟩ := hx.read hF.1 hF.2
            have HRD := hid (show Ready w wr (w.heap.size + 3) A d A' d' L1 L2 from
              ⟨HB0.out.trans (HB.out.mono HB0.out.size), p1, p2, hx.box, (HB.out.block _ (lt_of HZ.out)).trans HZ.out, by omega, by omega⟩)
            clear hF
            clear hx p1 p2
            have x := ready_cells HRD.out
            cases hb : meetB al ah bl bh with
            | false =>
              have HM := hid hb
              have HE := hid (HMB.out.symm.trans hb)
              clear hb
              go_wp2_with (go_at_call 35; refine (ready_check2 HRD.out (al.length : Int) (by have := HLL.out; omega) false HE.out).mono ?_; rintro e w6 ⟨rfl, hr⟩; rw [err_false false rfl]; have HR6 := hid hr; clear hr x; have x6 := ready_cells HR6.out)
              have y6 := ready_out HR6.out (.slice none 0 0) (.slice none 0 0)
              refine bodyPost_ret (v := .tuple #[.agg #[.slice none 0 0, .slice none 0 0], .bool false]) (by simp [results, Try.results36, go_sem, y6]) rfl ?_
              exact newBox_no HM.out (ready_end HR6.out _ _ (by simp)).2.2
            | true =>
              have HM := hid hb
              have HE := hid (HMB.out.symm.trans hb)
              clear hb
              go_wp2_with (go_at_call 35; refine (ready_check2 HRD.out (al.length : Int) (by have := HLL.out; omega) true HE.out).mono ?_; rintro e w6 ⟨rfl, hr⟩; rw [err_true true rfl]; have HR6 := hid hr; clear hr x; have x6 := ready_cells HR6.out)
              have y6 := ready_out HR6.out (.slice A L1.length d) (.slice A' L2.length d')
              refine bodyPost_ret (v := .tuple #[.agg #[.slice A L1.length d, .slice A' L2.length d'], .bool true]) (by simp [results, Try.results36, go_sem, y6]) rfl ?_
              obtain ⟨q1, q2, q3⟩ := ready_end HR6.out (.slice A L1.length d) (.slice A' L2.length d') (by simp)
              have hy := newBox_yes (c := d) (c' := d') HM.out (by rw [HZL.out.1]; exact q1) (by rw [HZL.out.2]; exact q2) q3
              rw [HZL.out.1, HZL.out.2] at hy
              exact hy
      · have e0 : ((ah.length : Int) != (al.length : Int)) = false := by simp [f1]
        have e1 : ((bl.length : Int) != (al.length : Int)) = false := by simp [f2]
        have e2 : ((bh.length : Int) != (al.length : Int)) = true := by simp; omega
        have HM : Hid (meetB al ah bl bh = false) := hid (by simp [meetB, four, f3])
        clear f1 f2 f3
        go_enter Try.func36, Try.ntmps36
        go_wp2_with fail
        have z2 := HS.out.2.2.2
        refine bodyPost_ret (v := .tuple #[.agg #[.slice none 0 0, .slice none 0 0], .bool false]) (by simp [results, Try.results36, go_sem]) rfl ?_
        exact newBox_no HM.out HBL.out
    · have e0 : ((ah.length : Int) != (al.length : Int)) = false := by simp [f1]
      have e1 : ((bl.length : Int) != (al.length : Int)) = true := by simp; omega
      have HM : Hid (meetB al ah bl bh = false) := hid (by simp [meetB, four, f2])
      clear f1 f2
      go_enter Try.func36, Try.ntmps36
      go_wp2_with fail
      have z2 := HS.out.2.2.2
      refine bodyPost_ret (v := .tuple #[.agg #[.slice none 0 0, .slice none 0 0], .bool false]) (by simp [results, Try.results36, go_sem]) rfl ?_
      exact newBox_no HM.out HBL.out
  · have e1 : ((ah.length : Int) != (al.length : Int)) = true := by simp; omega
    have HM : Hid (meetB al ah bl bh = false) := hid (by simp [meetB, four, f1])
    clear f1
    go_enter Try.func36, Try.ntmps36
    go_wp2_with fail
    have z2 := HS.out.2.2.2
    refine bodyPost_ret (v := .tuple #[.agg #[.slice none 0 0, .slice none 0 0], .bool false]) (by simp [results, Try.results36, go_sem]) rfl ?_
    exact newBox_no HM.out HBL.out
end Go.Proofs.Ytmhjoeegghnlhaa.Ky
