/- The document's Of of region. -/
import Derived.Test.YtnmhdlincgefeaaRgSmall
import Derived.Test.YtnmhdlincgefeaaRgFill
import Derived.Test.YtnmhdlincgefeaaSlCellR
namespace Go.Proofs.Ytnmhdlincgefeaa.Rg
open Go.RowKit
open Go.Lib (hid)
open Go.Proofs.Ytnmhdlincgefeaa.Sl

/-- the least range so far, in rows of the call's own -/
def Lay (w0 : World) (S ps : List Nat) (v7 v8 : Value) (wr : World) : Prop := (ps = [] ∧ v7 = .slice none 0 0 ∧ v8 = .slice none 0 0) ∨
  (ps ≠ [] ∧ ∃ g1 g2 c1 c2, v7 = .slice (some ⟨g1, 0, none⟩) S.length c1 ∧ v8 = .slice (some ⟨g2, 0, none⟩) S.length c2 ∧ g1 ≠ g2 ∧ w0.heap.size ≤ g1 ∧ w0.heap.size ≤ g2 ∧ Row wr g1 (zs (boxF S ps).1) ∧ Row wr g2 (zs (boxF S ps).2))
theorem Lay.below {w0 wr w' : World} {S ps : List Nat} {v7 v8 : Value} (h : Lay w0 S ps v7 v8 wr) (hb : Below wr.heap.size wr w') : Lay w0 S ps v7 v8 w' := by
  rcases h with h | ⟨h0, g1, g2, c1, c2, e1, e2, h1, h2, h3, h4, h5⟩
  · exact .inl h
  · exact .inr ⟨h0, g1, g2, c1, c2, e1, e2, h1, h2, h3, h4.below hb, h5.below hb⟩
theorem boxF_rng {S : List Nat} (hS : ∀ s ∈ S, 0 < s) {ps : List Nat} (h : ps ≠ []) : Rng S (boxF S ps).1 (boxF S ps).2 := by
  cases ps with
  | nil => exact absurd rfl h
  | cons p t => exact (Rng.one hS p).fold hS t
set_option maxRecDepth 100000 in
set_option maxHeartbeats 8000000 in
theorem rof_ok {w : World} {b g h : Nat} {S : List Nat} {C : List Int} (H : Rlb w b g h (zs S) C) (F : Fits S C) (n : Int) :
    Calls Try.prog 13 #[.pointer (some ⟨b, 0, none⟩), .int .i64 n] w (FRet w (filledL S (plc C C.length n))) := by
  have hcl : C.length ≤ 4096 := by rw [F.len]; exact F.most
  obtain ⟨km, mm, _, _, HRB⟩ := H.rb
  have HH := hid H; have HB0 := hid HRB; have HF := hid F; have HCL := hid hcl
  have HSL := hid F.few
  clear H HRB F
  go_enter Try.func13, Try.ntmps13
  go_wp2_with fail
  go_loopw [7, 8, 9, 10] (fun v7 v8 ct i wr => ∃ k : Nat, k ≤ C.length ∧ i = .int .i64 (k : Int) ∧ ct = .int .i64 (((plc C k n).length : Nat) : Int) ∧ Lay w S (plc C k n) v7 v8 wr ∧ Below w.heap.size w wr) (fun _ _ _ i _ => C.length - (intOf i).toNat)
  case atStart => exact ⟨0, Nat.zero_le _, rfl, rfl, .inl ⟨rfl, rfl, rfl⟩, Below.refl _ _⟩
  case round =>
    obtain ⟨k, hk, rfl, rfl, hlay, hb⟩ := hrel
    have HLY := hid hlay; have HBW := hid hb
    have hrb := HB0.out.below hb
    have y0 := hrb.cell0
    have y1 := hrb.cell1
    rw [zs_len] at y0
    by_cases hlt : k < C.length
    · have d0 := (HH.out.below hb).co.cell k hlt
      have hg : C.getD k 0 = C[k] := by rw [List.getD_eq_getElem?_getD, List.getElem?_eq_getElem hlt]; rfl
      have hpl := plc_len C k n
      by_cases hx : C[k] = n
      · have HP := hid (plc_yes C k n (hg.trans hx))
        have HCE := hid (rcell_ok S k _ km wr hrb.sz HF.out.pos HF.out.few (by omega))
        rw [hx] at d0
        clear hlay hb hg hx hrb
        rcases HLY.out with ⟨hps, rfl, rfl⟩ | ⟨hps, g1, g2, k1, k3, rfl, rfl, hne, hg1, hg2, hr1, hr2⟩
        · have HPS := hid hps
          rw [hps] at hpl
          rw [hps]
          have e1 : (((0 : Nat) : Int) + 1 == 1) = true := by decide
          clear hps
          go_wp2_with fail
          refine HCE.out.mono ?_
          rintro e w3 ⟨rfl, hr3, hb3⟩
          obtain ⟨g3, hg3⟩ : ∃ g3, wr.heap.size = g3 := ⟨_, rfl⟩
          rw [hg3] at hr3 ⊢
          have HR3 := hid hr3
          have HB3 := hid (HBW.out.trans (hb3.mono HBW.out.size))
          have hcz : (zs (cellL S k)).length = S.length := by rw [zs_len, cellL_length]
          have HCZ := hid hcz
          have hsl := HSL.out
          have HS0 := hid (List.length_pos_iff.2 HF.out.some)
          have HG3 := hid (show w.heap.size ≤ g3 by rw [← hg3]; exact HBW.out.size)
          clear hr3 hb3 hcz
          go_wp2_with (at_builtin; refine wpList_app rfl _ _ _ rfl rfl rfl (int_full _ _ 0 [] (ReadAt.nil _ _) rfl _ S.length _ (iv (zs (cellL S k))) HR3.out.cells.read (by rw [iv_length]; exact HCZ.out) (iv_one _) (by omega)) ?_)
          intro v' w4 hF
          rw [← HCZ.out] at hF
          obtain ⟨k1, rfl, hr4, hb4, -⟩ := row_of_full (by rw [HCZ.out]; exact HS0.out) hF
          rw [HCZ.out]
          have HR4 := hid hr4
          have hs3 := HR3.out.lt
          have HR3 := hid (HR3.out.below hb4)
          have HB4 := hid (HB3.out.trans (hb4.mono HB3.out.size))
          clear hF hr4 hb4
          go_wp2_with (at_builtin; refine wpList_app rfl _ _ _ rfl rfl rfl (int_full _ _ 0 [] (ReadAt.nil _ _) rfl _ S.length _ (iv (zs (cellL S k))) HR3.out.cells.read (by rw [iv_length]; exact HCZ.out) (iv_one _) (by omega)) ?_)
          intro v' V5 hF
          rw [← HCZ.out] at hF
          obtain ⟨k3, rfl, hr5, hb5, -⟩ := row_of_full (by rw [HCZ.out]; exact HS0.out) hF
          rw [HCZ.out]
          obtain ⟨g1, hg1⟩ : ∃ g1, w3.heap.size = g1 := ⟨_, rfl⟩
          obtain ⟨g2, hg2⟩ : ∃ g2, w4.heap.size = g2 := ⟨_, rfl⟩
          have h4 := HR4.out.lt
          have HC3 := hid (HR3.out.below hb5)
          have HA := hid (HR4.out.below hb5)
          have HB := hid hr5
          have HNE := hid (show g1 ≠ g2 ∧ g3 ≠ g1 ∧ g3 ≠ g2 by omega)
          have HGE := hid (show w.heap.size ≤ g1 ∧ w.heap.size ≤ g2 by have := HG3.out; omega)
          have HBE := hid (HB4.out.trans (hb5.mono HB4.out.size))
          rw [hg1] at HA
          rw [hg2] at HB
          obtain ⟨A, hA⟩ : ∃ A, cellL S k = A := ⟨_, rfl⟩
          obtain ⟨B, hB⟩ : ∃ B, cellL S k = B := ⟨_, rfl⟩
          have HA := hid (show Row V5 g1 (zs A) by rw [← hA]; exact HA.out)
          have HB := hid (show Row V5 g2 (zs B) by rw [← hB]; exact HB.out)
          have HLA : Hid (A.length = S.length) := hid (by rw [← hA, cellL_length])
          have HLB : Hid (B.length = S.length) := hid (by rw [← hB, cellL_length])
          have HAE := hid (And.intro hA hB)
          rw [hg1, hg2]
          clear hF hr5 hb5 hs3 h4 hg1 hg2 hg3 y0 y1 d0 e1 hA hB
          go_wp2_with fail
          go_loopw [12] (fun i wr => ∃ k2 : Nat, k2 ≤ S.length ∧ i = .int .i64 (k2 : Int) ∧ Row wr g1 (zs (mixL (zmin A (cellL S k)) A k2)) ∧ Row wr g2 (zs (mixL (zmax B (cellL S k)) B k2)) ∧ Onl (fun j => j = g1 ∨ j = g2) V5 wr) (fun i _ => S.length - (intOf i).toNat)
          case atStart => exact ⟨0, Nat.zero_le _, rfl, by rw [mixL_zero]; exact HA.out, by rw [mixL_zero]; exact HB.out, Onl.ofBelow (Below.refl _ _)⟩
          case round =>
            obtain ⟨k2, hk2, rfl, hg, hr, ho⟩ := hrel
            rename World => wi
            by_cases hlt2 : k2 < S.length
            · have h1 : k2 < A.length := by rw [HLA.out]; exact hlt2
              have h2 : k2 < B.length := by rw [HLB.out]; exact hlt2
              have h3 : k2 < (cellL S k).length := by rw [cellL_length]; exact hlt2
              have z1 : (zmin A (cellL S k)).length = A.length := zmin_len (by rw [HLA.out, cellL_length])
              have z2 : (zmax B (cellL S k)).length = B.length := zmax_len (by rw [HLB.out, cellL_length])
              have hne := HNE.out
              have d1 := getI (HC3.out.keep (ho.block g3 HC3.out.lt (fun e => by rcases e with e | e <;> omega))) k2 h3
              have d2 := getI hg k2 (by rw [mixL_len _ z1]; exact h1)
              rw [mixL_at k2 z1 h1] at d2
              have d3 := getI hr k2 (by rw [mixL_len _ z2]; exact h2)
              rw [mixL_at k2 z2 h2] at d3
              have f2 := hg.frozen k2
              have f3 := hr.frozen k2
              have m1 : (if (((cellL S k)[k2] : Nat) : Int) < ((A[k2] : Nat) : Int) then (((cellL S k)[k2] : Nat) : Int) else ((A[k2] : Nat) : Int)) = (((zmin A (cellL S k))[k2]'(by omega) : Nat) : Int) := by rw [zmin_at k2 _ h1 h3]; split <;> omega
              have m2 : (if ((B[k2] : Nat) : Int) < (((cellL S k)[k2] : Nat) : Int) then (((cellL S k)[k2] : Nat) : Int) else ((B[k2] : Nat) : Int)) = (((zmax B (cellL S k))[k2]'(by omega) : Nat) : Int) := by rw [zmax_at k2 _ h2 h3]; split <;> omega
              have HS1 := hid (show Row (wi.setCell ⟨g1, k2, none⟩ (.int .i64 (if (((cellL S k)[k2] : Nat) : Int) < ((A[k2] : Nat) : Int) then (((cellL S k)[k2] : Nat) : Int) else ((A[k2] : Nat) : Int)))) g1 (zs (mixL (zmin A (cellL S k)) A (k2 + 1))) by
                have := hg.set k2 (by rw [zs_len, mixL_len _ z1]; exact h1) (((zmin A (cellL S k))[k2]'(by omega) : Nat) : Int)
                rw [m1, ← mixL_set k2 z1 h1]
                have e : zs ((mixL (zmin A (cellL S k)) A k2).set k2 ((zmin A (cellL S k))[k2]'(by omega))) = (zs (mixL (zmin A (cellL S k)) A k2)).set k2 (((zmin A (cellL S k))[k2]'(by omega) : Nat) : Int) := by unfold zs; rw [List.map_set]
                rw [e]; exact this)
              have HS2 := hid (show ∀ V : World, Row V g2 (zs (mixL (zmax B (cellL S k)) B k2)) → Row (V.setCell ⟨g2, k2, none⟩ (.int .i64 (if ((B[k2] : Nat) : Int) < (((cellL S k)[k2] : Nat) : Int) then (((cellL S k)[k2] : Nat) : Int) else ((B[k2] : Nat) : Int)))) g2 (zs (mixL (zmax B (cellL S k)) B (k2 + 1))) from fun V hV => by
                have := hV.set k2 (by rw [zs_len, mixL_len _ z2]; exact h2) (((zmax B (cellL S k))[k2]'(by omega) : Nat) : Int)
                rw [m2, ← mixL_set k2 z2 h2]
                have e : zs ((mixL (zmax B (cellL S k)) B k2).set k2 ((zmax B (cellL S k))[k2]'(by omega))) = (zs (mixL (zmax B (cellL S k)) B k2)).set k2 (((zmax B (cellL S k))[k2]'(by omega) : Nat) : Int) := by unfold zs; rw [List.map_set]
                rw [e]; exact this)
              have HRR := hid hr
              have HOO := hid ho
              have hsl := HSL.out
              clear hg hr ho m1 m2 z1 z2
              generalize (((cellL S k)[k2] : Nat) : Int) = Z at *
              generalize ((A[k2] : Nat) : Int) = X at *
              generalize ((B[k2] : Nat) : Int) = U at *
              have q0 : wi.cell? ⟨g3, k2, none⟩ = some (.int .i64 Z) := d1
              have q1 : (wi.setCell ⟨g1, k2, none⟩ (.int .i64 (if Z < X then Z else X))).cell? ⟨g3, k2, none⟩ = some (.int .i64 Z) := (World.cell?_of_block (heap_setCell_other _ _ _ _ (by show g3 ≠ g1; omega))).trans d1
              have v3 : (wi.setCell ⟨g1, k2, none⟩ (.int .i64 (if Z < X then Z else X))).cell? ⟨g2, k2, none⟩ = some (.int .i64 U) := (World.cell?_of_block (heap_setCell_other _ _ _ _ (by show g2 ≠ g1; omega))).trans d3
              have w3' : (wi.setCell ⟨g1, k2, none⟩ (.int .i64 (if Z < X then Z else X))).frozen? ⟨g2, k2, none⟩ = false := by rw [World.frozen?_setCell]; exact f3
              have HV := hid (And.intro v3 (And.intro q1 w3'))
              have HON := hid (show Onl (fun j => j = g1 ∨ j = g2) wi ((wi.setCell ⟨g1, k2, none⟩ (.int .i64 (if Z < X then Z else X))).setCell ⟨g2, k2, none⟩ (.int .i64 (if U < Z then Z else U))) from ⟨rfl, rfl, rfl, by rw [World.size_setCell, World.size_setCell]; exact Nat.le_refl _, fun j _ hj => by rw [heap_setCell_other _ _ _ _ (fun e => hj (.inr e)), heap_setCell_other _ _ _ _ (fun e => hj (.inl e))]⟩)
              clear d3 f3 v3 w3'
              go_wp2_with fail
              refine wp_region_held_drew (S := (fun V => V.cell? ⟨g3, k2, none⟩ = some (.int .i64 Z))) (by kernel_rfl) (by exact q0) (fun hHeld => ?_)
              refine wpAnyH_take (i := 0) (oi := { dst := some 55, op := Op.move (Operand.tmp 7), type := 22, pos := "ref.go:27", after := #[], guard := none }) (v := ?vxa0) rfl (by kernel_rfl) (by kernel_rfl) (by kernel_rfl) (fun _ _ _ h => h) (Or.inl ⟨by rfl, ?hyxa0⟩) (by assumption) ?restxa0
              case hyxa0 => (intro w hSw; (try dsimp only at hSw); go_simp; (try with_reducible rfl))
              simp only [Act.put, List.setIfInBounds_toArray, List.set_cons_zero, List.set_cons_succ]
              refine wpAnyH_take (i := 1) (oi := { dst := some 56, op := Op.move (Operand.tmp 12), type := 3, pos := "ref.go:27", after := #[], guard := none }) (v := ?vxa1) rfl (by kernel_rfl) (by kernel_rfl) (by kernel_rfl) (fun _ _ _ h => h) (Or.inl ⟨by rfl, ?hyxa1⟩) (by assumption) ?restxa1
              case hyxa1 => (intro w hSw; (try dsimp only at hSw); go_simp; (try with_reducible rfl))
              simp only [Act.put, List.setIfInBounds_toArray, List.set_cons_zero, List.set_cons_succ]
              refine wpAnyH_take (i := 2) (oi := { dst := some 57, op := Op.move (Operand.tmp 7), type := 22, pos := "ref.go:27", after := #[], guard := none }) (v := ?vxa2) rfl (by kernel_rfl) (by kernel_rfl) (by kernel_rfl) (fun _ _ _ h => h) (Or.inl ⟨by rfl, ?hyxa2⟩) (by assumption) ?restxa2
              case hyxa2 => (intro w hSw; (try dsimp only at hSw); go_simp; (try with_reducible rfl))
              simp only [Act.put, List.setIfInBounds_toArray, List.set_cons_zero, List.set_cons_succ]
              refine wpAnyH_take (i := 3) (oi := { dst := some 58, op := Op.move (Operand.tmp 12), type := 3, pos := "ref.go:27", after := #[], guard := none }) (v := ?vxa3) rfl (by kernel_rfl) (by kernel_rfl) (by kernel_rfl) (fun _ _ _ h => h) (Or.inl ⟨by rfl, ?hyxa3⟩) (by assumption) ?restxa3
              case hyxa3 => (intro w hSw; (try dsimp only at hSw); go_simp; (try with_reducible rfl))
              simp only [Act.put, List.setIfInBounds_toArray, List.set_cons_zero, List.set_cons_succ]
              refine wpAnyH_take (i := 4) (oi := { dst := some 59, op := Op.indexAddr 22 (Operand.tmp 57) (Operand.tmp 58), type := 0, pos := "ref.go:27", after := #[{ on := 2, ground := Ground.data }, { on := 3, ground := Ground.data }], guard := none }) (v := ?vxa4) rfl (by kernel_rfl) (by kernel_rfl) (by kernel_rfl) (fun _ _ _ h => h) (Or.inl ⟨by rfl, ?hyxa4⟩) (by assumption) ?restxa4
              case hyxa4 => (intro w hSw; (try dsimp only at hSw); go_simp; (try with_reducible rfl))
              simp only [Act.put, List.setIfInBounds_toArray, List.set_cons_zero, List.set_cons_succ]
              refine wpAnyH_take (i := 6) (oi := { dst := some 61, op := Op.move (Operand.tmp 11), type := 22, pos := "ref.go:27", after := #[], guard := none }) (v := ?vxa6) rfl (by kernel_rfl) (by kernel_rfl) (by kernel_rfl) (fun _ _ _ h => h) (Or.inl ⟨by rfl, ?hyxa6⟩) (by assumption) ?restxa6
              case hyxa6 => (intro w hSw; (try dsimp only at hSw); go_simp; (try with_reducible rfl))
              simp only [Act.put, List.setIfInBounds_toArray, List.set_cons_zero, List.set_cons_succ]
              refine wpAnyH_take (i := 7) (oi := { dst := some 62, op := Op.move (Operand.tmp 12), type := 3, pos := "ref.go:27", after := #[], guard := none }) (v := ?vxa7) rfl (by kernel_rfl) (by kernel_rfl) (by kernel_rfl) (fun _ _ _ h => h) (Or.inl ⟨by rfl, ?hyxa7⟩) (by assumption) ?restxa7
              case hyxa7 => (intro w hSw; (try dsimp only at hSw); go_simp; (try with_reducible rfl))
              simp only [Act.put, List.setIfInBounds_toArray, List.set_cons_zero, List.set_cons_succ]
              refine wpAnyH_take (i := 8) (oi := { dst := some 63, op := Op.indexAddr 22 (Operand.tmp 61) (Operand.tmp 62), type := 0, pos := "ref.go:27", after := #[{ on := 6, ground := Ground.data }, { on := 7, ground := Ground.data }], guard := none }) (v := ?vxa8) rfl (by kernel_rfl) (by kernel_rfl) (by kernel_rfl) (fun _ _ _ h => h) (Or.inl ⟨by rfl, ?hyxa8⟩) (by assumption) ?restxa8
              case hyxa8 => (intro w hSw; (try dsimp only at hSw); go_simp; (try with_reducible rfl))
              simp only [Act.put, List.setIfInBounds_toArray, List.set_cons_zero, List.set_cons_succ]
              refine wpAnyH_take (i := 9) (oi := { dst := some 64, op := Op.load 3 (Operand.tmp 63), type := 3, pos := "ref.go:27", after := #[{ on := 8, ground := Ground.data }], guard := none }) (v := ?vxa9) rfl (by kernel_rfl) (by kernel_rfl) (by kernel_rfl) (fun _ _ _ h => h) (Or.inl ⟨by rfl, ?hyxa9⟩) (by assumption) ?restxa9
              case hyxa9 => (intro w hSw; (try dsimp only at hSw); go_simp; (try with_reducible rfl))
              simp only [Act.put, List.setIfInBounds_toArray, List.set_cons_zero, List.set_cons_succ]
              refine wpAnyH_ready (rs := [5]) (by kernel_rfl) (by simp) (AllReadyH.cons (o := { dst := some 60, op := Op.load 3 (Operand.tmp 59), type := 3, pos := "ref.go:27", after := #[{ on := 4, ground := Ground.data }], guard := none }) rfl (fun K hK => ?_) AllReadyH.nil)
              go_simp
              refine hK.out _ _ q0 (fun hHeld => ?_)
              clear hK K
              refine wpAnyH_take (i := 10) (oi := { dst := some 65, op := Op.call { callee := Callee.builtin Builtin.min, args := #[Operand.tmp 60, Operand.tmp 64], argTypes := #[3, 3] }, type := 3, pos := "ref.go:27", after := #[{ on := 5, ground := Ground.data }, { on := 9, ground := Ground.data }], guard := none }) (v := ?vxa10) rfl (by kernel_rfl) (by kernel_rfl) (by kernel_rfl) (fun _ _ _ h => h) (Or.inl ⟨by rfl, ?hyxa10⟩) (by assumption) ?restxa10
              case hyxa10 => (intro w hSw; (try dsimp only at hSw); go_simp; (try with_reducible rfl))
              simp only [Act.put, List.setIfInBounds_toArray, List.set_cons_zero, List.set_cons_succ]
              refine wpAnyH_take (i := 11) (oi := { dst := some 66, op := Op.indexAddr 22 (Operand.tmp 55) (Operand.tmp 56), type := 0, pos := "ref.go:27", after := #[{ on := 0, ground := Ground.data }, { on := 1, ground := Ground.data }, { on := 0, ground := Ground.phase }, { on := 1, ground := Ground.phase }, { on := 2, ground := Ground.phase }, { on := 3, ground := Ground.phase }, { on := 4, ground := Ground.phase }, { on := 5, ground := Ground.phase }, { on := 6, ground := Ground.phase }, { on := 7, ground := Ground.phase }, { on := 8, ground := Ground.phase }, { on := 9, ground := Ground.phase }, { on := 10, ground := Ground.phase }], guard := none }) (v := ?vxa11) rfl (by kernel_rfl) (by kernel_rfl) (by kernel_rfl) (fun _ _ _ h => h) (Or.inl ⟨by rfl, ?hyxa11⟩) (by assumption) ?restxa11
              case hyxa11 => (intro w hSw; (try dsimp only at hSw); go_simp; (try with_reducible rfl))
              simp only [Act.put, List.setIfInBounds_toArray, List.set_cons_zero, List.set_cons_succ]
              refine wpAnyH_ready (rs := [12]) (by kernel_rfl) (by simp) (AllReadyH.cons (o := { dst := none, op := Op.store 3 (Operand.tmp 66) (Operand.tmp 65), type := 0, pos := "ref.go:27", after := #[{ on := 11, ground := Ground.data }, { on := 10, ground := Ground.data }, { on := 0, ground := Ground.phase }, { on := 1, ground := Ground.phase }, { on := 2, ground := Ground.phase }, { on := 3, ground := Ground.phase }, { on := 4, ground := Ground.phase }, { on := 5, ground := Ground.phase }, { on := 6, ground := Ground.phase }, { on := 7, ground := Ground.phase }, { on := 8, ground := Ground.phase }, { on := 9, ground := Ground.phase }, { on := 10, ground := Ground.phase }], guard := none }) rfl (fun K hK => ?_) AllReadyH.nil)
              go_simp
              refine hK.out _ _ q1 (fun hHeld => ?_)
              clear hK K
              refine wpAnyH_done (by kernel_rfl) ?_ _
              obtain ⟨v3, v4, w3'⟩ := HV.out
              clear q0 q1 d1 d2 f2
              generalize (if Z < X then Z else X) = M at *
              have q0 := v4
              have q1 : ((wi.setCell ⟨g1, k2, none⟩ (.int .i64 M)).setCell ⟨g2, k2, none⟩ (.int .i64 (if U < Z then Z else U))).cell? ⟨g3, k2, none⟩ = some (.int .i64 Z) := (World.cell?_of_block (heap_setCell_other _ _ _ _ (by show g3 ≠ g2; omega))).trans v4
              go_wp2_with fail
              refine wp_region_held_drew (S := (fun V => V.cell? ⟨g3, k2, none⟩ = some (.int .i64 Z))) (by kernel_rfl) (by exact q0) (fun hHeld => ?_)
              refine wpAnyH_take (i := 0) (oi := { dst := some 67, op := Op.move (Operand.tmp 8), type := 22, pos := "ref.go:28", after := #[], guard := none }) (v := ?vxb0) rfl (by kernel_rfl) (by kernel_rfl) (by kernel_rfl) (fun _ _ _ h => h) (Or.inl ⟨by rfl, ?hyxb0⟩) (by assumption) ?restxb0
              case hyxb0 => (intro w hSw; (try dsimp only at hSw); go_simp; (try with_reducible rfl))
              simp only [Act.put, List.setIfInBounds_toArray, List.set_cons_zero, List.set_cons_succ]
              refine wpAnyH_take (i := 1) (oi := { dst := some 68, op := Op.move (Operand.tmp 12), type := 3, pos := "ref.go:28", after := #[], guard := none }) (v := ?vxb1) rfl (by kernel_rfl) (by kernel_rfl) (by kernel_rfl) (fun _ _ _ h => h) (Or.inl ⟨by rfl, ?hyxb1⟩) (by assumption) ?restxb1
              case hyxb1 => (intro w hSw; (try dsimp only at hSw); go_simp; (try with_reducible rfl))
              simp only [Act.put, List.setIfInBounds_toArray, List.set_cons_zero, List.set_cons_succ]
              refine wpAnyH_take (i := 2) (oi := { dst := some 69, op := Op.move (Operand.tmp 8), type := 22, pos := "ref.go:28", after := #[], guard := none }) (v := ?vxb2) rfl (by kernel_rfl) (by kernel_rfl) (by kernel_rfl) (fun _ _ _ h => h) (Or.inl ⟨by rfl, ?hyxb2⟩) (by assumption) ?restxb2
              case hyxb2 => (intro w hSw; (try dsimp only at hSw); go_simp; (try with_reducible rfl))
              simp only [Act.put, List.setIfInBounds_toArray, List.set_cons_zero, List.set_cons_succ]
              refine wpAnyH_take (i := 3) (oi := { dst := some 70, op := Op.move (Operand.tmp 12), type := 3, pos := "ref.go:28", after := #[], guard := none }) (v := ?vxb3) rfl (by kernel_rfl) (by kernel_rfl) (by kernel_rfl) (fun _ _ _ h => h) (Or.inl ⟨by rfl, ?hyxb3⟩) (by assumption) ?restxb3
              case hyxb3 => (intro w hSw; (try dsimp only at hSw); go_simp; (try with_reducible rfl))
              simp only [Act.put, List.setIfInBounds_toArray, List.set_cons_zero, List.set_cons_succ]
              refine wpAnyH_take (i := 4) (oi := { dst := some 71, op := Op.indexAddr 22 (Operand.tmp 69) (Operand.tmp 70), type := 0, pos := "ref.go:28", after := #[{ on := 2, ground := Ground.data }, { on := 3, ground := Ground.data }], guard := none }) (v := ?vxb4) rfl (by kernel_rfl) (by kernel_rfl) (by kernel_rfl) (fun _ _ _ h => h) (Or.inl ⟨by rfl, ?hyxb4⟩) (by assumption) ?restxb4
              case hyxb4 => (intro w hSw; (try dsimp only at hSw); go_simp; (try with_reducible rfl))
              simp only [Act.put, List.setIfInBounds_toArray, List.set_cons_zero, List.set_cons_succ]
              refine wpAnyH_take (i := 6) (oi := { dst := some 73, op := Op.move (Operand.tmp 11), type := 22, pos := "ref.go:28", after := #[], guard := none }) (v := ?vxb6) rfl (by kernel_rfl) (by kernel_rfl) (by kernel_rfl) (fun _ _ _ h => h) (Or.inl ⟨by rfl, ?hyxb6⟩) (by assumption) ?restxb6
              case hyxb6 => (intro w hSw; (try dsimp only at hSw); go_simp; (try with_reducible rfl))
              simp only [Act.put, List.setIfInBounds_toArray, List.set_cons_zero, List.set_cons_succ]
              refine wpAnyH_take (i := 7) (oi := { dst := some 74, op := Op.move (Operand.tmp 12), type := 3, pos := "ref.go:28", after := #[], guard := none }) (v := ?vxb7) rfl (by kernel_rfl) (by kernel_rfl) (by kernel_rfl) (fun _ _ _ h => h) (Or.inl ⟨by rfl, ?hyxb7⟩) (by assumption) ?restxb7
              case hyxb7 => (intro w hSw; (try dsimp only at hSw); go_simp; (try with_reducible rfl))
              simp only [Act.put, List.setIfInBounds_toArray, List.set_cons_zero, List.set_cons_succ]
              refine wpAnyH_take (i := 8) (oi := { dst := some 75, op := Op.indexAddr 22 (Operand.tmp 73) (Operand.tmp 74), type := 0, pos := "ref.go:28", after := #[{ on := 6, ground := Ground.data }, { on := 7, ground := Ground.data }], guard := none }) (v := ?vxb8) rfl (by kernel_rfl) (by kernel_rfl) (by kernel_rfl) (fun _ _ _ h => h) (Or.inl ⟨by rfl, ?hyxb8⟩) (by assumption) ?restxb8
              case hyxb8 => (intro w hSw; (try dsimp only at hSw); go_simp; (try with_reducible rfl))
              simp only [Act.put, List.setIfInBounds_toArray, List.set_cons_zero, List.set_cons_succ]
              refine wpAnyH_take (i := 9) (oi := { dst := some 76, op := Op.load 3 (Operand.tmp 75), type := 3, pos := "ref.go:28", after := #[{ on := 8, ground := Ground.data }], guard := none }) (v := ?vxb9) rfl (by kernel_rfl) (by kernel_rfl) (by kernel_rfl) (fun _ _ _ h => h) (Or.inl ⟨by rfl, ?hyxb9⟩) (by assumption) ?restxb9
              case hyxb9 => (intro w hSw; (try dsimp only at hSw); go_simp; (try with_reducible rfl))
              simp only [Act.put, List.setIfInBounds_toArray, List.set_cons_zero, List.set_cons_succ]
              refine wpAnyH_ready (rs := [5]) (by kernel_rfl) (by simp) (AllReadyH.cons (o := { dst := some 72, op := Op.load 3 (Operand.tmp 71), type := 3, pos := "ref.go:28", after := #[{ on := 4, ground := Ground.data }], guard := none }) rfl (fun K hK => ?_) AllReadyH.nil)
              go_simp
              refine hK.out _ _ q0 (fun hHeld => ?_)
              clear hK K
              refine wpAnyH_take (i := 10) (oi := { dst := some 77, op := Op.call { callee := Callee.builtin Builtin.max, args := #[Operand.tmp 72, Operand.tmp 76], argTypes := #[3, 3] }, type := 3, pos := "ref.go:28", after := #[{ on := 5, ground := Ground.data }, { on := 9, ground := Ground.data }], guard := none }) (v := ?vxb10) rfl (by kernel_rfl) (by kernel_rfl) (by kernel_rfl) (fun _ _ _ h => h) (Or.inl ⟨by rfl, ?hyxb10⟩) (by assumption) ?restxb10
              case hyxb10 => (intro w hSw; (try dsimp only at hSw); go_simp; (try with_reducible rfl))
              simp only [Act.put, List.setIfInBounds_toArray, List.set_cons_zero, List.set_cons_succ]
              refine wpAnyH_take (i := 11) (oi := { dst := some 78, op := Op.indexAddr 22 (Operand.tmp 67) (Operand.tmp 68), type := 0, pos := "ref.go:28", after := #[{ on := 0, ground := Ground.data }, { on := 1, ground := Ground.data }, { on := 0, ground := Ground.phase }, { on := 1, ground := Ground.phase }, { on := 2, ground := Ground.phase }, { on := 3, ground := Ground.phase }, { on := 4, ground := Ground.phase }, { on := 5, ground := Ground.phase }, { on := 6, ground := Ground.phase }, { on := 7, ground := Ground.phase }, { on := 8, ground := Ground.phase }, { on := 9, ground := Ground.phase }, { on := 10, ground := Ground.phase }], guard := none }) (v := ?vxb11) rfl (by kernel_rfl) (by kernel_rfl) (by kernel_rfl) (fun _ _ _ h => h) (Or.inl ⟨by rfl, ?hyxb11⟩) (by assumption) ?restxb11
              case hyxb11 => (intro w hSw; (try dsimp only at hSw); go_simp; (try with_reducible rfl))
              simp only [Act.put, List.setIfInBounds_toArray, List.set_cons_zero, List.set_cons_succ]
              refine wpAnyH_ready (rs := [12]) (by kernel_rfl) (by simp) (AllReadyH.cons (o := { dst := none, op := Op.store 3 (Operand.tmp 78) (Operand.tmp 77), type := 0, pos := "ref.go:28", after := #[{ on := 11, ground := Ground.data }, { on := 10, ground := Ground.data }, { on := 0, ground := Ground.phase }, { on := 1, ground := Ground.phase }, { on := 2, ground := Ground.phase }, { on := 3, ground := Ground.phase }, { on := 4, ground := Ground.phase }, { on := 5, ground := Ground.phase }, { on := 6, ground := Ground.phase }, { on := 7, ground := Ground.phase }, { on := 8, ground := Ground.phase }, { on := 9, ground := Ground.phase }, { on := 10, ground := Ground.phase }], guard := none }) rfl (fun K hK => ?_) AllReadyH.nil)
              go_simp
              refine hK.out _ _ q1 (fun hHeld => ?_)
              clear hK K
              refine wpAnyH_done (by kernel_rfl) ?_ _
              generalize (if U < Z then Z else U) = M2 at *
              go_wp2_with fail
              go_roundw
              case rel =>
                exact ⟨k2 + 1, by omega, by go_num, HS1.out.keep (heap_setCell_other _ _ _ _ (by show g1 ≠ g2; omega)), HS2.out _ (HRR.out.keep (heap_setCell_other _ _ _ _ (by show g2 ≠ g1; omega))), HOO.out.trans (Onl.drew (Onl.drew HON.out))⟩
              case measure => simp [intOf]; omega
            · obtain rfl : k2 = S.length := by omega
              have e1 : mixL (zmin A (cellL S k)) A S.length = zmin A (cellL S k) := by rw [← HLA.out]; exact mixL_all (zmin_len (by rw [HLA.out, cellL_length]))
              have e2 : mixL (zmax B (cellL S k)) B S.length = zmax B (cellL S k) := by rw [← HLB.out]; exact mixL_all (zmax_len (by rw [HLB.out, cellL_length]))
              rw [e1] at hg
              rw [e2] at hr
              have HG := hid hg; have HR := hid hr; have HO := hid ho
              clear e1 e2 hg hr ho
              go_wp2_with fail
              go_roundw
              case rel =>
                refine ⟨k + 1, by omega, by go_num, by rw [HP.out, HPS.out]; simp, ?_, HBE.out.trans (HO.out.below HBE.out.size (fun j hj => by have := HGE.out; rcases hj with rfl | rfl <;> omega))⟩
                rw [HP.out, HPS.out]
                have hge := HGE.out
                exact .inr ⟨by simp, g1, g2, k1, k3, rfl, rfl, by have := HNE.out; omega, by omega, by omega, by have := HG.out; rw [← HAE.out.1, zmin_self] at this; exact this, by have := HR.out; rw [← HAE.out.2, zmax_self] at this; exact this⟩
              case measure => simp [intOf]; omega
        · have HPS := hid hps
          have hL1 : 1 ≤ (plc C k n).length := List.length_pos_iff.2 hps
          obtain ⟨A, hA⟩ : ∃ A, (boxF S (plc C k n)).1 = A := ⟨_, rfl⟩
          obtain ⟨B, hB⟩ : ∃ B, (boxF S (plc C k n)).2 = B := ⟨_, rfl⟩
          have hrng := boxF_rng HF.out.pos hps
          rw [hA] at hr1 hrng
          rw [hB] at hr2 hrng
          have HLA : Hid (A.length = S.length) := hid (okC_len hrng.okl).symm
          have HLB : Hid (B.length = S.length) := hid (okC_len hrng.okh).symm
          have HR1 := hid hr1; have HR2 := hid hr2
          have HGE := hid (And.intro hg1 hg2)
          have HAB := hid (And.intro hA hB)
          have HN12 := hid hne
          have hsl := HSL.out
          obtain ⟨L, hL⟩ : ∃ L, (plc C k n).length = L := ⟨_, rfl⟩
          have HLL := hid hL
          rw [hL] at hL1 hpl ⊢
          have e1 : (((L : Nat) : Int) + 1 == 1) = false := by rw [beq_eq_false_iff_ne]; omega
          have e2 : ¬ L = 0 := by omega
          clear hps hne hg1 hg2 hr1 hr2 hA hB hrng hL
          go_wp2_with fail
          refine HCE.out.mono ?_
          rintro e V5 ⟨rfl, hr3, hb3⟩
          obtain ⟨g3, hg3⟩ : ∃ g3, wr.heap.size = g3 := ⟨_, rfl⟩
          have ha1 := HR1.out.lt
          have ha2 := HR2.out.lt
          rw [hg3] at hr3 ⊢
          have HC3 := hid hr3
          have HA := hid (HR1.out.below hb3)
          have HB := hid (HR2.out.below hb3)
          have HNE := hid (show g1 ≠ g2 ∧ g3 ≠ g1 ∧ g3 ≠ g2 by have := HN12.out; omega)
          have HBE := hid (HBW.out.trans (hb3.mono HBW.out.size))
          clear hr3 hb3 ha1 ha2 hg3 y0 y1 d0
          go_wp2_with fail
          go_loopw [12] (fun i wr => ∃ k2 : Nat, k2 ≤ S.length ∧ i = .int .i64 (k2 : Int) ∧ Row wr g1 (zs (mixL (zmin A (cellL S k)) A k2)) ∧ Row wr g2 (zs (mixL (zmax B (cellL S k)) B k2)) ∧ Onl (fun j => j = g1 ∨ j = g2) V5 wr) (fun i _ => S.length - (intOf i).toNat)
          case atStart => exact ⟨0, Nat.zero_le _, rfl, by rw [mixL_zero]; exact HA.out, by rw [mixL_zero]; exact HB.out, Onl.ofBelow (Below.refl _ _)⟩
          case round =>
            obtain ⟨k2, hk2, rfl, hg, hr, ho⟩ := hrel
            rename World => wi
            by_cases hlt2 : k2 < S.length
            · have h1 : k2 < A.length := by rw [HLA.out]; exact hlt2
              have h2 : k2 < B.length := by rw [HLB.out]; exact hlt2
              have h3 : k2 < (cellL S k).length := by rw [cellL_length]; exact hlt2
              have z1 : (zmin A (cellL S k)).length = A.length := zmin_len (by rw [HLA.out, cellL_length])
              have z2 : (zmax B (cellL S k)).length = B.length := zmax_len (by rw [HLB.out, cellL_length])
              have hne := HNE.out
              have d1 := getI (HC3.out.keep (ho.block g3 HC3.out.lt (fun e => by rcases e with e | e <;> omega))) k2 h3
              have d2 := getI hg k2 (by rw [mixL_len _ z1]; exact h1)
              rw [mixL_at k2 z1 h1] at d2
              have d3 := getI hr k2 (by rw [mixL_len _ z2]; exact h2)
              rw [mixL_at k2 z2 h2] at d3
              have f2 := hg.frozen k2
              have f3 := hr.frozen k2
              have m1 : (if (((cellL S k)[k2] : Nat) : Int) < ((A[k2] : Nat) : Int) then (((cellL S k)[k2] : Nat) : Int) else ((A[k2] : Nat) : Int)) = (((zmin A (cellL S k))[k2]'(by omega) : Nat) : Int) := by rw [zmin_at k2 _ h1 h3]; split <;> omega
              have m2 : (if ((B[k2] : Nat) : Int) < (((cellL S k)[k2] : Nat) : Int) then (((cellL S k)[k2] : Nat) : Int) else ((B[k2] : Nat) : Int)) = (((zmax B (cellL S k))[k2]'(by omega) : Nat) : Int) := by rw [zmax_at k2 _ h2 h3]; split <;> omega
              have HS1 := hid (show Row (wi.setCell ⟨g1, k2, none⟩ (.int .i64 (if (((cellL S k)[k2] : Nat) : Int) < ((A[k2] : Nat) : Int) then (((cellL S k)[k2] : Nat) : Int) else ((A[k2] : Nat) : Int)))) g1 (zs (mixL (zmin A (cellL S k)) A (k2 + 1))) by
                have := hg.set k2 (by rw [zs_len, mixL_len _ z1]; exact h1) (((zmin A (cellL S k))[k2]'(by omega) : Nat) : Int)
                rw [m1, ← mixL_set k2 z1 h1]
                have e : zs ((mixL (zmin A (cellL S k)) A k2).set k2 ((zmin A (cellL S k))[k2]'(by omega))) = (zs (mixL (zmin A (cellL S k)) A k2)).set k2 (((zmin A (cellL S k))[k2]'(by omega) : Nat) : Int) := by unfold zs; rw [List.map_set]
                rw [e]; exact this)
              have HS2 := hid (show ∀ V : World, Row V g2 (zs (mixL (zmax B (cellL S k)) B k2)) → Row (V.setCell ⟨g2, k2, none⟩ (.int .i64 (if ((B[k2] : Nat) : Int) < (((cellL S k)[k2] : Nat) : Int) then (((cellL S k)[k2] : Nat) : Int) else ((B[k2] : Nat) : Int)))) g2 (zs (mixL (zmax B (cellL S k)) B (k2 + 1))) from fun V hV => by
                have := hV.set k2 (by rw [zs_len, mixL_len _ z2]; exact h2) (((zmax B (cellL S k))[k2]'(by omega) : Nat) : Int)
                rw [m2, ← mixL_set k2 z2 h2]
                have e : zs ((mixL (zmax B (cellL S k)) B k2).set k2 ((zmax B (cellL S k))[k2]'(by omega))) = (zs (mixL (zmax B (cellL S k)) B k2)).set k2 (((zmax B (cellL S k))[k2]'(by omega) : Nat) : Int) := by unfold zs; rw [List.map_set]
                rw [e]; exact this)
              have HRR := hid hr
              have HOO := hid ho
              have hsl := HSL.out
              clear hg hr ho m1 m2 z1 z2
              generalize (((cellL S k)[k2] : Nat) : Int) = Z at *
              generalize ((A[k2] : Nat) : Int) = X at *
              generalize ((B[k2] : Nat) : Int) = U at *
              have q0 : wi.cell? ⟨g3, k2, none⟩ = some (.int .i64 Z) := d1
              have q1 : (wi.setCell ⟨g1, k2, none⟩ (.int .i64 (if Z < X then Z else X))).cell? ⟨g3, k2, none⟩ = some (.int .i64 Z) := (World.cell?_of_block (heap_setCell_other _ _ _ _ (by show g3 ≠ g1; omega))).trans d1
              have v3 : (wi.setCell ⟨g1, k2, none⟩ (.int .i64 (if Z < X then Z else X))).cell? ⟨g2, k2, none⟩ = some (.int .i64 U) := (World.cell?_of_block (heap_setCell_other _ _ _ _ (by show g2 ≠ g1; omega))).trans d3
              have w3' : (wi.setCell ⟨g1, k2, none⟩ (.int .i64 (if Z < X then Z else X))).frozen? ⟨g2, k2, none⟩ = false := by rw [World.frozen?_setCell]; exact f3
              have HV := hid (And.intro v3 (And.intro q1 w3'))
              have HON := hid (show Onl (fun j => j = g1 ∨ j = g2) wi ((wi.setCell ⟨g1, k2, none⟩ (.int .i64 (if Z < X then Z else X))).setCell ⟨g2, k2, none⟩ (.int .i64 (if U < Z then Z else U))) from ⟨rfl, rfl, rfl, by rw [World.size_setCell, World.size_setCell]; exact Nat.le_refl _, fun j _ hj => by rw [heap_setCell_other _ _ _ _ (fun e => hj (.inr e)), heap_setCell_other _ _ _ _ (fun e => hj (.inl e))]⟩)
              clear d3 f3 v3 w3'
              go_wp2_with fail
              refine wp_region_held_drew (S := (fun V => V.cell? ⟨g3, k2, none⟩ = some (.int .i64 Z))) (by kernel_rfl) (by exact q0) (fun hHeld => ?_)
              refine wpAnyH_take (i := 0) (oi := { dst := some 55, op := Op.move (Operand.tmp 7), type := 22, pos := "ref.go:27", after := #[], guard := none }) (v := ?vya0) rfl (by kernel_rfl) (by kernel_rfl) (by kernel_rfl) (fun _ _ _ h => h) (Or.inl ⟨by rfl, ?hyya0⟩) (by assumption) ?restya0
              case hyya0 => (intro w hSw; (try dsimp only at hSw); go_simp; (try with_reducible rfl))
              simp only [Act.put, List.setIfInBounds_toArray, List.set_cons_zero, List.set_cons_succ]
              refine wpAnyH_take (i := 1) (oi := { dst := some 56, op := Op.move (Operand.tmp 12), type := 3, pos := "ref.go:27", after := #[], guard := none }) (v := ?vya1) rfl (by kernel_rfl) (by kernel_rfl) (by kernel_rfl) (fun _ _ _ h => h) (Or.inl ⟨by rfl, ?hyya1⟩) (by assumption) ?restya1
              case hyya1 => (intro w hSw; (try dsimp only at hSw); go_simp; (try with_reducible rfl))
              simp only [Act.put, List.setIfInBounds_toArray, List.set_cons_zero, List.set_cons_succ]
              refine wpAnyH_take (i := 2) (oi := { dst := some 57, op := Op.move (Operand.tmp 7), type := 22, pos := "ref.go:27", after := #[], guard := none }) (v := ?vya2) rfl (by kernel_rfl) (by kernel_rfl) (by kernel_rfl) (fun _ _ _ h => h) (Or.inl ⟨by rfl, ?hyya2⟩) (by assumption) ?restya2
              case hyya2 => (intro w hSw; (try dsimp only at hSw); go_simp; (try with_reducible rfl))
              simp only [Act.put, List.setIfInBounds_toArray, List.set_cons_zero, List.set_cons_succ]
              refine wpAnyH_take (i := 3) (oi := { dst := some 58, op := Op.move (Operand.tmp 12), type := 3, pos := "ref.go:27", after := #[], guard := none }) (v := ?vya3) rfl (by kernel_rfl) (by kernel_rfl) (by kernel_rfl) (fun _ _ _ h => h) (Or.inl ⟨by rfl, ?hyya3⟩) (by assumption) ?restya3
              case hyya3 => (intro w hSw; (try dsimp only at hSw); go_simp; (try with_reducible rfl))
              simp only [Act.put, List.setIfInBounds_toArray, List.set_cons_zero, List.set_cons_succ]
              refine wpAnyH_take (i := 4) (oi := { dst := some 59, op := Op.indexAddr 22 (Operand.tmp 57) (Operand.tmp 58), type := 0, pos := "ref.go:27", after := #[{ on := 2, ground := Ground.data }, { on := 3, ground := Ground.data }], guard := none }) (v := ?vya4) rfl (by kernel_rfl) (by kernel_rfl) (by kernel_rfl) (fun _ _ _ h => h) (Or.inl ⟨by rfl, ?hyya4⟩) (by assumption) ?restya4
              case hyya4 => (intro w hSw; (try dsimp only at hSw); go_simp; (try with_reducible rfl))
              simp only [Act.put, List.setIfInBounds_toArray, List.set_cons_zero, List.set_cons_succ]
              refine wpAnyH_take (i := 6) (oi := { dst := some 61, op := Op.move (Operand.tmp 11), type := 22, pos := "ref.go:27", after := #[], guard := none }) (v := ?vya6) rfl (by kernel_rfl) (by kernel_rfl) (by kernel_rfl) (fun _ _ _ h => h) (Or.inl ⟨by rfl, ?hyya6⟩) (by assumption) ?restya6
              case hyya6 => (intro w hSw; (try dsimp only at hSw); go_simp; (try with_reducible rfl))
              simp only [Act.put, List.setIfInBounds_toArray, List.set_cons_zero, List.set_cons_succ]
              refine wpAnyH_take (i := 7) (oi := { dst := some 62, op := Op.move (Operand.tmp 12), type := 3, pos := "ref.go:27", after := #[], guard := none }) (v := ?vya7) rfl (by kernel_rfl) (by kernel_rfl) (by kernel_rfl) (fun _ _ _ h => h) (Or.inl ⟨by rfl, ?hyya7⟩) (by assumption) ?restya7
              case hyya7 => (intro w hSw; (try dsimp only at hSw); go_simp; (try with_reducible rfl))
              simp only [Act.put, List.setIfInBounds_toArray, List.set_cons_zero, List.set_cons_succ]
              refine wpAnyH_take (i := 8) (oi := { dst := some 63, op := Op.indexAddr 22 (Operand.tmp 61) (Operand.tmp 62), type := 0, pos := "ref.go:27", after := #[{ on := 6, ground := Ground.data }, { on := 7, ground := Ground.data }], guard := none }) (v := ?vya8) rfl (by kernel_rfl) (by kernel_rfl) (by kernel_rfl) (fun _ _ _ h => h) (Or.inl ⟨by rfl, ?hyya8⟩) (by assumption) ?restya8
              case hyya8 => (intro w hSw; (try dsimp only at hSw); go_simp; (try with_reducible rfl))
              simp only [Act.put, List.setIfInBounds_toArray, List.set_cons_zero, List.set_cons_succ]
              refine wpAnyH_take (i := 9) (oi := { dst := some 64, op := Op.load 3 (Operand.tmp 63), type := 3, pos := "ref.go:27", after := #[{ on := 8, ground := Ground.data }], guard := none }) (v := ?vya9) rfl (by kernel_rfl) (by kernel_rfl) (by kernel_rfl) (fun _ _ _ h => h) (Or.inl ⟨by rfl, ?hyya9⟩) (by assumption) ?restya9
              case hyya9 => (intro w hSw; (try dsimp only at hSw); go_simp; (try with_reducible rfl))
              simp only [Act.put, List.setIfInBounds_toArray, List.set_cons_zero, List.set_cons_succ]
              refine wpAnyH_ready (rs := [5]) (by kernel_rfl) (by simp) (AllReadyH.cons (o := { dst := some 60, op := Op.load 3 (Operand.tmp 59), type := 3, pos := "ref.go:27", after := #[{ on := 4, ground := Ground.data }], guard := none }) rfl (fun K hK => ?_) AllReadyH.nil)
              go_simp
              refine hK.out _ _ q0 (fun hHeld => ?_)
              clear hK K
              refine wpAnyH_take (i := 10) (oi := { dst := some 65, op := Op.call { callee := Callee.builtin Builtin.min, args := #[Operand.tmp 60, Operand.tmp 64], argTypes := #[3, 3] }, type := 3, pos := "ref.go:27", after := #[{ on := 5, ground := Ground.data }, { on := 9, ground := Ground.data }], guard := none }) (v := ?vya10) rfl (by kernel_rfl) (by kernel_rfl) (by kernel_rfl) (fun _ _ _ h => h) (Or.inl ⟨by rfl, ?hyya10⟩) (by assumption) ?restya10
              case hyya10 => (intro w hSw; (try dsimp only at hSw); go_simp; (try with_reducible rfl))
              simp only [Act.put, List.setIfInBounds_toArray, List.set_cons_zero, List.set_cons_succ]
              refine wpAnyH_take (i := 11) (oi := { dst := some 66, op := Op.indexAddr 22 (Operand.tmp 55) (Operand.tmp 56), type := 0, pos := "ref.go:27", after := #[{ on := 0, ground := Ground.data }, { on := 1, ground := Ground.data }, { on := 0, ground := Ground.phase }, { on := 1, ground := Ground.phase }, { on := 2, ground := Ground.phase }, { on := 3, ground := Ground.phase }, { on := 4, ground := Ground.phase }, { on := 5, ground := Ground.phase }, { on := 6, ground := Ground.phase }, { on := 7, ground := Ground.phase }, { on := 8, ground := Ground.phase }, { on := 9, ground := Ground.phase }, { on := 10, ground := Ground.phase }], guard := none }) (v := ?vya11) rfl (by kernel_rfl) (by kernel_rfl) (by kernel_rfl) (fun _ _ _ h => h) (Or.inl ⟨by rfl, ?hyya11⟩) (by assumption) ?restya11
              case hyya11 => (intro w hSw; (try dsimp only at hSw); go_simp; (try with_reducible rfl))
              simp only [Act.put, List.setIfInBounds_toArray, List.set_cons_zero, List.set_cons_succ]
              refine wpAnyH_ready (rs := [12]) (by kernel_rfl) (by simp) (AllReadyH.cons (o := { dst := none, op := Op.store 3 (Operand.tmp 66) (Operand.tmp 65), type := 0, pos := "ref.go:27", after := #[{ on := 11, ground := Ground.data }, { on := 10, ground := Ground.data }, { on := 0, ground := Ground.phase }, { on := 1, ground := Ground.phase }, { on := 2, ground := Ground.phase }, { on := 3, ground := Ground.phase }, { on := 4, ground := Ground.phase }, { on := 5, ground := Ground.phase }, { on := 6, ground := Ground.phase }, { on := 7, ground := Ground.phase }, { on := 8, ground := Ground.phase }, { on := 9, ground := Ground.phase }, { on := 10, ground := Ground.phase }], guard := none }) rfl (fun K hK => ?_) AllReadyH.nil)
              go_simp
              refine hK.out _ _ q1 (fun hHeld => ?_)
              clear hK K
              refine wpAnyH_done (by kernel_rfl) ?_ _
              obtain ⟨v3, v4, w3'⟩ := HV.out
              clear q0 q1 d1 d2 f2
              generalize (if Z < X then Z else X) = M at *
              have q0 := v4
              have q1 : ((wi.setCell ⟨g1, k2, none⟩ (.int .i64 M)).setCell ⟨g2, k2, none⟩ (.int .i64 (if U < Z then Z else U))).cell? ⟨g3, k2, none⟩ = some (.int .i64 Z) := (World.cell?_of_block (heap_setCell_other _ _ _ _ (by show g3 ≠ g2; omega))).trans v4
              go_wp2_with fail
              refine wp_region_held_drew (S := (fun V => V.cell? ⟨g3, k2, none⟩ = some (.int .i64 Z))) (by kernel_rfl) (by exact q0) (fun hHeld => ?_)
              refine wpAnyH_take (i := 0) (oi := { dst := some 67, op := Op.move (Operand.tmp 8), type := 22, pos := "ref.go:28", after := #[], guard := none }) (v := ?vyb0) rfl (by kernel_rfl) (by kernel_rfl) (by kernel_rfl) (fun _ _ _ h => h) (Or.inl ⟨by rfl, ?hyyb0⟩) (by assumption) ?restyb0
              case hyyb0 => (intro w hSw; (try dsimp only at hSw); go_simp; (try with_reducible rfl))
              simp only [Act.put, List.setIfInBounds_toArray, List.set_cons_zero, List.set_cons_succ]
              refine wpAnyH_take (i := 1) (oi := { dst := some 68, op := Op.move (Operand.tmp 12), type := 3, pos := "ref.go:28", after := #[], guard := none }) (v := ?vyb1) rfl (by kernel_rfl) (by kernel_rfl) (by kernel_rfl) (fun _ _ _ h => h) (Or.inl ⟨by rfl, ?hyyb1⟩) (by assumption) ?restyb1
              case hyyb1 => (intro w hSw; (try dsimp only at hSw); go_simp; (try with_reducible rfl))
              simp only [Act.put, List.setIfInBounds_toArray, List.set_cons_zero, List.set_cons_succ]
              refine wpAnyH_take (i := 2) (oi := { dst := some 69, op := Op.move (Operand.tmp 8), type := 22, pos := "ref.go:28", after := #[], guard := none }) (v := ?vyb2) rfl (by kernel_rfl) (by kernel_rfl) (by kernel_rfl) (fun _ _ _ h => h) (Or.inl ⟨by rfl, ?hyyb2⟩) (by assumption) ?restyb2
              case hyyb2 => (intro w hSw; (try dsimp only at hSw); go_simp; (try with_reducible rfl))
              simp only [Act.put, List.setIfInBounds_toArray, List.set_cons_zero, List.set_cons_succ]
              refine wpAnyH_take (i := 3) (oi := { dst := some 70, op := Op.move (Operand.tmp 12), type := 3, pos := "ref.go:28", after := #[], guard := none }) (v := ?vyb3) rfl (by kernel_rfl) (by kernel_rfl) (by kernel_rfl) (fun _ _ _ h => h) (Or.inl ⟨by rfl, ?hyyb3⟩) (by assumption) ?restyb3
              case hyyb3 => (intro w hSw; (try dsimp only at hSw); go_simp; (try with_reducible rfl))
              simp only [Act.put, List.setIfInBounds_toArray, List.set_cons_zero, List.set_cons_succ]
              refine wpAnyH_take (i := 4) (oi := { dst := some 71, op := Op.indexAddr 22 (Operand.tmp 69) (Operand.tmp 70), type := 0, pos := "ref.go:28", after := #[{ on := 2, ground := Ground.data }, { on := 3, ground := Ground.data }], guard := none }) (v := ?vyb4) rfl (by kernel_rfl) (by kernel_rfl) (by kernel_rfl) (fun _ _ _ h => h) (Or.inl ⟨by rfl, ?hyyb4⟩) (by assumption) ?restyb4
              case hyyb4 => (intro w hSw; (try dsimp only at hSw); go_simp; (try with_reducible rfl))
              simp only [Act.put, List.setIfInBounds_toArray, List.set_cons_zero, List.set_cons_succ]
              refine wpAnyH_take (i := 6) (oi := { dst := some 73, op := Op.move (Operand.tmp 11), type := 22, pos := "ref.go:28", after := #[], guard := none }) (v := ?vyb6) rfl (by kernel_rfl) (by kernel_rfl) (by kernel_rfl) (fun _ _ _ h => h) (Or.inl ⟨by rfl, ?hyyb6⟩) (by assumption) ?restyb6
              case hyyb6 => (intro w hSw; (try dsimp only at hSw); go_simp; (try with_reducible rfl))
              simp only [Act.put, List.setIfInBounds_toArray, List.set_cons_zero, List.set_cons_succ]
              refine wpAnyH_take (i := 7) (oi := { dst := some 74, op := Op.move (Operand.tmp 12), type := 3, pos := "ref.go:28", after := #[], guard := none }) (v := ?vyb7) rfl (by kernel_rfl) (by kernel_rfl) (by kernel_rfl) (fun _ _ _ h => h) (Or.inl ⟨by rfl, ?hyyb7⟩) (by assumption) ?restyb7
              case hyyb7 => (intro w hSw; (try dsimp only at hSw); go_simp; (try with_reducible rfl))
              simp only [Act.put, List.setIfInBounds_toArray, List.set_cons_zero, List.set_cons_succ]
              refine wpAnyH_take (i := 8) (oi := { dst := some 75, op := Op.indexAddr 22 (Operand.tmp 73) (Operand.tmp 74), type := 0, pos := "ref.go:28", after := #[{ on := 6, ground := Ground.data }, { on := 7, ground := Ground.data }], guard := none }) (v := ?vyb8) rfl (by kernel_rfl) (by kernel_rfl) (by kernel_rfl) (fun _ _ _ h => h) (Or.inl ⟨by rfl, ?hyyb8⟩) (by assumption) ?restyb8
              case hyyb8 => (intro w hSw; (try dsimp only at hSw); go_simp; (try with_reducible rfl))
              simp only [Act.put, List.setIfInBounds_toArray, List.set_cons_zero, List.set_cons_succ]
              refine wpAnyH_take (i := 9) (oi := { dst := some 76, op := Op.load 3 (Operand.tmp 75), type := 3, pos := "ref.go:28", after := #[{ on := 8, ground := Ground.data }], guard := none }) (v := ?vyb9) rfl (by kernel_rfl) (by kernel_rfl) (by kernel_rfl) (fun _ _ _ h => h) (Or.inl ⟨by rfl, ?hyyb9⟩) (by assumption) ?restyb9
              case hyyb9 => (intro w hSw; (try dsimp only at hSw); go_simp; (try with_reducible rfl))
              simp only [Act.put, List.setIfInBounds_toArray, List.set_cons_zero, List.set_cons_succ]
              refine wpAnyH_ready (rs := [5]) (by kernel_rfl) (by simp) (AllReadyH.cons (o := { dst := some 72, op := Op.load 3 (Operand.tmp 71), type := 3, pos := "ref.go:28", after := #[{ on := 4, ground := Ground.data }], guard := none }) rfl (fun K hK => ?_) AllReadyH.nil)
              go_simp
              refine hK.out _ _ q0 (fun hHeld => ?_)
              clear hK K
              refine wpAnyH_take (i := 10) (oi := { dst := some 77, op := Op.call { callee := Callee.builtin Builtin.max, args := #[Operand.tmp 72, Operand.tmp 76], argTypes := #[3, 3] }, type := 3, pos := "ref.go:28", after := #[{ on := 5, ground := Ground.data }, { on := 9, ground := Ground.data }], guard := none }) (v := ?vyb10) rfl (by kernel_rfl) (by kernel_rfl) (by kernel_rfl) (fun _ _ _ h => h) (Or.inl ⟨by rfl, ?hyyb10⟩) (by assumption) ?restyb10
              case hyyb10 => (intro w hSw; (try dsimp only at hSw); go_simp; (try with_reducible rfl))
              simp only [Act.put, List.setIfInBounds_toArray, List.set_cons_zero, List.set_cons_succ]
              refine wpAnyH_take (i := 11) (oi := { dst := some 78, op := Op.indexAddr 22 (Operand.tmp 67) (Operand.tmp 68), type := 0, pos := "ref.go:28", after := #[{ on := 0, ground := Ground.data }, { on := 1, ground := Ground.data }, { on := 0, ground := Ground.phase }, { on := 1, ground := Ground.phase }, { on := 2, ground := Ground.phase }, { on := 3, ground := Ground.phase }, { on := 4, ground := Ground.phase }, { on := 5, ground := Ground.phase }, { on := 6, ground := Ground.phase }, { on := 7, ground := Ground.phase }, { on := 8, ground := Ground.phase }, { on := 9, ground := Ground.phase }, { on := 10, ground := Ground.phase }], guard := none }) (v := ?vyb11) rfl (by kernel_rfl) (by kernel_rfl) (by kernel_rfl) (fun _ _ _ h => h) (Or.inl ⟨by rfl, ?hyyb11⟩) (by assumption) ?restyb11
              case hyyb11 => (intro w hSw; (try dsimp only at hSw); go_simp; (try with_reducible rfl))
              simp only [Act.put, List.setIfInBounds_toArray, List.set_cons_zero, List.set_cons_succ]
              refine wpAnyH_ready (rs := [12]) (by kernel_rfl) (by simp) (AllReadyH.cons (o := { dst := none, op := Op.store 3 (Operand.tmp 78) (Operand.tmp 77), type := 0, pos := "ref.go:28", after := #[{ on := 11, ground := Ground.data }, { on := 10, ground := Ground.data }, { on := 0, ground := Ground.phase }, { on := 1, ground := Ground.phase }, { on := 2, ground := Ground.phase }, { on := 3, ground := Ground.phase }, { on := 4, ground := Ground.phase }, { on := 5, ground := Ground.phase }, { on := 6, ground := Ground.phase }, { on := 7, ground := Ground.phase }, { on := 8, ground := Ground.phase }, { on := 9, ground := Ground.phase }, { on := 10, ground := Ground.phase }], guard := none }) rfl (fun K hK => ?_) AllReadyH.nil)
              go_simp
              refine hK.out _ _ q1 (fun hHeld => ?_)
              clear hK K
              refine wpAnyH_done (by kernel_rfl) ?_ _
              generalize (if U < Z then Z else U) = M2 at *
              go_wp2_with fail
              go_roundw
              case rel =>
                exact ⟨k2 + 1, by omega, by go_num, HS1.out.keep (heap_setCell_other _ _ _ _ (by show g1 ≠ g2; omega)), HS2.out _ (HRR.out.keep (heap_setCell_other _ _ _ _ (by show g2 ≠ g1; omega))), HOO.out.trans (Onl.drew (Onl.drew HON.out))⟩
              case measure => simp [intOf]; omega
            · obtain rfl : k2 = S.length := by omega
              have e1 : mixL (zmin A (cellL S k)) A S.length = zmin A (cellL S k) := by rw [← HLA.out]; exact mixL_all (zmin_len (by rw [HLA.out, cellL_length]))
              have e2 : mixL (zmax B (cellL S k)) B S.length = zmax B (cellL S k) := by rw [← HLB.out]; exact mixL_all (zmax_len (by rw [HLB.out, cellL_length]))
              rw [e1] at hg
              rw [e2] at hr
              have HG := hid hg; have HR := hid hr; have HO := hid ho
              clear e1 e2 hg hr ho
              go_wp2_with fail
              go_roundw
              case rel =>
                refine ⟨k + 1, by omega, by go_num, by rw [HP.out, List.length_append, HLL.out]; simp, ?_, HBE.out.trans (HO.out.below HBE.out.size (fun j hj => by have := HGE.out; rcases hj with rfl | rfl <;> omega))⟩
                rw [HP.out]
                have hge := HGE.out
                exact .inr ⟨by simp, g1, g2, k1, k3, rfl, rfl, by have := HNE.out; omega, by omega, by omega, by rw [boxF_snoc _ _ _ HPS.out]; show Row _ g1 (zs (zmin (boxF S (plc C k n)).1 (cellL S k))); rw [HAB.out.1]; exact HG.out, by rw [boxF_snoc _ _ _ HPS.out]; show Row _ g2 (zs (zmax (boxF S (plc C k n)).2 (cellL S k))); rw [HAB.out.2]; exact HR.out⟩
              case measure => simp [intOf]; omega
      · have HP := hid (plc_no C k n (fun e => hx (hg.symm.trans e)))
        have e1 : (C[k] != n) = true := by simpa using hx
        generalize C[k] = x at d0 e1
        clear hlay hb hg hx hrb
        go_wp2_with fail
        go_roundw
        case rel => exact ⟨k + 1, by omega, by go_num, by rw [HP.out], by rw [HP.out]; exact HLY.out, HBW.out⟩
        case measure => simp [intOf]; omega
    · obtain rfl : k = C.length := by omega
      have hpl := plc_len C C.length n
      clear hlay hb hrb
      rcases HLY.out with ⟨hps, rfl, rfl⟩ | ⟨hps, g1, g2, k1, k3, rfl, rfl, hne, hg1, hg2, hr1, hr2⟩
      · have HFN := hid (show filledL S (plc C C.length n) = none by unfold filledL; rw [if_neg (fun e => e.1 hps)])
        rw [hps]
        clear hps hpl
        go_wp2_with fail
        refine wp_loop_rounds 1 ?_
        rw [rounds_succ]
        go_wp2_with fail
        go_ret3
        rw [HFN.out]
        exact FRet.none HBW.out
      · have hrng := boxF_rng HF.out.pos hps
        have hbx : filledL S (plc C C.length n) = if countL (boxF S (plc C C.length n)).1 (boxF S (plc C C.length n)).2 = (plc C C.length n).length then some (boxF S (plc C C.length n)) else none := by
          unfold filledL; simp [hps]
        have hL1 : 1 ≤ (plc C C.length n).length := List.length_pos_iff.2 hps
        obtain ⟨L, hL⟩ : ∃ L, (plc C C.length n).length = L := ⟨_, rfl⟩
        obtain ⟨LO, HI, hLH⟩ : ∃ LO HI, boxF S (plc C C.length n) = (LO, HI) := ⟨_, _, rfl⟩
        rw [hLH] at hr1 hr2 hrng hbx
        dsimp only at hr1 hr2 hrng hbx
        rw [hL] at hbx hL1 hpl ⊢
        have hlo : LO.length = S.length := (okC_len hrng.okl).symm
        have hhi : HI.length = S.length := (okC_len hrng.okh).symm
        have HR1 := hid hr1; have HR2 := hid hr2; have HRG := hid hrng; have HBX := hid hbx
        have HLL := hid hlo; have HHL := hid hhi
        have HM := hid HF.out.most
        have HSP := hid HF.out.pos
        have hsl := HSL.out
        clear hps hne hg1 hg2 hr1 hr2 hrng hbx hL hLH hlo hhi y0
        go_wp2_with fail
        go_loopw [13, 14] (fun x i wz => ∃ k2 N : Nat, k2 ≤ S.length ∧ i = .int .i64 (k2 : Int) ∧ x = .int .i64 ((countL (LO.take k2) (HI.take k2) : Nat) : Int) ∧ wz = wr.drewN N) (fun _ i _ => S.length - (intOf i).toNat)
        case atStart => exact ⟨0, 0, Nat.zero_le _, rfl, by simp [countL], rfl⟩
        case round =>
          obtain ⟨k2, N, hk2, rfl, rfl, rfl⟩ := hrel
          by_cases hlt2 : k2 < S.length
          · have h1 : k2 < LO.length := by rw [HLL.out]; exact hlt2
            have h2 : k2 < HI.length := by rw [HHL.out]; exact hlt2
            have d1 := getI HR1.out k2 h1
            have d2 := getI HR2.out k2 h2
            obtain ⟨a1, a2⟩ := HRG.out.at k2 h1 h2
            have hm := HM.out
            have m1 := Nat.le_trans (countL_take HSP.out HRG.out (k2 + 1)) hm
            have HT := hid (countL_snoc LO HI k2 h1 h2)
            generalize LO[k2] = x at d1 a1 HT
            generalize HI[k2] = y at d2 a1 a2 HT
            generalize countL (LO.take k2) (HI.take k2) = m at HT ⊢
            have HMM := hid (show m * (y + 1 - x) ≤ 4096 by rw [← HT.out]; exact m1)
            have e1 := hid (show wrap64 ((m : Int) * ((y : Int) - (x : Int) + 1)) = ((m * (y + 1 - x) : Nat) : Int) by
              have : (y : Int) - (x : Int) + 1 = ((y + 1 - x : Nat) : Int) := by omega
              rw [this, ← Int.natCast_mul]; exact Go.IntWalk.wrap64_in _ (by have := HMM.out; omega))
            clear m1
            go_wp2_with fail
            go_quiet (fail)
            go_wp2_with fail
            go_roundw
            case rel => exact ⟨k2 + 1, _, by omega, by go_num, by rw [HT.out, ← e1.out], rfl⟩
            case measure => simp [intOf]; omega
          · obtain rfl : k2 = S.length := by omega
            have hcm := Nat.le_trans (countL_take HSP.out HRG.out S.length) HM.out
            rw [List.take_of_length_le (by rw [HLL.out]; exact Nat.le_refl _), List.take_of_length_le (by rw [HHL.out]; exact Nat.le_refl _)] at hcm ⊢
            have hbx := HBX.out
            generalize countL LO HI = N2 at *
            have HX := hid hbx
            clear hbx
            by_cases hN : N2 = L
            · subst hN
              rw [if_pos rfl] at HX
              have e5 : (((N2 : Nat) : Int) == 0) = false := by rw [beq_eq_false_iff_ne]; omega
              have e6 : ¬ N2 = 0 := by omega
              go_wp2_with fail
              go_ret3
              rw [HX.out]
              exact ⟨some ⟨g1, 0, none⟩, some ⟨g2, 0, none⟩, k1, k3, by show Ending.returned (.tuple #[.slice (some ⟨g1, 0, none⟩) S.length k1, .slice (some ⟨g2, 0, none⟩) S.length k3, .bool true]) = Ending.returned (.tuple #[.slice (some ⟨g1, 0, none⟩) LO.length k1, .slice (some ⟨g2, 0, none⟩) HI.length k3, .bool true]); rw [HLL.out, HHL.out], HR1.out.cells, HR2.out.cells, below_drewN HBW.out N⟩
            · rw [if_neg hN] at HX
              have e5 : (((L : Nat) : Int) == 0) = false := by rw [beq_eq_false_iff_ne]; omega
              have e6 : ¬ L = 0 := by omega
              have e7 : (((N2 : Nat) : Int) != ((L : Nat) : Int)) = true := by simp; omega
              have e8 : ¬ N2 = L := hN
              go_wp2_with fail
              go_ret3
              rw [HX.out]
              exact FRet.none (below_drewN HBW.out N)
end Go.Proofs.Ytnmhdlincgefeaa.Rg
