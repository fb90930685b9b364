/- size and widen of region. -/
import Derived.Test.YtnmhdlincgefeaaRgMath
import Derived.Test.YtnmhdlincgefeaaSlUniR
import Derived.Test.YtnmhdlincgefeaaPtHalf
namespace Go.Proofs.Ytnmhdlincgefeaa.Rg
open Go.RowKit
open Go.Lib (hid)
open Go.Proofs.Ytnmhdlincgefeaa.Sl
open Go.Proofs.Ytnmhdlincgefeaa.Ky (Pt)
open Go.Proofs.Ytnmhdlincgefeaa.Pt (Rw)

theorem getI {w : World} {g : Nat} {l : List Nat} (h : Row w g (zs l)) (k : Nat) (hk : k < l.length) : w.cell? ⟨g, k, none⟩ = some (.int .i64 ((l[k] : Nat) : Int)) := by
  have := h.cell k (by rw [zs_len]; exact hk)
  rw [this]; simp [zs]
theorem atI {w : World} {p : Option Addr} {l : List Nat} (h : CellsAt w p (iv (zs l))) (k : Nat) (hk : k < l.length) : ∃ b off, p = some ⟨b, off, none⟩ ∧ b < w.heap.size ∧ w.cell? ⟨b, off + k, none⟩ = some (.int .i64 ((l[k] : Nat) : Int)) := by
  obtain ⟨b, off, e, hlt, hc⟩ := h k (by rw [iv_length, zs_len]; exact hk)
  exact ⟨b, off, e, hlt, by rw [hc]; simp [iv, zs]⟩
theorem _root_.Go.Proofs.Ytnmhdlincgefeaa.Sl.Onl.drew {F : Nat → Prop} {a b : World} (h : Onl F a b) : Onl F a b.drew := ⟨h.os, h.tape, h.output, h.size, h.block⟩
set_option maxRecDepth 100000 in
set_option maxHeartbeats 2000000 in
/-- how many cells are in a range -/
theorem size_ok (S lo hi : List Nat) (p q : Option Addr) (c c' : Nat) (w : World) (hR : Rng S lo hi) (hS : ∀ s ∈ S, 0 < s) (hm : prodL S ≤ 4096) (hl : S.length ≤ 6) (hp : CellsAt w p (iv (zs lo))) (hq : CellsAt w q (iv (zs hi))) :
    Calls Try.prog 42 #[.slice p lo.length c, .slice q hi.length c'] w fun e w' => e = .returned (.int .i64 ((countL lo hi : Nat) : Int)) ∧ ∃ n, w' = w.drewN n := by
  have HL := hid (show lo.length = hi.length from hR.len)
  have HC := hid (fun k => Nat.le_trans (countL_take hS hR k) hm)
  have HA := hid (fun k (h1 : k < lo.length) (h2 : k < hi.length) => (And.intro (hR.at k h1 h2).1 (Nat.le_trans (hR.at k h1 h2).2 hm)))
  have HS := hid (fun k (h1 : k < lo.length) (h2 : k < hi.length) => countL_snoc lo hi k h1 h2)
  have HP := hid hp
  have HQ := hid hq
  have HN := hid (show lo.length ≤ 6 by have := okC_len hR.okl; omega)
  obtain ⟨n, hn⟩ : ∃ n, lo.length = n := ⟨_, rfl⟩
  have hn6 : n ≤ 6 := by rw [← hn]; exact HN.out
  rw [← HL.out, hn]
  have HE := hid hn
  clear hp hq hR hn
  go_enter Try.func42, Try.ntmps42
  go_wp2_with fail
  go_loopw [5, 9] (fun x i wr => ∃ k N : Nat, k ≤ n ∧ i = .int .i64 (k : Int) ∧ x = .int .i64 ((countL (lo.take k) (hi.take k) : Nat) : Int) ∧ wr = w.drewN N) (fun _ i _ => n - (intOf i).toNat)
  case atStart => exact ⟨0, 0, Nat.zero_le _, rfl, by simp [countL], rfl⟩
  case round =>
    obtain ⟨k, N, hk, rfl, rfl, rfl⟩ := hrel
    by_cases hlt : k < n
    · have h1 : k < lo.length := by rw [HE.out]; exact hlt
      have h2 : k < hi.length := by rw [← HL.out]; exact h1
      obtain ⟨b1, o1, rfl, lt1, c1⟩ := atI HP.out k h1
      obtain ⟨b2, o2, rfl, lt2, c2⟩ := atI HQ.out k h2
      obtain ⟨a1, a2⟩ := HA.out k h1 h2
      have m0 := HC.out k
      have m1 := HC.out (k + 1)
      have HT := hid (HS.out k h1 h2)
      have d1 : w.cell? ⟨b1, o1 + k, none⟩ = some (.int .i64 ((lo[k] : Nat) : Int)) := c1
      have d2 : w.cell? ⟨b2, o2 + k, none⟩ = some (.int .i64 ((hi[k] : Nat) : Int)) := c2
      clear c1 c2
      generalize lo[k] = x at d1 a1 HT
      generalize hi[k] = y at d2 a1 a2 HT
      generalize countL (lo.take k) (hi.take k) = m at m0 HT ⊢
      have HM := hid (show m * (y + 1 - x) ≤ 4096 by rw [← HT.out]; exact m1)
      have e1 := hid (show wrap64 ((m : Int) * ((y : Int) - (x : Int) + 1)) = ((m * (y + 1 - x) : Nat) : Int) by
        have : (y : Int) - (x : Int) + 1 = ((y + 1 - x : Nat) : Int) := by omega
        rw [this, ← Int.natCast_mul]; exact Go.IntWalk.wrap64_in _ (by have := HM.out; omega))
      clear m1
      go_wp2_with fail
      go_quiet (fail)
      go_wp2_with fail
      go_roundw
      case rel => exact ⟨k + 1, _, by omega, by go_num, by rw [HT.out, ← e1.out], rfl⟩
      case measure => simp [intOf]; omega
    · obtain rfl : k = n := by omega
      have HF := hid (show countL (lo.take k) (hi.take k) = countL lo hi by
        rw [← HE.out, List.take_length, HL.out, List.take_length])
      go_wp2_with fail
      go_ret
      refine ⟨?_, _, rfl⟩
      rw [← HF.out]; rfl
set_option maxRecDepth 100000 in
set_option maxHeartbeats 2000000 in
/-- a range made so wide that it has a cell -/
theorem widenI_ok (lo hi c d : List Nat) (g h : Nat) (p q : Option Addr) (cl ch cc cd : Nat) (w : World) (hl : lo.length = c.length) (hh : hi.length = d.length) (hcd : c.length = d.length) (hn : c.length ≤ 1000) (hg : Row w g (zs lo)) (hr : Row w h (zs hi)) (hne : g ≠ h) (hp : CellsAt w p (iv (zs c))) (hq : CellsAt w q (iv (zs d))) (hD : ∀ b off, p = some ⟨b, off, none⟩ → b ≠ g ∧ b ≠ h) (hE : ∀ b off, q = some ⟨b, off, none⟩ → b ≠ g ∧ b ≠ h) :
    Calls Try.prog 41 #[.slice (some ⟨g, 0, none⟩) lo.length cl, .slice (some ⟨h, 0, none⟩) hi.length ch, .slice p c.length cc, .slice q d.length cd] w fun e w' => e = .returned (.tuple #[]) ∧ Row w' g (zs (zmin lo c)) ∧ Row w' h (zs (zmax hi d)) ∧ Onl (fun k => k = g ∨ k = h) w w' := by
  obtain ⟨n, hcn⟩ : ∃ n, c.length = n := ⟨_, rfl⟩
  have HL := hid hl; have HH := hid (hh.trans hcd.symm); have HCN := hid hcn; have HDN := hid (hcd.symm.trans hcn); have HG := hid hg; have HR := hid hr; have HP := hid hp; have HQ := hid hq; have HD := hid hD; have HE := hid hE
  rw [hl, hh, ← hcd, hcn]
  rw [hcn] at hn
  have HN := hid hn
  clear hl hh hcd hcn hg hr hp hq hD hE hn
  go_enter Try.func41, Try.ntmps41
  go_wp2_with fail
  go_loopw [11] (fun i wr => ∃ k : Nat, k ≤ n ∧ i = .int .i64 (k : Int) ∧ Row wr g (zs (mixL (zmin lo c) lo k)) ∧ Row wr h (zs (mixL (zmax hi d) hi k)) ∧ Onl (fun k => k = g ∨ k = h) w wr) (fun i _ => n - (intOf i).toNat)
  case atStart => exact ⟨0, Nat.zero_le _, rfl, by rw [mixL_zero]; exact HG.out, by rw [mixL_zero]; exact HR.out, Onl.ofBelow (Below.refl _ _)⟩
  case round =>
    obtain ⟨k, hk, rfl, hg, hr, ho⟩ := hrel
    by_cases hlt : k < n
    · have h1 : k < lo.length := by have := HL.out; have := HCN.out; omega
      have h2 : k < hi.length := by have := HH.out; have := HCN.out; omega
      have h3 : k < c.length := by have := HCN.out; omega
      have h4 : k < d.length := by have := HDN.out; omega
      have z1 : (zmin lo c).length = lo.length := zmin_len HL.out
      have z2 : (zmax hi d).length = hi.length := zmax_len (by have := HH.out; have := HCN.out; have := HDN.out; omega)
      obtain ⟨b, o, rfl, lt, c1⟩ := atI HP.out k h3
      obtain ⟨b2, o2, rfl, lt2, c2⟩ := atI HQ.out k h4
      obtain ⟨ne1, ne2⟩ := HD.out b o rfl
      obtain ⟨ne3, ne4⟩ := HE.out b2 o2 rfl
      have hkN := HN.out
      have d1 : wr.cell? ⟨b, o + k, none⟩ = some (.int .i64 ((c[k] : Nat) : Int)) := (World.cell?_of_block (ho.block b lt (fun e => by rcases e with e | e; exact ne1 e; exact ne2 e))).trans c1
      have d4 : wr.cell? ⟨b2, o2 + k, none⟩ = some (.int .i64 ((d[k] : Nat) : Int)) := (World.cell?_of_block (ho.block b2 lt2 (fun e => by rcases e with e | e; exact ne3 e; exact ne4 e))).trans c2
      have d2 := getI hg k (by rw [mixL_len _ z1]; exact h1)
      rw [mixL_at k z1 h1] at d2
      have d3 := getI hr k (by rw [mixL_len _ z2]; exact h2)
      rw [mixL_at k z2 h2] at d3
      have f2 := hg.frozen k
      have f3 := hr.frozen k
      have m1 : (if ((c[k] : Nat) : Int) < ((lo[k] : Nat) : Int) then ((c[k] : Nat) : Int) else ((lo[k] : Nat) : Int)) = (((zmin lo c)[k]'(by omega) : Nat) : Int) := by rw [zmin_at k _ h1 h3]; split <;> omega
      have m2 : (if ((hi[k] : Nat) : Int) < ((d[k] : Nat) : Int) then ((d[k] : Nat) : Int) else ((hi[k] : Nat) : Int)) = (((zmax hi d)[k]'(by omega) : Nat) : Int) := by rw [zmax_at k _ h2 h4]; split <;> omega
      have HS1 := hid (show Row (wr.setCell ⟨g, k, none⟩ (.int .i64 (if ((c[k] : Nat) : Int) < ((lo[k] : Nat) : Int) then ((c[k] : Nat) : Int) else ((lo[k] : Nat) : Int)))) g (zs (mixL (zmin lo c) lo (k + 1))) by
        have := hg.set k (by rw [zs_len, mixL_len _ z1]; exact h1) (((zmin lo c)[k]'(by omega) : Nat) : Int)
        rw [m1, ← mixL_set k z1 h1]
        have e : zs ((mixL (zmin lo c) lo k).set k ((zmin lo c)[k]'(by omega))) = (zs (mixL (zmin lo c) lo k)).set k (((zmin lo c)[k]'(by omega) : Nat) : Int) := by unfold zs; rw [List.map_set]
        rw [e]; exact this)
      have HS2 := hid (show ∀ V : World, Row V h (zs (mixL (zmax hi d) hi k)) → Row (V.setCell ⟨h, k, none⟩ (.int .i64 (if ((hi[k] : Nat) : Int) < ((d[k] : Nat) : Int) then ((d[k] : Nat) : Int) else ((hi[k] : Nat) : Int)))) h (zs (mixL (zmax hi d) hi (k + 1))) from fun V hV => by
        have := hV.set k (by rw [zs_len, mixL_len _ z2]; exact h2) (((zmax hi d)[k]'(by omega) : Nat) : Int)
        rw [m2, ← mixL_set k z2 h2]
        have e : zs ((mixL (zmax hi d) hi k).set k ((zmax hi d)[k]'(by omega))) = (zs (mixL (zmax hi d) hi k)).set k (((zmax hi d)[k]'(by omega) : Nat) : Int) := by unfold zs; rw [List.map_set]
        rw [e]; exact this)
      have HRR := hid hr
      have HHL := hid hg.lt
      have HOO := hid ho
      clear hg hr ho c1 c2 m1 m2 z1 z2
      generalize ((c[k] : Nat) : Int) = Z at *
      generalize ((d[k] : Nat) : Int) = Y at *
      generalize ((lo[k] : Nat) : Int) = X at *
      generalize ((hi[k] : Nat) : Int) = U at *
      have q0 : wr.cell? ⟨b, o + k, none⟩ = some (.int .i64 Z) := d1
      have q1 : (wr.setCell ⟨g, k, none⟩ (.int .i64 (if Z < X then Z else X))).cell? ⟨b, o + k, none⟩ = some (.int .i64 Z) := (World.cell?_of_block (heap_setCell_other _ _ _ _ ne1)).trans d1
      have v3 : (wr.setCell ⟨g, k, none⟩ (.int .i64 (if Z < X then Z else X))).cell? ⟨h, k, none⟩ = some (.int .i64 U) := (World.cell?_of_block (heap_setCell_other _ _ _ _ hne.symm)).trans d3
      have v4 : (wr.setCell ⟨g, k, none⟩ (.int .i64 (if Z < X then Z else X))).cell? ⟨b2, o2 + k, none⟩ = some (.int .i64 Y) := (World.cell?_of_block (heap_setCell_other _ _ _ _ ne3)).trans d4
      have w3 : (wr.setCell ⟨g, k, none⟩ (.int .i64 (if Z < X then Z else X))).frozen? ⟨h, k, none⟩ = false := by rw [World.frozen?_setCell]; exact f3
      have HV := hid (And.intro v3 (And.intro v4 w3))
      have HON := hid (show Onl (fun j => j = g ∨ j = h) wr ((wr.setCell ⟨g, k, none⟩ (.int .i64 (if Z < X then Z else X))).setCell ⟨h, k, none⟩ (.int .i64 (if U < Y then Y else U))) from ⟨rfl, rfl, rfl, by rw [World.size_setCell, World.size_setCell]; exact Nat.le_refl _, fun j _ hj => by rw [heap_setCell_other _ _ _ _ (fun e => hj (.inr e)), heap_setCell_other _ _ _ _ (fun e => hj (.inl e))]⟩)
      clear d3 d4 f3 v3 v4 w3
      go_wp2_with fail
      refine wp_region_held_drew (S := (fun V => V.cell? ⟨b, o + k, none⟩ = some (.int .i64 Z))) (by kernel_rfl) (by exact q0) (fun hHeld => ?_)
      refine wpAnyH_take (i := 0) (oi := { dst := some 14, op := Op.move (Operand.tmp 0), type := 22, pos := "region.go:95", after := #[], guard := none }) (v := ?va0) rfl (by kernel_rfl) (by kernel_rfl) (by kernel_rfl) (fun _ _ _ h => h) (Or.inl ⟨by rfl, ?hya0⟩) (by assumption) ?resta0
      case hya0 => (intro w hSw; (try dsimp only at hSw); go_simp; (try with_reducible rfl))
      simp only [Act.put, List.setIfInBounds_toArray, List.set_cons_zero, List.set_cons_succ]
      refine wpAnyH_take (i := 1) (oi := { dst := some 15, op := Op.move (Operand.tmp 8), type := 3, pos := "region.go:95", after := #[], guard := none }) (v := ?va1) rfl (by kernel_rfl) (by kernel_rfl) (by kernel_rfl) (fun _ _ _ h => h) (Or.inl ⟨by rfl, ?hya1⟩) (by assumption) ?resta1
      case hya1 => (intro w hSw; (try dsimp only at hSw); go_simp; (try with_reducible rfl))
      simp only [Act.put, List.setIfInBounds_toArray, List.set_cons_zero, List.set_cons_succ]
      refine wpAnyH_take (i := 2) (oi := { dst := some 16, op := Op.move (Operand.tmp 0), type := 22, pos := "region.go:95", after := #[], guard := none }) (v := ?va2) rfl (by kernel_rfl) (by kernel_rfl) (by kernel_rfl) (fun _ _ _ h => h) (Or.inl ⟨by rfl, ?hya2⟩) (by assumption) ?resta2
      case hya2 => (intro w hSw; (try dsimp only at hSw); go_simp; (try with_reducible rfl))
      simp only [Act.put, List.setIfInBounds_toArray, List.set_cons_zero, List.set_cons_succ]
      refine wpAnyH_take (i := 3) (oi := { dst := some 17, op := Op.move (Operand.tmp 8), type := 3, pos := "region.go:95", after := #[], guard := none }) (v := ?va3) rfl (by kernel_rfl) (by kernel_rfl) (by kernel_rfl) (fun _ _ _ h => h) (Or.inl ⟨by rfl, ?hya3⟩) (by assumption) ?resta3
      case hya3 => (intro w hSw; (try dsimp only at hSw); go_simp; (try with_reducible rfl))
      simp only [Act.put, List.setIfInBounds_toArray, List.set_cons_zero, List.set_cons_succ]
      refine wpAnyH_take (i := 4) (oi := { dst := some 18, op := Op.indexAddr 22 (Operand.tmp 16) (Operand.tmp 17), type := 0, pos := "region.go:95", after := #[{ on := 2, ground := Ground.data }, { on := 3, ground := Ground.data }], guard := none }) (v := ?va4) rfl (by kernel_rfl) (by kernel_rfl) (by kernel_rfl) (fun _ _ _ h => h) (Or.inl ⟨by rfl, ?hya4⟩) (by assumption) ?resta4
      case hya4 => (intro w hSw; (try dsimp only at hSw); go_simp; (try with_reducible rfl))
      simp only [Act.put, List.setIfInBounds_toArray, List.set_cons_zero, List.set_cons_succ]
      refine wpAnyH_take (i := 6) (oi := { dst := some 20, op := Op.move (Operand.tmp 2), type := 22, pos := "region.go:95", after := #[], guard := none }) (v := ?va6) rfl (by kernel_rfl) (by kernel_rfl) (by kernel_rfl) (fun _ _ _ h => h) (Or.inl ⟨by rfl, ?hya6⟩) (by assumption) ?resta6
      case hya6 => (intro w hSw; (try dsimp only at hSw); go_simp; (try with_reducible rfl))
      simp only [Act.put, List.setIfInBounds_toArray, List.set_cons_zero, List.set_cons_succ]
      refine wpAnyH_take (i := 7) (oi := { dst := some 21, op := Op.move (Operand.tmp 8), type := 3, pos := "region.go:95", after := #[], guard := none }) (v := ?va7) rfl (by kernel_rfl) (by kernel_rfl) (by kernel_rfl) (fun _ _ _ h => h) (Or.inl ⟨by rfl, ?hya7⟩) (by assumption) ?resta7
      case hya7 => (intro w hSw; (try dsimp only at hSw); go_simp; (try with_reducible rfl))
      simp only [Act.put, List.setIfInBounds_toArray, List.set_cons_zero, List.set_cons_succ]
      refine wpAnyH_take (i := 8) (oi := { dst := some 22, op := Op.indexAddr 22 (Operand.tmp 20) (Operand.tmp 21), type := 0, pos := "region.go:95", after := #[{ on := 6, ground := Ground.data }, { on := 7, ground := Ground.data }], guard := none }) (v := ?va8) rfl (by kernel_rfl) (by kernel_rfl) (by kernel_rfl) (fun _ _ _ h => h) (Or.inl ⟨by rfl, ?hya8⟩) (by assumption) ?resta8
      case hya8 => (intro w hSw; (try dsimp only at hSw); go_simp; (try with_reducible rfl))
      simp only [Act.put, List.setIfInBounds_toArray, List.set_cons_zero, List.set_cons_succ]
      refine wpAnyH_take (i := 9) (oi := { dst := some 23, op := Op.load 3 (Operand.tmp 22), type := 3, pos := "region.go:95", after := #[{ on := 8, ground := Ground.data }], guard := none }) (v := ?va9) rfl (by kernel_rfl) (by kernel_rfl) (by kernel_rfl) (fun _ _ _ h => h) (Or.inl ⟨by rfl, ?hya9⟩) (by assumption) ?resta9
      case hya9 => (intro w hSw; (try dsimp only at hSw); go_simp; (try with_reducible rfl))
      simp only [Act.put, List.setIfInBounds_toArray, List.set_cons_zero, List.set_cons_succ]
      refine wpAnyH_ready (rs := [5]) (by kernel_rfl) (by simp) (AllReadyH.cons (o := { dst := some 19, op := Op.load 3 (Operand.tmp 18), type := 3, pos := "region.go:95", after := #[{ on := 4, ground := Ground.data }], guard := none }) rfl (fun K hK => ?_) AllReadyH.nil)
      go_simp
      refine hK.out _ _ q0 (fun hHeld => ?_)
      clear hK K
      refine wpAnyH_take (i := 10) (oi := { dst := some 24, op := Op.call { callee := Callee.builtin Builtin.min, args := #[Operand.tmp 19, Operand.tmp 23], argTypes := #[3, 3] }, type := 3, pos := "region.go:95", after := #[{ on := 5, ground := Ground.data }, { on := 9, ground := Ground.data }], guard := none }) (v := ?va10) rfl (by kernel_rfl) (by kernel_rfl) (by kernel_rfl) (fun _ _ _ h => h) (Or.inl ⟨by rfl, ?hya10⟩) (by assumption) ?resta10
      case hya10 => (intro w hSw; (try dsimp only at hSw); go_simp; (try with_reducible rfl))
      simp only [Act.put, List.setIfInBounds_toArray, List.set_cons_zero, List.set_cons_succ]
      refine wpAnyH_take (i := 11) (oi := { dst := some 25, op := Op.indexAddr 22 (Operand.tmp 14) (Operand.tmp 15), type := 0, pos := "region.go:95", after := #[{ on := 0, ground := Ground.data }, { on := 1, ground := Ground.data }, { on := 0, ground := Ground.phase }, { on := 1, ground := Ground.phase }, { on := 2, ground := Ground.phase }, { on := 3, ground := Ground.phase }, { on := 4, ground := Ground.phase }, { on := 5, ground := Ground.phase }, { on := 6, ground := Ground.phase }, { on := 7, ground := Ground.phase }, { on := 8, ground := Ground.phase }, { on := 9, ground := Ground.phase }, { on := 10, ground := Ground.phase }], guard := none }) (v := ?va11) rfl (by kernel_rfl) (by kernel_rfl) (by kernel_rfl) (fun _ _ _ h => h) (Or.inl ⟨by rfl, ?hya11⟩) (by assumption) ?resta11
      case hya11 => (intro w hSw; (try dsimp only at hSw); go_simp; (try with_reducible rfl))
      simp only [Act.put, List.setIfInBounds_toArray, List.set_cons_zero, List.set_cons_succ]
      refine wpAnyH_ready (rs := [12]) (by kernel_rfl) (by simp) (AllReadyH.cons (o := { dst := none, op := Op.store 3 (Operand.tmp 25) (Operand.tmp 24), type := 0, pos := "region.go:95", after := #[{ on := 11, ground := Ground.data }, { on := 10, ground := Ground.data }, { on := 0, ground := Ground.phase }, { on := 1, ground := Ground.phase }, { on := 2, ground := Ground.phase }, { on := 3, ground := Ground.phase }, { on := 4, ground := Ground.phase }, { on := 5, ground := Ground.phase }, { on := 6, ground := Ground.phase }, { on := 7, ground := Ground.phase }, { on := 8, ground := Ground.phase }, { on := 9, ground := Ground.phase }, { on := 10, ground := Ground.phase }], guard := none }) rfl (fun K hK => ?_) AllReadyH.nil)
      go_simp
      refine hK.out _ _ q1 (fun hHeld => ?_)
      clear hK K
      refine wpAnyH_done (by kernel_rfl) ?_ _
      obtain ⟨v3, v4, w3⟩ := HV.out
      clear q0 q1 d1 d2 f2
      generalize (if Z < X then Z else X) = M at *
      have q0 := v4
      have q1 : ((wr.setCell ⟨g, k, none⟩ (.int .i64 M)).setCell ⟨h, k, none⟩ (.int .i64 (if U < Y then Y else U))).cell? ⟨b2, o2 + k, none⟩ = some (.int .i64 Y) := (World.cell?_of_block (heap_setCell_other _ _ _ _ ne4)).trans v4
      go_wp2_with fail
      refine wp_region_held_drew (S := (fun V => V.cell? ⟨b2, o2 + k, none⟩ = some (.int .i64 Y))) (by kernel_rfl) (by exact q0) (fun hHeld => ?_)
      refine wpAnyH_take (i := 0) (oi := { dst := some 26, op := Op.move (Operand.tmp 1), type := 22, pos := "region.go:96", after := #[], guard := none }) (v := ?vb0) rfl (by kernel_rfl) (by kernel_rfl) (by kernel_rfl) (fun _ _ _ h => h) (Or.inl ⟨by rfl, ?hyb0⟩) (by assumption) ?restb0
      case hyb0 => (intro w hSw; (try dsimp only at hSw); go_simp; (try with_reducible rfl))
      simp only [Act.put, List.setIfInBounds_toArray, List.set_cons_zero, List.set_cons_succ]
      refine wpAnyH_take (i := 1) (oi := { dst := some 27, op := Op.move (Operand.tmp 8), type := 3, pos := "region.go:96", after := #[], guard := none }) (v := ?vb1) rfl (by kernel_rfl) (by kernel_rfl) (by kernel_rfl) (fun _ _ _ h => h) (Or.inl ⟨by rfl, ?hyb1⟩) (by assumption) ?restb1
      case hyb1 => (intro w hSw; (try dsimp only at hSw); go_simp; (try with_reducible rfl))
      simp only [Act.put, List.setIfInBounds_toArray, List.set_cons_zero, List.set_cons_succ]
      refine wpAnyH_take (i := 2) (oi := { dst := some 28, op := Op.move (Operand.tmp 1), type := 22, pos := "region.go:96", after := #[], guard := none }) (v := ?vb2) rfl (by kernel_rfl) (by kernel_rfl) (by kernel_rfl) (fun _ _ _ h => h) (Or.inl ⟨by rfl, ?hyb2⟩) (by assumption) ?restb2
      case hyb2 => (intro w hSw; (try dsimp only at hSw); go_simp; (try with_reducible rfl))
      simp only [Act.put, List.setIfInBounds_toArray, List.set_cons_zero, List.set_cons_succ]
      refine wpAnyH_take (i := 3) (oi := { dst := some 29, op := Op.move (Operand.tmp 8), type := 3, pos := "region.go:96", after := #[], guard := none }) (v := ?vb3) rfl (by kernel_rfl) (by kernel_rfl) (by kernel_rfl) (fun _ _ _ h => h) (Or.inl ⟨by rfl, ?hyb3⟩) (by assumption) ?restb3
      case hyb3 => (intro w hSw; (try dsimp only at hSw); go_simp; (try with_reducible rfl))
      simp only [Act.put, List.setIfInBounds_toArray, List.set_cons_zero, List.set_cons_succ]
      refine wpAnyH_take (i := 4) (oi := { dst := some 30, op := Op.indexAddr 22 (Operand.tmp 28) (Operand.tmp 29), type := 0, pos := "region.go:96", after := #[{ on := 2, ground := Ground.data }, { on := 3, ground := Ground.data }], guard := none }) (v := ?vb4) rfl (by kernel_rfl) (by kernel_rfl) (by kernel_rfl) (fun _ _ _ h => h) (Or.inl ⟨by rfl, ?hyb4⟩) (by assumption) ?restb4
      case hyb4 => (intro w hSw; (try dsimp only at hSw); go_simp; (try with_reducible rfl))
      simp only [Act.put, List.setIfInBounds_toArray, List.set_cons_zero, List.set_cons_succ]
      refine wpAnyH_take (i := 6) (oi := { dst := some 32, op := Op.move (Operand.tmp 3), type := 22, pos := "region.go:96", after := #[], guard := none }) (v := ?vb6) rfl (by kernel_rfl) (by kernel_rfl) (by kernel_rfl) (fun _ _ _ h => h) (Or.inl ⟨by rfl, ?hyb6⟩) (by assumption) ?restb6
      case hyb6 => (intro w hSw; (try dsimp only at hSw); go_simp; (try with_reducible rfl))
      simp only [Act.put, List.setIfInBounds_toArray, List.set_cons_zero, List.set_cons_succ]
      refine wpAnyH_take (i := 7) (oi := { dst := some 33, op := Op.move (Operand.tmp 8), type := 3, pos := "region.go:96", after := #[], guard := none }) (v := ?vb7) rfl (by kernel_rfl) (by kernel_rfl) (by kernel_rfl) (fun _ _ _ h => h) (Or.inl ⟨by rfl, ?hyb7⟩) (by assumption) ?restb7
      case hyb7 => (intro w hSw; (try dsimp only at hSw); go_simp; (try with_reducible rfl))
      simp only [Act.put, List.setIfInBounds_toArray, List.set_cons_zero, List.set_cons_succ]
      refine wpAnyH_take (i := 8) (oi := { dst := some 34, op := Op.indexAddr 22 (Operand.tmp 32) (Operand.tmp 33), type := 0, pos := "region.go:96", after := #[{ on := 6, ground := Ground.data }, { on := 7, ground := Ground.data }], guard := none }) (v := ?vb8) rfl (by kernel_rfl) (by kernel_rfl) (by kernel_rfl) (fun _ _ _ h => h) (Or.inl ⟨by rfl, ?hyb8⟩) (by assumption) ?restb8
      case hyb8 => (intro w hSw; (try dsimp only at hSw); go_simp; (try with_reducible rfl))
      simp only [Act.put, List.setIfInBounds_toArray, List.set_cons_zero, List.set_cons_succ]
      refine wpAnyH_take (i := 9) (oi := { dst := some 35, op := Op.load 3 (Operand.tmp 34), type := 3, pos := "region.go:96", after := #[{ on := 8, ground := Ground.data }], guard := none }) (v := ?vb9) rfl (by kernel_rfl) (by kernel_rfl) (by kernel_rfl) (fun _ _ _ h => h) (Or.inl ⟨by rfl, ?hyb9⟩) (by assumption) ?restb9
      case hyb9 => (intro w hSw; (try dsimp only at hSw); go_simp; (try with_reducible rfl))
      simp only [Act.put, List.setIfInBounds_toArray, List.set_cons_zero, List.set_cons_succ]
      refine wpAnyH_ready (rs := [5]) (by kernel_rfl) (by simp) (AllReadyH.cons (o := { dst := some 31, op := Op.load 3 (Operand.tmp 30), type := 3, pos := "region.go:96", after := #[{ on := 4, ground := Ground.data }], guard := none }) rfl (fun K hK => ?_) AllReadyH.nil)
      go_simp
      refine hK.out _ _ q0 (fun hHeld => ?_)
      clear hK K
      refine wpAnyH_take (i := 10) (oi := { dst := some 36, op := Op.call { callee := Callee.builtin Builtin.max, args := #[Operand.tmp 31, Operand.tmp 35], argTypes := #[3, 3] }, type := 3, pos := "region.go:96", after := #[{ on := 5, ground := Ground.data }, { on := 9, ground := Ground.data }], guard := none }) (v := ?vb10) rfl (by kernel_rfl) (by kernel_rfl) (by kernel_rfl) (fun _ _ _ h => h) (Or.inl ⟨by rfl, ?hyb10⟩) (by assumption) ?restb10
      case hyb10 => (intro w hSw; (try dsimp only at hSw); go_simp; (try with_reducible rfl))
      simp only [Act.put, List.setIfInBounds_toArray, List.set_cons_zero, List.set_cons_succ]
      refine wpAnyH_take (i := 11) (oi := { dst := some 37, op := Op.indexAddr 22 (Operand.tmp 26) (Operand.tmp 27), type := 0, pos := "region.go:96", after := #[{ on := 0, ground := Ground.data }, { on := 1, ground := Ground.data }, { on := 0, ground := Ground.phase }, { on := 1, ground := Ground.phase }, { on := 2, ground := Ground.phase }, { on := 3, ground := Ground.phase }, { on := 4, ground := Ground.phase }, { on := 5, ground := Ground.phase }, { on := 6, ground := Ground.phase }, { on := 7, ground := Ground.phase }, { on := 8, ground := Ground.phase }, { on := 9, ground := Ground.phase }, { on := 10, ground := Ground.phase }], guard := none }) (v := ?vb11) rfl (by kernel_rfl) (by kernel_rfl) (by kernel_rfl) (fun _ _ _ h => h) (Or.inl ⟨by rfl, ?hyb11⟩) (by assumption) ?restb11
      case hyb11 => (intro w hSw; (try dsimp only at hSw); go_simp; (try with_reducible rfl))
      simp only [Act.put, List.setIfInBounds_toArray, List.set_cons_zero, List.set_cons_succ]
      refine wpAnyH_ready (rs := [12]) (by kernel_rfl) (by simp) (AllReadyH.cons (o := { dst := none, op := Op.store 3 (Operand.tmp 37) (Operand.tmp 36), type := 0, pos := "region.go:96", after := #[{ on := 11, ground := Ground.data }, { on := 10, ground := Ground.data }, { on := 0, ground := Ground.phase }, { on := 1, ground := Ground.phase }, { on := 2, ground := Ground.phase }, { on := 3, ground := Ground.phase }, { on := 4, ground := Ground.phase }, { on := 5, ground := Ground.phase }, { on := 6, ground := Ground.phase }, { on := 7, ground := Ground.phase }, { on := 8, ground := Ground.phase }, { on := 9, ground := Ground.phase }, { on := 10, ground := Ground.phase }], guard := none }) rfl (fun K hK => ?_) AllReadyH.nil)
      go_simp
      refine hK.out _ _ q1 (fun hHeld => ?_)
      clear hK K
      refine wpAnyH_done (by kernel_rfl) ?_ _
      generalize (if U < Y then Y else U) = M2 at *
      go_wp2_with fail
      go_roundw
      case rel =>
        exact ⟨k + 1, by omega, by go_num, (HS1.out.keep (heap_setCell_other _ _ _ _ hne)), (HS2.out _ (HRR.out.keep (heap_setCell_other _ _ _ _ hne.symm))), HOO.out.trans (Onl.drew (Onl.drew HON.out))⟩
      case measure => simp [intOf]; omega
    · obtain rfl : k = n := by omega
      rw [← HCN.out, ← HL.out] at hg
      rw [← HCN.out, ← HH.out] at hr
      rw [mixL_all (zmin_len HL.out)] at hg
      rw [mixL_all (zmax_len (by have := HH.out; have := HCN.out; have := HDN.out; omega))] at hr
      go_wp2_with fail
      go_end0
      exact ⟨rfl, hg, hr, ho⟩
set_option maxRecDepth 100000 in
set_option maxHeartbeats 2000000 in
/-- a box made so wide that it has another -/
theorem widenU_ok (lo hi c d : List Nat) (g h : Nat) (p q : Option Addr) (cl ch cc cd : Nat) (w : World) (hl : lo.length = c.length) (hh : hi.length = d.length) (hcd : c.length = d.length) (hn : c.length ≤ 1000) (hg : Rw w g lo) (hr : Rw w h hi) (hne : g ≠ h) (hp : Pt w p c) (hq : Pt w q d) (hD : ∀ b off, p = some ⟨b, off, none⟩ → b ≠ g ∧ b ≠ h) (hE : ∀ b off, q = some ⟨b, off, none⟩ → b ≠ g ∧ b ≠ h) :
    Calls Try.prog 32 #[.slice (some ⟨g, 0, none⟩) lo.length cl, .slice (some ⟨h, 0, none⟩) hi.length ch, .slice p c.length cc, .slice q d.length cd] w fun e w' => e = .returned (.tuple #[]) ∧ Rw w' g (zmin lo c) ∧ Rw w' h (zmax hi d) ∧ Onl (fun k => k = g ∨ k = h) w w' := by
  obtain ⟨n, hcn⟩ : ∃ n, c.length = n := ⟨_, rfl⟩
  have HL := hid hl; have HH := hid (hh.trans hcd.symm); have HCN := hid hcn; have HDN := hid (hcd.symm.trans hcn); have HG := hid hg; have HR := hid hr; have HP := hid hp; have HQ := hid hq; have HD := hid hD; have HE := hid hE
  rw [hl, hh, ← hcd, hcn]
  rw [hcn] at hn
  have HN := hid hn
  clear hl hh hcd hcn hg hr hp hq hD hE hn
  go_enter Try.func32, Try.ntmps32
  go_wp2_with fail
  go_loopw [11] (fun i wr => ∃ k : Nat, k ≤ n ∧ i = .int .i64 (k : Int) ∧ Rw wr g (mixL (zmin lo c) lo k) ∧ Rw wr h (mixL (zmax hi d) hi k) ∧ Onl (fun k => k = g ∨ k = h) w wr) (fun i _ => n - (intOf i).toNat)
  case atStart => exact ⟨0, Nat.zero_le _, rfl, by rw [mixL_zero]; exact HG.out, by rw [mixL_zero]; exact HR.out, Onl.ofBelow (Below.refl _ _)⟩
  case round =>
    obtain ⟨k, hk, rfl, hg, hr, ho⟩ := hrel
    by_cases hlt : k < n
    · have h1 : k < lo.length := by have := HL.out; have := HCN.out; omega
      have h2 : k < hi.length := by have := HH.out; have := HCN.out; omega
      have h3 : k < c.length := by have := HCN.out; omega
      have h4 : k < d.length := by have := HDN.out; omega
      have z1 : (zmin lo c).length = lo.length := zmin_len HL.out
      have z2 : (zmax hi d).length = hi.length := zmax_len (by have := HH.out; have := HCN.out; have := HDN.out; omega)
      obtain ⟨b, o, rfl, lt, c1⟩ := HP.out.cells k h3
      obtain ⟨b2, o2, rfl, lt2, c2⟩ := HQ.out.cells k h4
      obtain ⟨ne1, ne2⟩ := HD.out b o rfl
      obtain ⟨ne3, ne4⟩ := HE.out b2 o2 rfl
      have hkN := HN.out
      have d1 : wr.cell? ⟨b, o + k, none⟩ = some (.int .u32 ((c[k] : Nat) : Int)) := (World.cell?_of_block (ho.block b lt (fun e => by rcases e with e | e; exact ne1 e; exact ne2 e))).trans c1
      have d4 : wr.cell? ⟨b2, o2 + k, none⟩ = some (.int .u32 ((d[k] : Nat) : Int)) := (World.cell?_of_block (ho.block b2 lt2 (fun e => by rcases e with e | e; exact ne3 e; exact ne4 e))).trans c2
      have d2 := hg.cell k (by rw [mixL_len _ z1]; exact h1)
      rw [mixL_at k z1 h1] at d2
      have d3 := hr.cell k (by rw [mixL_len _ z2]; exact h2)
      rw [mixL_at k z2 h2] at d3
      have f2 := hg.frozen k
      have f3 := hr.frozen k
      have m1 : (if ((c[k] : Nat) : Int) < ((lo[k] : Nat) : Int) then ((c[k] : Nat) : Int) else ((lo[k] : Nat) : Int)) = (((zmin lo c)[k]'(by omega) : Nat) : Int) := by rw [zmin_at k _ h1 h3]; split <;> omega
      have m2 : (if ((hi[k] : Nat) : Int) < ((d[k] : Nat) : Int) then ((d[k] : Nat) : Int) else ((hi[k] : Nat) : Int)) = (((zmax hi d)[k]'(by omega) : Nat) : Int) := by rw [zmax_at k _ h2 h4]; split <;> omega
      have HS1 := hid (show Rw (wr.setCell ⟨g, k, none⟩ (.int .u32 (if ((c[k] : Nat) : Int) < ((lo[k] : Nat) : Int) then ((c[k] : Nat) : Int) else ((lo[k] : Nat) : Int)))) g (mixL (zmin lo c) lo (k + 1)) by
        rw [m1, ← mixL_set k z1 h1]
        exact hg.set k _ (by rw [mixL_len _ z1]; exact h1))
      have HS2 := hid (show ∀ V : World, Rw V h (mixL (zmax hi d) hi k) → Rw (V.setCell ⟨h, k, none⟩ (.int .u32 (if ((hi[k] : Nat) : Int) < ((d[k] : Nat) : Int) then ((d[k] : Nat) : Int) else ((hi[k] : Nat) : Int)))) h (mixL (zmax hi d) hi (k + 1)) from fun V hV => by
        rw [m2, ← mixL_set k z2 h2]
        exact hV.set k _ (by rw [mixL_len _ z2]; exact h2))
      have HRR := hid hr
      have HHL := hid hg.lt
      have HOO := hid ho
      clear hg hr ho c1 c2 m1 m2 z1 z2
      generalize ((c[k] : Nat) : Int) = Z at *
      generalize ((d[k] : Nat) : Int) = Y at *
      generalize ((lo[k] : Nat) : Int) = X at *
      generalize ((hi[k] : Nat) : Int) = U at *
      have q0 : wr.cell? ⟨b, o + k, none⟩ = some (.int .u32 Z) := d1
      have q1 : (wr.setCell ⟨g, k, none⟩ (.int .u32 (if Z < X then Z else X))).cell? ⟨b, o + k, none⟩ = some (.int .u32 Z) := (World.cell?_of_block (heap_setCell_other _ _ _ _ ne1)).trans d1
      have v3 : (wr.setCell ⟨g, k, none⟩ (.int .u32 (if Z < X then Z else X))).cell? ⟨h, k, none⟩ = some (.int .u32 U) := (World.cell?_of_block (heap_setCell_other _ _ _ _ hne.symm)).trans d3
      have v4 : (wr.setCell ⟨g, k, none⟩ (.int .u32 (if Z < X then Z else X))).cell? ⟨b2, o2 + k, none⟩ = some (.int .u32 Y) := (World.cell?_of_block (heap_setCell_other _ _ _ _ ne3)).trans d4
      have w3 : (wr.setCell ⟨g, k, none⟩ (.int .u32 (if Z < X then Z else X))).frozen? ⟨h, k, none⟩ = false := by rw [World.frozen?_setCell]; exact f3
      have HV := hid (And.intro v3 (And.intro v4 w3))
      have HON := hid (show Onl (fun j => j = g ∨ j = h) wr ((wr.setCell ⟨g, k, none⟩ (.int .u32 (if Z < X then Z else X))).setCell ⟨h, k, none⟩ (.int .u32 (if U < Y then Y else U))) from ⟨rfl, rfl, rfl, by rw [World.size_setCell, World.size_setCell]; exact Nat.le_refl _, fun j _ hj => by rw [heap_setCell_other _ _ _ _ (fun e => hj (.inr e)), heap_setCell_other _ _ _ _ (fun e => hj (.inl e))]⟩)
      clear d3 d4 f3 v3 v4 w3
      go_wp2_with fail
      refine wp_region_held_drew (S := (fun V => V.cell? ⟨b, o + k, none⟩ = some (.int .u32 Z))) (by kernel_rfl) (by exact q0) (fun hHeld => ?_)
      refine wpAnyH_take (i := 0) (oi := { dst := some 14, op := Op.move (Operand.tmp 0), type := 40, pos := "region.go:95", after := #[], guard := none }) (v := ?va0) rfl (by kernel_rfl) (by kernel_rfl) (by kernel_rfl) (fun _ _ _ h => h) (Or.inl ⟨by rfl, ?hya0⟩) (by assumption) ?resta0
      case hya0 => (intro w hSw; (try dsimp only at hSw); go_simp; (try with_reducible rfl))
      simp only [Act.put, List.setIfInBounds_toArray, List.set_cons_zero, List.set_cons_succ]
      refine wpAnyH_take (i := 1) (oi := { dst := some 15, op := Op.move (Operand.tmp 8), type := 3, pos := "region.go:95", after := #[], guard := none }) (v := ?va1) rfl (by kernel_rfl) (by kernel_rfl) (by kernel_rfl) (fun _ _ _ h => h) (Or.inl ⟨by rfl, ?hya1⟩) (by assumption) ?resta1
      case hya1 => (intro w hSw; (try dsimp only at hSw); go_simp; (try with_reducible rfl))
      simp only [Act.put, List.setIfInBounds_toArray, List.set_cons_zero, List.set_cons_succ]
      refine wpAnyH_take (i := 2) (oi := { dst := some 16, op := Op.move (Operand.tmp 0), type := 40, pos := "region.go:95", after := #[], guard := none }) (v := ?va2) rfl (by kernel_rfl) (by kernel_rfl) (by kernel_rfl) (fun _ _ _ h => h) (Or.inl ⟨by rfl, ?hya2⟩) (by assumption) ?resta2
      case hya2 => (intro w hSw; (try dsimp only at hSw); go_simp; (try with_reducible rfl))
      simp only [Act.put, List.setIfInBounds_toArray, List.set_cons_zero, List.set_cons_succ]
      refine wpAnyH_take (i := 3) (oi := { dst := some 17, op := Op.move (Operand.tmp 8), type := 3, pos := "region.go:95", after := #[], guard := none }) (v := ?va3) rfl (by kernel_rfl) (by kernel_rfl) (by kernel_rfl) (fun _ _ _ h => h) (Or.inl ⟨by rfl, ?hya3⟩) (by assumption) ?resta3
      case hya3 => (intro w hSw; (try dsimp only at hSw); go_simp; (try with_reducible rfl))
      simp only [Act.put, List.setIfInBounds_toArray, List.set_cons_zero, List.set_cons_succ]
      refine wpAnyH_take (i := 4) (oi := { dst := some 18, op := Op.indexAddr 40 (Operand.tmp 16) (Operand.tmp 17), type := 0, pos := "region.go:95", after := #[{ on := 2, ground := Ground.data }, { on := 3, ground := Ground.data }], guard := none }) (v := ?va4) rfl (by kernel_rfl) (by kernel_rfl) (by kernel_rfl) (fun _ _ _ h => h) (Or.inl ⟨by rfl, ?hya4⟩) (by assumption) ?resta4
      case hya4 => (intro w hSw; (try dsimp only at hSw); go_simp; (try with_reducible rfl))
      simp only [Act.put, List.setIfInBounds_toArray, List.set_cons_zero, List.set_cons_succ]
      refine wpAnyH_take (i := 6) (oi := { dst := some 20, op := Op.move (Operand.tmp 2), type := 40, pos := "region.go:95", after := #[], guard := none }) (v := ?va6) rfl (by kernel_rfl) (by kernel_rfl) (by kernel_rfl) (fun _ _ _ h => h) (Or.inl ⟨by rfl, ?hya6⟩) (by assumption) ?resta6
      case hya6 => (intro w hSw; (try dsimp only at hSw); go_simp; (try with_reducible rfl))
      simp only [Act.put, List.setIfInBounds_toArray, List.set_cons_zero, List.set_cons_succ]
      refine wpAnyH_take (i := 7) (oi := { dst := some 21, op := Op.move (Operand.tmp 8), type := 3, pos := "region.go:95", after := #[], guard := none }) (v := ?va7) rfl (by kernel_rfl) (by kernel_rfl) (by kernel_rfl) (fun _ _ _ h => h) (Or.inl ⟨by rfl, ?hya7⟩) (by assumption) ?resta7
      case hya7 => (intro w hSw; (try dsimp only at hSw); go_simp; (try with_reducible rfl))
      simp only [Act.put, List.setIfInBounds_toArray, List.set_cons_zero, List.set_cons_succ]
      refine wpAnyH_take (i := 8) (oi := { dst := some 22, op := Op.indexAddr 40 (Operand.tmp 20) (Operand.tmp 21), type := 0, pos := "region.go:95", after := #[{ on := 6, ground := Ground.data }, { on := 7, ground := Ground.data }], guard := none }) (v := ?va8) rfl (by kernel_rfl) (by kernel_rfl) (by kernel_rfl) (fun _ _ _ h => h) (Or.inl ⟨by rfl, ?hya8⟩) (by assumption) ?resta8
      case hya8 => (intro w hSw; (try dsimp only at hSw); go_simp; (try with_reducible rfl))
      simp only [Act.put, List.setIfInBounds_toArray, List.set_cons_zero, List.set_cons_succ]
      refine wpAnyH_take (i := 9) (oi := { dst := some 23, op := Op.load 55 (Operand.tmp 22), type := 55, pos := "region.go:95", after := #[{ on := 8, ground := Ground.data }], guard := none }) (v := ?va9) rfl (by kernel_rfl) (by kernel_rfl) (by kernel_rfl) (fun _ _ _ h => h) (Or.inl ⟨by rfl, ?hya9⟩) (by assumption) ?resta9
      case hya9 => (intro w hSw; (try dsimp only at hSw); go_simp; (try with_reducible rfl))
      simp only [Act.put, List.setIfInBounds_toArray, List.set_cons_zero, List.set_cons_succ]
      refine wpAnyH_ready (rs := [5]) (by kernel_rfl) (by simp) (AllReadyH.cons (o := { dst := some 19, op := Op.load 55 (Operand.tmp 18), type := 55, pos := "region.go:95", after := #[{ on := 4, ground := Ground.data }], guard := none }) rfl (fun K hK => ?_) AllReadyH.nil)
      go_simp
      refine hK.out _ _ q0 (fun hHeld => ?_)
      clear hK K
      refine wpAnyH_take (i := 10) (oi := { dst := some 24, op := Op.call { callee := Callee.builtin Builtin.min, args := #[Operand.tmp 19, Operand.tmp 23], argTypes := #[55, 55] }, type := 55, pos := "region.go:95", after := #[{ on := 5, ground := Ground.data }, { on := 9, ground := Ground.data }], guard := none }) (v := ?va10) rfl (by kernel_rfl) (by kernel_rfl) (by kernel_rfl) (fun _ _ _ h => h) (Or.inl ⟨by rfl, ?hya10⟩) (by assumption) ?resta10
      case hya10 => (intro w hSw; (try dsimp only at hSw); go_simp; (try with_reducible rfl))
      simp only [Act.put, List.setIfInBounds_toArray, List.set_cons_zero, List.set_cons_succ]
      refine wpAnyH_take (i := 11) (oi := { dst := some 25, op := Op.indexAddr 40 (Operand.tmp 14) (Operand.tmp 15), type := 0, pos := "region.go:95", after := #[{ on := 0, ground := Ground.data }, { on := 1, ground := Ground.data }, { on := 0, ground := Ground.phase }, { on := 1, ground := Ground.phase }, { on := 2, ground := Ground.phase }, { on := 3, ground := Ground.phase }, { on := 4, ground := Ground.phase }, { on := 5, ground := Ground.phase }, { on := 6, ground := Ground.phase }, { on := 7, ground := Ground.phase }, { on := 8, ground := Ground.phase }, { on := 9, ground := Ground.phase }, { on := 10, ground := Ground.phase }], guard := none }) (v := ?va11) rfl (by kernel_rfl) (by kernel_rfl) (by kernel_rfl) (fun _ _ _ h => h) (Or.inl ⟨by rfl, ?hya11⟩) (by assumption) ?resta11
      case hya11 => (intro w hSw; (try dsimp only at hSw); go_simp; (try with_reducible rfl))
      simp only [Act.put, List.setIfInBounds_toArray, List.set_cons_zero, List.set_cons_succ]
      refine wpAnyH_ready (rs := [12]) (by kernel_rfl) (by simp) (AllReadyH.cons (o := { dst := none, op := Op.store 55 (Operand.tmp 25) (Operand.tmp 24), type := 0, pos := "region.go:95", after := #[{ on := 11, ground := Ground.data }, { on := 10, ground := Ground.data }, { on := 0, ground := Ground.phase }, { on := 1, ground := Ground.phase }, { on := 2, ground := Ground.phase }, { on := 3, ground := Ground.phase }, { on := 4, ground := Ground.phase }, { on := 5, ground := Ground.phase }, { on := 6, ground := Ground.phase }, { on := 7, ground := Ground.phase }, { on := 8, ground := Ground.phase }, { on := 9, ground := Ground.phase }, { on := 10, ground := Ground.phase }], guard := none }) rfl (fun K hK => ?_) AllReadyH.nil)
      go_simp
      refine hK.out _ _ q1 (fun hHeld => ?_)
      clear hK K
      refine wpAnyH_done (by kernel_rfl) ?_ _
      obtain ⟨v3, v4, w3⟩ := HV.out
      clear q0 q1 d1 d2 f2
      generalize (if Z < X then Z else X) = M at *
      have q0 := v4
      have q1 : ((wr.setCell ⟨g, k, none⟩ (.int .u32 M)).setCell ⟨h, k, none⟩ (.int .u32 (if U < Y then Y else U))).cell? ⟨b2, o2 + k, none⟩ = some (.int .u32 Y) := (World.cell?_of_block (heap_setCell_other _ _ _ _ ne4)).trans v4
      go_wp2_with fail
      refine wp_region_held_drew (S := (fun V => V.cell? ⟨b2, o2 + k, none⟩ = some (.int .u32 Y))) (by kernel_rfl) (by exact q0) (fun hHeld => ?_)
      refine wpAnyH_take (i := 0) (oi := { dst := some 26, op := Op.move (Operand.tmp 1), type := 40, pos := "region.go:96", after := #[], guard := none }) (v := ?vb0) rfl (by kernel_rfl) (by kernel_rfl) (by kernel_rfl) (fun _ _ _ h => h) (Or.inl ⟨by rfl, ?hyb0⟩) (by assumption) ?restb0
      case hyb0 => (intro w hSw; (try dsimp only at hSw); go_simp; (try with_reducible rfl))
      simp only [Act.put, List.setIfInBounds_toArray, List.set_cons_zero, List.set_cons_succ]
      refine wpAnyH_take (i := 1) (oi := { dst := some 27, op := Op.move (Operand.tmp 8), type := 3, pos := "region.go:96", after := #[], guard := none }) (v := ?vb1) rfl (by kernel_rfl) (by kernel_rfl) (by kernel_rfl) (fun _ _ _ h => h) (Or.inl ⟨by rfl, ?hyb1⟩) (by assumption) ?restb1
      case hyb1 => (intro w hSw; (try dsimp only at hSw); go_simp; (try with_reducible rfl))
      simp only [Act.put, List.setIfInBounds_toArray, List.set_cons_zero, List.set_cons_succ]
      refine wpAnyH_take (i := 2) (oi := { dst := some 28, op := Op.move (Operand.tmp 1), type := 40, pos := "region.go:96", after := #[], guard := none }) (v := ?vb2) rfl (by kernel_rfl) (by kernel_rfl) (by kernel_rfl) (fun _ _ _ h => h) (Or.inl ⟨by rfl, ?hyb2⟩) (by assumption) ?restb2
      case hyb2 => (intro w hSw; (try dsimp only at hSw); go_simp; (try with_reducible rfl))
      simp only [Act.put, List.setIfInBounds_toArray, List.set_cons_zero, List.set_cons_succ]
      refine wpAnyH_take (i := 3) (oi := { dst := some 29, op := Op.move (Operand.tmp 8), type := 3, pos := "region.go:96", after := #[], guard := none }) (v := ?vb3) rfl (by kernel_rfl) (by kernel_rfl) (by kernel_rfl) (fun _ _ _ h => h) (Or.inl ⟨by rfl, ?hyb3⟩) (by assumption) ?restb3
      case hyb3 => (intro w hSw; (try dsimp only at hSw); go_simp; (try with_reducible rfl))
      simp only [Act.put, List.setIfInBounds_toArray, List.set_cons_zero, List.set_cons_succ]
      refine wpAnyH_take (i := 4) (oi := { dst := some 30, op := Op.indexAddr 40 (Operand.tmp 28) (Operand.tmp 29), type := 0, pos := "region.go:96", after := #[{ on := 2, ground := Ground.data }, { on := 3, ground := Ground.data }], guard := none }) (v := ?vb4) rfl (by kernel_rfl) (by kernel_rfl) (by kernel_rfl) (fun _ _ _ h => h) (Or.inl ⟨by rfl, ?hyb4⟩) (by assumption) ?restb4
      case hyb4 => (intro w hSw; (try dsimp only at hSw); go_simp; (try with_reducible rfl))
      simp only [Act.put, List.setIfInBounds_toArray, List.set_cons_zero, List.set_cons_succ]
      refine wpAnyH_take (i := 6) (oi := { dst := some 32, op := Op.move (Operand.tmp 3), type := 40, pos := "region.go:96", after := #[], guard := none }) (v := ?vb6) rfl (by kernel_rfl) (by kernel_rfl) (by kernel_rfl) (fun _ _ _ h => h) (Or.inl ⟨by rfl, ?hyb6⟩) (by assumption) ?restb6
      case hyb6 => (intro w hSw; (try dsimp only at hSw); go_simp; (try with_reducible rfl))
      simp only [Act.put, List.setIfInBounds_toArray, List.set_cons_zero, List.set_cons_succ]
      refine wpAnyH_take (i := 7) (oi := { dst := some 33, op := Op.move (Operand.tmp 8), type := 3, pos := "region.go:96", after := #[], guard := none }) (v := ?vb7) rfl (by kernel_rfl) (by kernel_rfl) (by kernel_rfl) (fun _ _ _ h => h) (Or.inl ⟨by rfl, ?hyb7⟩) (by assumption) ?restb7
      case hyb7 => (intro w hSw; (try dsimp only at hSw); go_simp; (try with_reducible rfl))
      simp only [Act.put, List.setIfInBounds_toArray, List.set_cons_zero, List.set_cons_succ]
      refine wpAnyH_take (i := 8) (oi := { dst := some 34, op := Op.indexAddr 40 (Operand.tmp 32) (Operand.tmp 33), type := 0, pos := "region.go:96", after := #[{ on := 6, ground := Ground.data }, { on := 7, ground := Ground.data }], guard := none }) (v := ?vb8) rfl (by kernel_rfl) (by kernel_rfl) (by kernel_rfl) (fun _ _ _ h => h) (Or.inl ⟨by rfl, ?hyb8⟩) (by assumption) ?restb8
      case hyb8 => (intro w hSw; (try dsimp only at hSw); go_simp; (try with_reducible rfl))
      simp only [Act.put, List.setIfInBounds_toArray, List.set_cons_zero, List.set_cons_succ]
      refine wpAnyH_take (i := 9) (oi := { dst := some 35, op := Op.load 55 (Operand.tmp 34), type := 55, pos := "region.go:96", after := #[{ on := 8, ground := Ground.data }], guard := none }) (v := ?vb9) rfl (by kernel_rfl) (by kernel_rfl) (by kernel_rfl) (fun _ _ _ h => h) (Or.inl ⟨by rfl, ?hyb9⟩) (by assumption) ?restb9
      case hyb9 => (intro w hSw; (try dsimp only at hSw); go_simp; (try with_reducible rfl))
      simp only [Act.put, List.setIfInBounds_toArray, List.set_cons_zero, List.set_cons_succ]
      refine wpAnyH_ready (rs := [5]) (by kernel_rfl) (by simp) (AllReadyH.cons (o := { dst := some 31, op := Op.load 55 (Operand.tmp 30), type := 55, pos := "region.go:96", after := #[{ on := 4, ground := Ground.data }], guard := none }) rfl (fun K hK => ?_) AllReadyH.nil)
      go_simp
      refine hK.out _ _ q0 (fun hHeld => ?_)
      clear hK K
      refine wpAnyH_take (i := 10) (oi := { dst := some 36, op := Op.call { callee := Callee.builtin Builtin.max, args := #[Operand.tmp 31, Operand.tmp 35], argTypes := #[55, 55] }, type := 55, pos := "region.go:96", after := #[{ on := 5, ground := Ground.data }, { on := 9, ground := Ground.data }], guard := none }) (v := ?vb10) rfl (by kernel_rfl) (by kernel_rfl) (by kernel_rfl) (fun _ _ _ h => h) (Or.inl ⟨by rfl, ?hyb10⟩) (by assumption) ?restb10
      case hyb10 => (intro w hSw; (try dsimp only at hSw); go_simp; (try with_reducible rfl))
      simp only [Act.put, List.setIfInBounds_toArray, List.set_cons_zero, List.set_cons_succ]
      refine wpAnyH_take (i := 11) (oi := { dst := some 37, op := Op.indexAddr 40 (Operand.tmp 26) (Operand.tmp 27), type := 0, pos := "region.go:96", after := #[{ on := 0, ground := Ground.data }, { on := 1, ground := Ground.data }, { on := 0, ground := Ground.phase }, { on := 1, ground := Ground.phase }, { on := 2, ground := Ground.phase }, { on := 3, ground := Ground.phase }, { on := 4, ground := Ground.phase }, { on := 5, ground := Ground.phase }, { on := 6, ground := Ground.phase }, { on := 7, ground := Ground.phase }, { on := 8, ground := Ground.phase }, { on := 9, ground := Ground.phase }, { on := 10, ground := Ground.phase }], guard := none }) (v := ?vb11) rfl (by kernel_rfl) (by kernel_rfl) (by kernel_rfl) (fun _ _ _ h => h) (Or.inl ⟨by rfl, ?hyb11⟩) (by assumption) ?restb11
      case hyb11 => (intro w hSw; (try dsimp only at hSw); go_simp; (try with_reducible rfl))
      simp only [Act.put, List.setIfInBounds_toArray, List.set_cons_zero, List.set_cons_succ]
      refine wpAnyH_ready (rs := [12]) (by kernel_rfl) (by simp) (AllReadyH.cons (o := { dst := none, op := Op.store 55 (Operand.tmp 37) (Operand.tmp 36), type := 0, pos := "region.go:96", after := #[{ on := 11, ground := Ground.data }, { on := 10, ground := Ground.data }, { on := 0, ground := Ground.phase }, { on := 1, ground := Ground.phase }, { on := 2, ground := Ground.phase }, { on := 3, ground := Ground.phase }, { on := 4, ground := Ground.phase }, { on := 5, ground := Ground.phase }, { on := 6, ground := Ground.phase }, { on := 7, ground := Ground.phase }, { on := 8, ground := Ground.phase }, { on := 9, ground := Ground.phase }, { on := 10, ground := Ground.phase }], guard := none }) rfl (fun K hK => ?_) AllReadyH.nil)
      go_simp
      refine hK.out _ _ q1 (fun hHeld => ?_)
      clear hK K
      refine wpAnyH_done (by kernel_rfl) ?_ _
      generalize (if U < Y then Y else U) = M2 at *
      go_wp2_with fail
      go_roundw
      case rel =>
        exact ⟨k + 1, by omega, by go_num, ((HS1.out.far (p := ⟨h, k, none⟩) hne (.int .u32 M2)).drew).drew, ((HS2.out _ ((HRR.out.far (p := ⟨g, k, none⟩) hne.symm (.int .u32 M)).drew)).drew), HOO.out.trans (Onl.drew (Onl.drew HON.out))⟩
      case measure => simp [intOf]; omega
    · obtain rfl : k = n := by omega
      rw [← HCN.out, ← HL.out] at hg
      rw [← HCN.out, ← HH.out] at hr
      rw [mixL_all (zmin_len HL.out)] at hg
      rw [mixL_all (zmax_len (by have := HH.out; have := HCN.out; have := HDN.out; omega))] at hr
      go_wp2_with fail
      go_end0
      exact ⟨rfl, hg, hr, ho⟩
end Go.Proofs.Ytnmhdlincgefeaa.Rg
