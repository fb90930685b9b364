/- Merged out of JnComm, JnMeth, JnCom2, JnScan. -/
import Derived.Test.YtaonifdfhlbaiaaGreatDoorS14
import Derived.WalkMore
import Derived.Deep.LoopGhost
/- The small calls of a journal: made, Tx, Room, Next, commit, staged. -/
namespace Go.Proofs.YtaonifdfhlbaiaaGreatDoor.Jn
open Go.RowKit
open Go.Lib (hid)
open Go.Proofs.YtaonifdfhlbaiaaGreatDoor.Dk
open Go.Proofs.YtaonifdfhlbaiaaGreatDoor.En (Lst entC encR mayE mayS PageT Pgs ent_at infoC oneC textS)
open Go.Proofs.YtaonifdfhlbaiaaGreatDoor.Sm (U sumB wpList_store_whole)
section
variable {J D b n t : Nat} {w : World}
set_option maxHeartbeats 1000000 in
theorem made_nil (w : World) : Calls Tryz.prog 32 #[.pointer none] w fun e w' => e = .returned (.bool false) ∧ w' = w := by
  go_enter Tryz.func32, Tryz.ntmps32
  go_wp2_with fail
  go_ret
  exact ⟨rfl, rfl⟩
set_option maxHeartbeats 1000000 in
theorem made_ok (h : JAt w J D b n t) : Calls Tryz.prog 32 #[.pointer (some ⟨J, 0, none⟩)] w fun e w' => e = .returned (.bool true) ∧ w' = w := by
  have H := hid h
  obtain ⟨j0, j1, j2, j3⟩ := h.cells
  clear h
  go_enter Tryz.func32, Tryz.ntmps32
  go_wp2_with fail
  go_ret
  exact ⟨rfl, rfl⟩
set_option maxHeartbeats 1000000 in
theorem tx_nil (w : World) : Calls Tryz.prog 23 #[.pointer none] w fun e w' => e = .returned (.int .i64 0) ∧ w' = w := by
  go_enter Tryz.func23, Tryz.ntmps23
  go_wp2_with fail
  go_ret
  exact ⟨rfl, rfl⟩
set_option maxHeartbeats 1000000 in
theorem tx_ok (h : JAt w J D b n t) : Calls Tryz.prog 23 #[.pointer (some ⟨J, 0, none⟩)] w fun e w' => e = .returned (.int .i64 (t : Int)) ∧ w' = w := by
  have H := hid h
  obtain ⟨j0, j1, j2, j3⟩ := h.cells
  clear h
  go_enter Tryz.func23, Tryz.ntmps23
  go_wp2_with fail
  go_ret
  exact ⟨rfl, rfl⟩
set_option maxHeartbeats 1000000 in
theorem room_nil (w : World) : Calls Tryz.prog 24 #[.pointer none] w fun e w' => e = .returned (.int .i64 0) ∧ w' = w := by
  go_enter Tryz.func24, Tryz.ntmps24
  go_wp2_with fail
  refine (made_nil _).mono ?_
  rintro e w' ⟨rfl, rfl⟩
  go_wp2_with fail
  go_ret
  exact ⟨rfl, rfl⟩
set_option maxHeartbeats 1000000 in
theorem room_ok (h : JAt w J D b n t) (m : Nat) (hm : n = m + 1) (hn : n ≤ 999) : Calls Tryz.prog 24 #[.pointer (some ⟨J, 0, none⟩)] w fun e w' => e = .returned (.int .i64 (m : Int)) ∧ w' = w := by
  have H := hid h
  obtain ⟨j0, j1, j2, j3⟩ := h.cells
  have hw : wrap64 ((n : Int) - 1) = (m : Int) := by unfold wrap64; omega
  clear h
  go_enter Tryz.func24, Tryz.ntmps24
  go_wp2_with fail
  refine (made_ok H.out).mono ?_
  rintro e w' ⟨rfl, rfl⟩
  go_wp2_with fail
  go_ret
  exact ⟨rfl, rfl⟩
set_option maxHeartbeats 1000000 in
theorem next_nil (w : World) : Calls Tryz.prog 14 #[.pointer none] w fun e w' => e = .returned (.int .i64 1) ∧ w' = w := by
  go_enter Tryz.func14, Tryz.ntmps14
  go_wp2_with fail
  refine (made_nil _).mono ?_
  rintro e w' ⟨rfl, rfl⟩
  go_wp2_with fail
  go_ret
  exact ⟨rfl, rfl⟩
set_option maxHeartbeats 1000000 in
theorem next_last (h : JAt w J D b n 4294967295) : Calls Tryz.prog 14 #[.pointer (some ⟨J, 0, none⟩)] w fun e w' => e = .returned (.int .i64 1) ∧ w' = w := by
  have H := hid h
  obtain ⟨j0, j1, j2, j3⟩ := h.cells
  clear h
  go_enter Tryz.func14, Tryz.ntmps14
  go_wp2_with fail
  refine (made_ok H.out).mono ?_
  rintro e w' ⟨rfl, rfl⟩
  go_wp2_with fail
  go_ret
  exact ⟨rfl, rfl⟩
set_option maxHeartbeats 1000000 in
theorem next_ok (h : JAt w J D b n t) (ht : t < 4294967295) : Calls Tryz.prog 14 #[.pointer (some ⟨J, 0, none⟩)] w fun e w' => e = .returned (.int .i64 0) ∧ w' = w.setCell ⟨J, 3, none⟩ (.int .i64 ((t + 1 : Nat) : Int)) := by
  have H := hid h
  obtain ⟨j0, j1, j2, j3⟩ := h.cells
  have hf : w.frozen? ⟨J, 3, none⟩ = false := frozen_of_row _ _ _ _ _ h
  obtain ⟨t', ht'⟩ : ∃ t', t + 1 = t' := ⟨_, rfl⟩
  have hw : wrap64 ((t : Int) + 1) = (t' : Int) := by unfold wrap64; omega
  have k1 : IntKind.u64.wrap (t : Int) = t := by rw [show IntKind.u64.wrap (t : Int) = (t : Int) % 18446744073709551616 from rfl]; omega
  have k2 : ((t : Int) == 4294967295) = false := by simp; omega
  rw [ht']
  clear h ht ht'
  go_enter Tryz.func14, Tryz.ntmps14
  go_wp2_with fail
  refine (made_ok H.out).mono ?_
  rintro e w' ⟨rfl, rfl⟩
  go_wp2_with fail
  go_ret
  exact ⟨rfl, rfl⟩
theorem step_store {P : Program} {o : Oper} {ops : Array Oper} {a : Act} {w : World} {K : Act → World → Prop} {Q : Exit → Act → World → Prop} {E : Prop} (hgd : o.guard = none) (ty : TypeId) (x y : Operand) (ho : o.op = .store ty x y)
    (g : Nat) (cells : Array Value) (hx : a.eval x = .pointer (some ⟨g, 0, none⟩)) (hy : a.eval y = .agg cells) (t : TypeId) (old : Array Value) (hg : w.heap[g]? = some (.cells old t (0, 0))) (hi : (P.info? ty).map (·.size) = some cells.size)
    (hold : old.size = cells.size) (h1 : cells.all (·.oneCell') = true) (h : K (a.put o.dst undef) (w.setRow g cells)) : if Region.wanted o (yielded ops a.tmps) = true then Oper.wp P o a w K Q else E := by
  have hw : Region.wanted o (yielded ops a.tmps) = true := by simp [Region.wanted, hgd]
  rw [if_pos hw]
  exact wp_store_row ty x y ho g cells hx hy t old hg hi hold h1 h
theorem blk_on {V v1 : World} {g : Nat} {o : Obj} (hb : Below V.drew.heap.size V.drew v1) (hx : V.heap[g]? = some o) : v1.heap[g]? = some o := (hb.block g (Array.getElem?_eq_some_iff.1 hx).1).trans hx
theorem jset (h : JAt w J D b n t) (t' : Nat) : JAt (w.setCell ⟨J, 3, none⟩ (.int .i64 (t' : Int))) J D b n t' := by
  unfold JAt at h ⊢
  have hlt := (Array.getElem?_eq_some_iff.1 h).1
  rw [setCell_eq_setRow _ _ _ _ _ _ _ h, setRow_heap _ _ _ _ _ _ h]
  rfl
set_option maxRecDepth 100000 in
set_option maxHeartbeats 4000000 in
theorem jcommit (h : JAt w J D b n t) (hL : Lst w) (p : Option Addr) (L : List PageT) (c : Nat) (hp : Pgs w p L) (hl : L.length ≤ 1000) :
    Calls Tryz.prog 36 #[.pointer (some ⟨J, 0, none⟩), .slice p L.length c] w fun e w' => e = .returned (.agg (entC 2 t L.length 0 0 ⟨#[]⟩ L.length (U (sumB (textS L L.length))))) ∧ Below w.heap.size w w' := by
  obtain ⟨m, hm⟩ : ∃ m, L.length = m := ⟨_, rfl⟩
  obtain ⟨u, hu⟩ : ∃ u, U (sumB (textS L L.length)) = u := ⟨_, rfl⟩
  have HS := hid fun (V : World) (hV : Lst V) (hq : Pgs V p L) => (show Calls Tryz.prog 58 #[.slice p m c] V fun e w' => e = .returned (.int .u32 u) ∧ Below V.heap.size V w' by
    have h2 := En.sum_ok L p c V hV hq hl; rw [hu, hm] at h2; exact h2)
  rw [hu, hm]
  have HL := hid hL; have HG := hid hp; have HH := hid h
  have HP := hid hL.pos
  clear hL hp h hu hm hl
  have HB0 := hid ((Below.refl w.heap.size w).alloc (Nat.le_refl _) (.cells (entC 0 0 0 0 0 ⟨#[]⟩ 0 0) 72))
  have HX0 := hid (heap_alloc_new w (.cells (entC 0 0 0 0 0 ⟨#[]⟩ 0 0) 72))
  go_enter Tryz.func36, Tryz.ntmps36
  go_wp2_with fail
  generalize w.alloc (.cells (entC 0 0 0 0 0 ⟨#[]⟩ 0 0) 72) = X at *
  have HD := hid fun (V : World) (hv : Below X.heap.size X V) => (show V.cell? ⟨J, 3, none⟩ = some (.int .i64 (t : Int)) from ((HH.out.below HB0.out).below hv).cells.2.2.2)
  have B0 := hid (Below.refl X.heap.size X).drew
  have y0 := HD.out _ B0.out
  have x0 := HD.out _ (Below.refl X.heap.size X)
  refine wp_region_held_drew (S := (fun V => V.cell? ⟨J, 3, none⟩ = some (.int .i64 (t : Int)))) (by kernel_rfl) (by exact y0) (fun hHeld => ?_)
  refine wpAnyH_take (i := 0) (oi := { dst := some 5, op := Op.move (Operand.tmp 0), type := 33, pos := "journal.go:111", after := #[], guard := none }) (v := ?vc0) rfl (by kernel_rfl) (by kernel_rfl) (by kernel_rfl) (fun _ _ _ h => h) (Or.inl ⟨by rfl, ?hyc0⟩) (by assumption) ?restc0
  case hyc0 => (intro w hSw; (try dsimp only at hSw); go_simp; (try with_reducible rfl))
  simp only [Act.put, List.setIfInBounds_toArray, List.set_cons_zero, List.set_cons_succ]
  refine wpAnyH_take (i := 1) (oi := { dst := some 6, op := Op.nilCheck (Operand.tmp 5), type := 0, pos := "journal.go:111", after := #[{ on := 0, ground := Ground.data }], guard := none }) (v := ?vc1) rfl (by kernel_rfl) (by kernel_rfl) (by kernel_rfl) (fun _ _ _ h => h) (Or.inl ⟨by rfl, ?hyc1⟩) (by assumption) ?restc1
  case hyc1 => (intro w hSw; (try dsimp only at hSw); go_simp; (try with_reducible rfl))
  simp only [Act.put, List.setIfInBounds_toArray, List.set_cons_zero, List.set_cons_succ]
  refine wpAnyH_take (i := 2) (oi := { dst := some 7, op := Op.fieldAddr 68 (Operand.tmp 6) 3, type := 0, pos := "journal.go:111", after := #[{ on := 1, ground := Ground.data }], guard := none }) (v := ?vc2) rfl (by kernel_rfl) (by kernel_rfl) (by kernel_rfl) (fun _ _ _ h => h) (Or.inl ⟨by rfl, ?hyc2⟩) (by assumption) ?restc2
  case hyc2 => (intro w hSw; (try dsimp only at hSw); go_simp; (try with_reducible rfl))
  simp only [Act.put, List.setIfInBounds_toArray, List.set_cons_zero, List.set_cons_succ]
  refine wpAnyH_take (i := 3) (oi := { dst := some 8, op := Op.load 3 (Operand.tmp 7), type := 3, pos := "journal.go:111", after := #[{ on := 2, ground := Ground.data }], guard := none }) (v := ?vc3) rfl (by kernel_rfl) (by kernel_rfl) (by kernel_rfl) (fun _ _ _ h => h) (Or.inl ⟨by rfl, ?hyc3⟩) (by assumption) ?restc3
  case hyc3 => (intro w hSw; (try dsimp only at hSw); go_simp; (try with_reducible rfl))
  simp only [Act.put, List.setIfInBounds_toArray, List.set_cons_zero, List.set_cons_succ]
  refine wpAnyH_take (i := 4) (oi := { dst := some 9, op := Op.move (Operand.tmp 1), type := 39, pos := "journal.go:111", after := #[], guard := none }) (v := ?vc4) rfl (by kernel_rfl) (by kernel_rfl) (by kernel_rfl) (fun _ _ _ h => h) (Or.inl ⟨by rfl, ?hyc4⟩) (by assumption) ?restc4
  case hyc4 => (intro w hSw; (try dsimp only at hSw); go_simp; (try with_reducible rfl))
  simp only [Act.put, List.setIfInBounds_toArray, List.set_cons_zero, List.set_cons_succ]
  refine wpAnyH_take (i := 5) (oi := { dst := some 10, op := Op.call { callee := Callee.builtin Builtin.len, args := #[Operand.tmp 9], argTypes := #[39] }, type := 3, pos := "journal.go:111", after := #[{ on := 4, ground := Ground.data }], guard := none }) (v := ?vc5) rfl (by kernel_rfl) (by kernel_rfl) (by kernel_rfl) (fun _ _ _ h => h) (Or.inl ⟨by rfl, ?hyc5⟩) (by assumption) ?restc5
  case hyc5 => (intro w hSw; (try dsimp only at hSw); go_simp; (try with_reducible rfl))
  simp only [Act.put, List.setIfInBounds_toArray, List.set_cons_zero, List.set_cons_succ]
  refine wpAnyH_take (i := 6) (oi := { dst := some 11, op := Op.move (Operand.tmp 1), type := 39, pos := "journal.go:111", after := #[], guard := none }) (v := ?vc6) rfl (by kernel_rfl) (by kernel_rfl) (by kernel_rfl) (fun _ _ _ h => h) (Or.inl ⟨by rfl, ?hyc6⟩) (by assumption) ?restc6
  case hyc6 => (intro w hSw; (try dsimp only at hSw); go_simp; (try with_reducible rfl))
  simp only [Act.put, List.setIfInBounds_toArray, List.set_cons_zero, List.set_cons_succ]
  refine wpAnyH_take (i := 7) (oi := { dst := some 12, op := Op.call { callee := Callee.builtin Builtin.len, args := #[Operand.tmp 11], argTypes := #[39] }, type := 3, pos := "journal.go:111", after := #[{ on := 6, ground := Ground.data }], guard := none }) (v := ?vc7) rfl (by kernel_rfl) (by kernel_rfl) (by kernel_rfl) (fun _ _ _ h => h) (Or.inl ⟨by rfl, ?hyc7⟩) (by assumption) ?restc7
  case hyc7 => (intro w hSw; (try dsimp only at hSw); go_simp; (try with_reducible rfl))
  simp only [Act.put, List.setIfInBounds_toArray, List.set_cons_zero, List.set_cons_succ]
  refine wpAnyH_take (i := 8) (oi := { dst := some 13, op := Op.move (Operand.tmp 1), type := 39, pos := "journal.go:111", after := #[], guard := none }) (v := ?vc8) rfl (by kernel_rfl) (by kernel_rfl) (by kernel_rfl) (fun _ _ _ h => h) (Or.inl ⟨by rfl, ?hyc8⟩) (by assumption) ?restc8
  case hyc8 => (intro w hSw; (try dsimp only at hSw); go_simp; (try with_reducible rfl))
  simp only [Act.put, List.setIfInBounds_toArray, List.set_cons_zero, List.set_cons_succ]
  refine wpAnyH_ready (rs := [9]) (by kernel_rfl) (by simp) (AllReadyH.cons (o := { dst := some 14, op := Op.call { callee := Callee.value (Operand.func 58), args := #[Operand.tmp 13], argTypes := #[39] }, type := 70, pos := "journal.go:111", after := #[{ on := 8, ground := Ground.data }], guard := none }) rfl (fun K hK => ?_) AllReadyH.nil)
  go_simp
  go_at_call 58
  refine (HS.out _ (HL.out.next HP.out (HB0.out.trans (B0.out.mono HB0.out.size))) (HG.out.below (HB0.out.trans (B0.out.mono HB0.out.size)))).mono ?_
  rintro e v1 ⟨rfl, hb⟩
  have B1 := hid (B0.out.trans (hb.mono B0.out.size))
  have y1 := HD.out _ B1.out
  have HZ1 := hid (blk_on hb HX0.out)
  clear hb
  go_wp2_with fail
  refine hK.out _ _ y1 (fun hHeld => ?_)
  clear hK K
  refine wpAnyH_take (i := 10) (oi := { dst := some 15, op := Op.build 72 #[(0, Operand.const (Value.int IntKind.i64 2)), (1, Operand.tmp 8), (2, Operand.tmp 10), (4, Operand.tmp 12), (5, Operand.tmp 14)], type := 72, pos := "journal.go:111", after := #[{ on := 3, ground := Ground.data }, { on := 5, ground := Ground.data }, { on := 7, ground := Ground.data }, { on := 9, ground := Ground.data }], guard := none }) (v := ?vc10) rfl (by kernel_rfl) (by kernel_rfl) (by kernel_rfl) (fun _ _ _ h => h) (Or.inl ⟨by rfl, ?hyc10⟩) (by assumption) ?restc10
  case hyc10 => (intro w hSw; (try dsimp only at hSw); go_simp; (try with_reducible rfl))
  simp only [Act.put, List.setIfInBounds_toArray, List.set_cons_zero, List.set_cons_succ]
  refine wpAnyH_ready (rs := [11]) (by kernel_rfl) (by simp) (AllReadyH.cons (o := { dst := none, op := Op.store 72 (Operand.tmp 4) (Operand.tmp 15), type := 0, pos := "journal.go:111", after := #[{ on := 10, ground := Ground.data }, { on := 9, ground := Ground.chain }, { on := 0, ground := Ground.phase }, { on := 1, ground := Ground.phase }, { on := 2, ground := Ground.phase }, { on := 3, ground := Ground.phase }, { on := 4, ground := Ground.phase }, { on := 5, ground := Ground.phase }, { on := 6, ground := Ground.phase }, { on := 7, ground := Ground.phase }, { on := 8, ground := Ground.phase }, { on := 9, ground := Ground.phase }, { on := 10, ground := Ground.phase }], guard := none }) rfl (fun K hK => ?_) AllReadyH.nil)
  refine step_store rfl 72 (.tmp 4) (.tmp 15) rfl w.heap.size (entC 2 t m 0 0 ⟨#[]⟩ m u) rfl rfl 72 (entC 0 0 0 0 0 ⟨#[]⟩ 0 0) HZ1.out (infoC _ _ _ _ _ _ _ _) rfl (oneC _ _ _ _ _ _ _ _) ?_
  refine hK.out _ _ (by rw [cell_setRow_other _ _ _ _ (by intro e9; have e8 : J = w.heap.size := e9; have := HH.out.lt; omega)]; exact y1) (fun hHeld => ?_)
  clear hK K
  refine wpAnyH_done (by kernel_rfl) ?_ _
  have HF := hid (setRow_heap _ _ _ (entC 2 t m 0 0 ⟨#[]⟩ m u) _ _ HZ1.out)
  obtain ⟨q0, q1, q2, q3, q4, q5, q6, q7⟩ := ent_at HF.out
  go_wp2_with fail
  refine bodyPost_ret (v := .agg (entC 2 t m 0 0 ⟨#[]⟩ m u)) (by simp [results, Tryz.results36, go_sem, q0, q1, q2, q3, q4, q5, q6, q7]) rfl ⟨rfl, ?_⟩
  exact below_setRow (HB0.out.trans (B1.out.mono HB0.out.size)) (Nat.le_refl _) _
end
end Go.Proofs.YtaonifdfhlbaiaaGreatDoor.Jn

/- staged; Commit and Abort of a journal. -/
namespace Go.Proofs.YtaonifdfhlbaiaaGreatDoor.Jn
open Go.RowKit
open Go.Lib (hid)
open Go.Proofs.YtaonifdfhlbaiaaGreatDoor.Dk
open Go.Proofs.YtaonifdfhlbaiaaGreatDoor.En (Lst entC encR mayE mayS PageT Pgs ent_at infoC oneC textS)
open Go.Proofs.YtaonifdfhlbaiaaGreatDoor.Sm (U sumB wpList_store_whole)
/-- all may be staged -/
def AllS (L : List PageT) : Prop := ∀ j (h : j < L.length), mayS L[j].1 L[j].2.1 L[j].2.2
theorem pgs_ks {K : Nat → Prop} {w w' : World} {p : Option Addr} {L : List PageT} (h : Pgs w p L) (hk : KS K w w') (hK : ∀ g off, p = some ⟨g, off, none⟩ → 0 < L.length → K g) : Pgs w' p L := fun i hi => by
  obtain ⟨b, off, e, hb, c0, c1, c2⟩ := h i hi
  have hg := hK b off e (by omega)
  exact ⟨b, off, e, Nat.lt_of_lt_of_le hb hk.size, (ks_cell hk hg hb).trans c0, (ks_cell hk hg hb).trans c1, (ks_cell hk hg hb).trans c2⟩
theorem may1 {k n : Int} {b : ByteArray} (t i : Nat) (ht : 1 ≤ t) (ht2 : t ≤ 4294967295) (hi : i ≤ 999) (h : mayS k n b) : mayE 1 t i k n b 0 0 := ⟨by omega, by omega, by omega, by omega, .inl ⟨rfl, h, rfl, rfl⟩⟩
theorem may2 (t m : Nat) (u : Int) (ht : 1 ≤ t) (ht2 : t ≤ 4294967295) (hm : m ≤ 999) (hm1 : 1 ≤ m) : mayE 2 t m 0 0 ⟨#[]⟩ m u := ⟨by omega, by omega, by omega, by omega, .inr (.inl ⟨rfl, by omega, rfl, (En.noP_iff _ _ _).2 ⟨rfl, rfl, rfl⟩⟩)⟩
theorem may3 (t : Nat) (ht : 1 ≤ t) (ht2 : t ≤ 4294967295) : mayE 3 t (0 : Nat) 0 0 ⟨#[]⟩ 0 0 := ⟨by omega, by omega, by decide, by decide, .inr (.inr ⟨rfl, (En.noP_iff _ _ _).2 ⟨rfl, rfl, rfl⟩, rfl, rfl⟩)⟩
theorem notmay1 {k n : Int} {b : ByteArray} (h : ¬ mayS k n b) : ¬ mayE 1 1 0 k n b 0 0 := by
  rintro ⟨-, -, -, -, ⟨-, h2, -⟩ | ⟨h2, -⟩ | ⟨h2, -⟩⟩
  · exact h h2
  · exact absurd h2 (by decide)
  · exact absurd h2 (by decide)
set_option maxRecDepth 100000 in
set_option maxHeartbeats 4000000 in
theorem staged_any (L : List PageT) (p : Option Addr) (c : Nat) (w : World) (hL : Lst w) (hp : Pgs w p L) (hl : L.length ≤ 1000000) (r : Bool) (hr : r = true ↔ AllS L) :
    Calls Tryz.prog 33 #[.slice p L.length c] w fun e w' => e = .returned (.bool r) ∧ Below w.heap.size w w' := by
  obtain ⟨n, hn⟩ : ∃ n, L.length = n := ⟨_, rfl⟩
  have H := hid hp; have HN := hid hn; have HL := hid hL; have HR := hid hr
  rw [hn] at hl ⊢
  clear hp hn hL hr
  go_enter Tryz.func33, Tryz.ntmps33
  go_wp2_with fail
  go_loopw [7] (fun s wr => ∃ i : Nat, s = .int .i64 i ∧ i ≤ n ∧ Below w.heap.size w wr ∧ ∀ j (h : j < L.length), j < i → mayS L[j].1 L[j].2.1 L[j].2.2) (fun s _ => n - (intOf s).toNat)
  case atStart => exact ⟨0, rfl, Nat.zero_le _, Below.refl _ _, fun j _ hj => absurd hj (Nat.not_lt_zero _)⟩
  case round =>
    obtain ⟨i, rfl, hi, hb, hms⟩ := hrel
    have HB := hid hb; have HMS := hid hms
    clear hb hms
    by_cases hlt : i < n
    · have hiL : i < L.length := by rw [HN.out]; exact hlt
      obtain ⟨b, off, rfl, hbl, d0, d1, d2⟩ := H.out.below HB.out i hiL
      have HI := hid hlt
      have HLT := hid hiL
      obtain ⟨q0, e0⟩ : ∃ q, (L[i]'hiL) = q := ⟨_, rfl⟩
      rw [e0] at d0 d1 d2
      obtain ⟨k0, m0, b0⟩ := q0
      dsimp only at d0 d1 d2
      have HB1 := hid (HB.out.trans ((Below.refl wr.heap.size wr).alloc (Nat.le_refl _) (.cells #[.int .i64 k0, .int .i64 m0, .string b0] 62)|>.mono HB.out.size))
      have HE := hid (show mayS (L[i]'hiL).1 (L[i]'hiL).2.1 (L[i]'hiL).2.2 ↔ mayS k0 m0 b0 by rw [e0])
      clear e0
      by_cases hm : mayS k0 m0 b0
      · have HCK := hid fun (V : World) => En.check_yes 1 1 0 k0 m0 0 0 b0 V (may1 1 0 (by decide) (by decide) (by decide) hm)
        have HM := hid hm
        clear hm
        go_wp2_with fail
        refine (HCK.out _).mono ?_
        rintro e w2 ⟨rfl, hb⟩
        have HB2 := hid (HB1.out.trans (hb.mono HB1.out.size))
        clear hb
        go_wp2_with fail
        go_roundw
        case rel => exact ⟨i + 1, by go_num, HI.out, HB2.out, fun j hj hji => by
          rcases Nat.lt_or_ge j i with h | h
          · exact HMS.out j hj h
          · obtain rfl : j = i := by omega
            exact HE.out.2 HM.out⟩
        case measure => simp [intOf]; have := HI.out; omega
      · have HCK := hid fun (V : World) => En.check_no 1 1 0 k0 m0 0 0 b0 V (by decide) (notmay1 hm)
        have hrf : r = false := by
          cases hr2 : r with
          | false => rfl
          | true => exact absurd (HE.out.1 (HR.out.1 hr2 i HLT.out)) hm
        have HRF := hid hrf
        clear hm hrf
        go_wp2_with fail
        refine (HCK.out _).mono ?_
        rintro e w2 ⟨rfl, hb⟩
        have HB2 := hid (HB1.out.trans (hb.mono HB1.out.size))
        clear hb
        go_wp2_with fail
        go_ret
        exact ⟨by rw [HRF.out]; rfl, HB2.out⟩
    · obtain rfl : i = n := by omega
      have HRF := hid (show r = true from HR.out.2 fun j hj => HMS.out j hj (by rw [← HN.out]; exact hj))
      clear hlt hi
      go_wp2_with fail
      go_ret
      exact ⟨by rw [HRF.out]; rfl, HB.out⟩
/-- behind the writes of the first i pages -/
noncomputable def wrS (s : St) (b t : Nat) (L : List PageT) : Nat → St
  | 0 => s
  | i + 1 => (wrU (wrS s b t L i) ((b + i : Nat) : Int) (pgJ (b + i) 1 t (i : Nat) (L.getD i (0, 0, ⟨#[]⟩)).1 (L.getD i (0, 0, ⟨#[]⟩)).2.1 (L.getD i (0, 0, ⟨#[]⟩)).2.2 0 0)).2
/-- behind a Commit -/
noncomputable def comS (s : St) (b t : Nat) (L : List PageT) : St :=
  (flU (wrU (flU (wrS s b t L L.length)).2 ((b + L.length : Nat) : Int) (pgJ (b + L.length) 2 t (L.length : Nat) 0 0 ⟨#[]⟩ (L.length : Nat) (U (sumB (textS L L.length))))).2).2
/-- behind an Abort -/
noncomputable def aboS (s : St) (b t : Nat) : St := (flU (wrU s ((b : Nat) : Int) (pgJ b 3 t (0 : Nat) 0 0 ⟨#[]⟩ 0 0)).2).2
theorem few_wrS {s : St} {k : Nat} (h : Few s k) (b t : Nat) (L : List PageT) (i : Nat) : Few (wrS s b t L i) (k + i) := by
  induction i with
  | zero => exact h
  | succ i ih => exact few_wr ih _ _
theorem few_com {s : St} {k : Nat} (h : Few s k) (b t : Nat) (L : List PageT) : Few (comS s b t L) (k + L.length + 3) := few_fl (few_wr (few_fl (few_wrS h b t L L.length)) _ _)
theorem few_abo {s : St} {k : Nat} (h : Few s k) (b t : Nat) : Few (aboS s b t) (k + 2) := few_fl (few_wr h _ _)
/-- a journal's place -/
structure JOk (b n t : Nat) : Prop where
  n2 : 2 ≤ n
  n9 : n ≤ 999
  bn : b + n ≤ 1000
  t1 : 1 ≤ t
  t2 : t ≤ 4294967295
section
variable {K : Nat → Prop} {J D b n t : Nat} {wr : World} {s : St}
set_option maxHeartbeats 1000000 in
theorem jabort_nil (w : World) : Calls Tryz.prog 12 #[.pointer none] w fun e w' => e = .returned (.int .i64 1) ∧ w' = w := by
  go_enter Tryz.func12, Tryz.ntmps12
  go_wp2_with fail
  refine (made_nil _).mono ?_
  rintro e w' ⟨rfl, rfl⟩
  go_wp2_with fail
  go_ret
  exact ⟨rfl, rfl⟩
set_option maxRecDepth 100000 in
set_option maxHeartbeats 4000000 in
theorem jabort (h : Jk K J D wr s b n t) (ok : JOk b n t) {k : Nat} (hf : Few s k) (hk : k + 10 < 1000000) :
    Calls Tryz.prog 12 #[.pointer (some ⟨J, 0, none⟩)] wr fun e w' => e = .returned (.int .i64 0) ∧ Cd K D w' (aboS s b t) ∧ KS K wr w' := by
  have HJ := hid h
  have HW := hid (jwrite (kd := 3) (tx := (t : Int)) (pk := 0) (pn := 0) (i := 0) (bo := ⟨#[]⟩) (ct := 0) (sm := 0) h hf (by omega) (by decide) (by decide) (may3 t ok.t1 ok.t2) (by have := ok.bn; have := ok.n2; omega))
  unfold aboS
  rw [Nat.add_zero] at HW
  have hf2 := few_wr hf ((b : Nat) : Int) (pgJ b 3 t (0 : Nat) 0 0 ⟨#[]⟩ 0 0)
  generalize (wrU s ((b : Nat) : Int) (pgJ b 3 t (0 : Nat) 0 0 ⟨#[]⟩ 0 0)).2 = s2 at *
  have HF := hid fun (V : World) (c : Cd K D V s2) => c.flush hf2 (by omega)
  clear hf2 hf hk ok
  obtain ⟨j0, j1, j2, j3⟩ := h.j.cells
  clear h
  go_enter Tryz.func12, Tryz.ntmps12
  go_wp2_with fail
  refine (made_ok HJ.out.j).mono ?_
  rintro e w' ⟨rfl, rfl⟩
  go_wp2_with fail
  refine HW.out.mono ?_
  rintro e w1 ⟨rfl, hc, hks⟩
  have HC1 := hid hc
  have HK1 := hid hks
  have HJ1 := hid (HJ.out.step hc hks)
  clear hc hks j0 j1 j2 j3
  obtain ⟨j0, j1, j2, j3⟩ := HJ1.out.j.cells
  go_wp2_with fail
  refine (HF.out _ HC1.out).mono ?_
  rintro e w2 ⟨rfl, hc, hks⟩
  have HC2 := hid hc
  have HK2 := hid (HK1.out.trans hks)
  clear hc hks
  go_wp2_with fail
  go_ret
  exact ⟨rfl, HC2.out, HK2.out⟩
end
end Go.Proofs.YtaonifdfhlbaiaaGreatDoor.Jn

/- Commit of a journal. -/
namespace Go.Proofs.YtaonifdfhlbaiaaGreatDoor.Jn
open Go.RowKit
open Go.Lib (hid)
open Go.Proofs.YtaonifdfhlbaiaaGreatDoor.Dk
open Go.Proofs.YtaonifdfhlbaiaaGreatDoor.En (Lst entC encR mayE mayS PageT Pgs ent_at infoC oneC textS)
open Go.Proofs.YtaonifdfhlbaiaaGreatDoor.Sm (U sumB wpList_store_whole)
theorem KS.mono {K : Nat → Prop} {w w1 w2 : World} (h : KS K w w1) (g : Below w1.heap.size w1 w2) : KS K w w2 := h.trans (KS.of g)
section
variable {K : Nat → Prop} {J D b n t : Nat} {wr : World} {s : St}
set_option maxHeartbeats 1000000 in
theorem jcom_nil (w : World) (p : Option Addr) (m c : Nat) : Calls Tryz.prog 10 #[.pointer none, .slice p m c] w fun e w' => e = .returned (.int .i64 1) ∧ w' = w := by
  go_enter Tryz.func10, Tryz.ntmps10
  go_wp2_with fail
  refine (made_nil _).mono ?_
  rintro e w' ⟨rfl, rfl⟩
  go_wp2_with fail
  go_ret
  exact ⟨rfl, rfl⟩
set_option maxHeartbeats 1000000 in
theorem jcom_none (h : JAt wr J D b n t) (p : Option Addr) (c : Nat) : Calls Tryz.prog 10 #[.pointer (some ⟨J, 0, none⟩), .slice p 0 c] wr fun e w' => e = .returned (.int .i64 1) ∧ w' = wr := by
  have H := hid h
  clear h
  go_enter Tryz.func10, Tryz.ntmps10
  go_wp2_with fail
  refine (made_ok H.out).mono ?_
  rintro e w' ⟨rfl, rfl⟩
  go_wp2_with fail
  go_ret
  exact ⟨rfl, rfl⟩
set_option maxHeartbeats 1000000 in
theorem jcom_bad (h : JAt wr J D b n t) (hL : Lst wr) (p : Option Addr) (L : List PageT) (c : Nat) (hp : Pgs wr p L) (h0 : 0 < L.length) (hl : L.length ≤ 1000000) (hs : ¬ AllS L) :
    Calls Tryz.prog 10 #[.pointer (some ⟨J, 0, none⟩), .slice p L.length c] wr fun e w' => e = .returned (.int .i64 1) ∧ Below wr.heap.size wr w' := by
  have H := hid h
  have HS := hid (staged_any L p c wr hL hp hl false ⟨(fun h => by cases h), (fun h => absurd h hs)⟩)
  obtain ⟨m, hm⟩ : ∃ m, L.length = m := ⟨_, rfl⟩
  rw [hm] at HS h0 ⊢
  have e0 : ((m : Int) == 0) = false := by simp; omega
  have e1 : (m == 0) = false := by simp; omega
  clear h hL hp hl hs hm h0
  go_enter Tryz.func10, Tryz.ntmps10
  go_wp2_with fail
  refine (made_ok H.out).mono ?_
  rintro e w' ⟨rfl, rfl⟩
  go_wp2_with fail
  refine HS.out.mono ?_
  rintro e w2 ⟨rfl, hb⟩
  have HB := hid hb
  clear hb
  go_wp2_with fail
  go_ret
  exact ⟨rfl, HB.out⟩
set_option maxHeartbeats 1000000 in
theorem jcom_full (h : JAt wr J D b n t) (hL : Lst wr) (hn : n ≤ 999) (p : Option Addr) (L : List PageT) (c : Nat) (hp : Pgs wr p L) (h0 : 0 < L.length) (hl : L.length ≤ 1000000) (hs : AllS L) (r : Nat) (hr : n = r + 1) (hfl : r < L.length) :
    Calls Tryz.prog 10 #[.pointer (some ⟨J, 0, none⟩), .slice p L.length c] wr fun e w' => e = .returned (.int .i64 3) ∧ Below wr.heap.size wr w' := by
  have H := hid h
  have HS := hid (staged_any L p c wr hL hp hl true ⟨(fun _ => hs), (fun _ => rfl)⟩)
  have HR := hid fun (V : World) (hb : Below wr.heap.size wr V) => room_ok (h.below hb) r hr hn
  obtain ⟨m, hm⟩ : ∃ m, L.length = m := ⟨_, rfl⟩
  rw [hm] at HS h0 hfl ⊢
  have e0 : ((m : Int) == 0) = false := by simp; omega
  have e1 : (m == 0) = false := by simp; omega
  have e2 : decide ((r : Int) < (m : Int)) = true := by simp; omega
  have e3 : decide (r < m) = true := by simp; omega
  clear h hL hp hl hs hm h0 hn hr hfl
  go_enter Tryz.func10, Tryz.ntmps10
  go_wp2_with fail
  refine (made_ok H.out).mono ?_
  rintro e w' ⟨rfl, rfl⟩
  go_wp2_with fail
  refine HS.out.mono ?_
  rintro e w2 ⟨rfl, hb⟩
  have HB := hid hb
  clear hb
  go_wp2_with fail
  refine (HR.out _ HB.out).mono ?_
  rintro e w' ⟨rfl, rfl⟩
  go_wp2_with fail
  go_ret
  exact ⟨rfl, HB.out⟩
set_option maxRecDepth 100000 in
set_option maxHeartbeats 4000000 in
theorem jcom_ok {w0 : World} (h : Jk K J D w0 s b n t) (ok : JOk b n t) {k : Nat} (hf : Few s k) (p : Option Addr) (L : List PageT) (c : Nat) (hk : k + L.length + 10 < 1000000) (hp : Pgs w0 p L) (hK : ∀ g off, p = some ⟨g, off, none⟩ → 0 < L.length → K g) (h0 : 0 < L.length) (hs : AllS L) (r : Nat) (hr : n = r + 1) (hl : L.length ≤ r) :
    Calls Tryz.prog 10 #[.pointer (some ⟨J, 0, none⟩), .slice p L.length c] w0 fun e w' => e = .returned (.int .i64 0) ∧ Cd K D w' (comS s b t L) ∧ KS K w0 w' := by
  have HJ := hid h
  have HS := hid (staged_any L p c w0 h.lst hp (by have := ok.n9; omega) true ⟨(fun _ => hs), (fun _ => rfl)⟩)
  have HR := hid fun (V : World) (hb : Below w0.heap.size w0 V) => room_ok (h.j.below hb) r hr ok.n9
  have HG := hid fun (V : World) (hv : KS K w0 V) => pgs_ks hp hv hK
  have HCM := hid fun (V : World) (hj : JAt V J D b n t) (hl2 : Lst V) (hq : Pgs V p L) => jcommit hj hl2 p L c hq (by have := ok.n9; omega)
  have HAS := hid hs
  have HFW := hid fun i => few_wrS hf b t L i
  have HF1 := hid fun (V : World) (cd : Cd K D V (wrS s b t L L.length)) => cd.flush (few_wrS hf b t L L.length) (by omega)
  have HW2 := hid fun (V : World) (hj : Jk K J D V (flU (wrS s b t L L.length)).2 b n t) => jwrite (kd := 2) (tx := (t : Int)) (pk := 0) (pn := 0) (i := L.length) (bo := ⟨#[]⟩) (ct := (L.length : Nat)) (sm := U (sumB (textS L L.length))) hj (few_fl (few_wrS hf b t L L.length)) (by omega) (by unfold U; omega) (by unfold U; have := (sumB (textS L L.length)).isLt; omega) (may2 t L.length _ ok.t1 ok.t2 (by have := ok.n9; omega) h0) (by have := ok.bn; omega)
  have HF2 := hid fun (V : World) (cd : Cd K D V (wrU (flU (wrS s b t L L.length)).2 ((b + L.length : Nat) : Int) (pgJ (b + L.length) 2 t (L.length : Nat) 0 0 ⟨#[]⟩ (L.length : Nat) (U (sumB (textS L L.length))))).2) => cd.flush (few_wr (few_fl (few_wrS hf b t L L.length)) _ _) (by omega)
  have HWI := hid fun (i : Nat) (hi : i < L.length) (KX : Nat → Prop) (V : World) (hj : Jk KX J D V (wrS s b t L i) b n t) => jwrite (kd := 1) (tx := (t : Int)) (pk := (L[i]'hi).1) (pn := (L[i]'hi).2.1) (i := i) (bo := (L[i]'hi).2.2) (ct := 0) (sm := 0) hj (few_wrS hf b t L i) (by omega) (by decide) (by decide) (may1 t i ok.t1 ok.t2 (by have := ok.n9; omega) (hs i hi)) (by have := ok.bn; omega)
  have HWN := hid fun (i : Nat) (hi : i < L.length) => (show wrS s b t L (i + 1) = (wrU (wrS s b t L i) ((b + i : Nat) : Int) (pgJ (b + i) 1 t (i : Nat) (L[i]'hi).1 (L[i]'hi).2.1 (L[i]'hi).2.2 0 0)).2 by
    show (wrU (wrS s b t L i) _ _).2 = _
    rw [List.getD_eq_getElem?_getD, List.getElem?_eq_getElem hi]; rfl)
  unfold comS
  obtain ⟨m, hm⟩ : ∃ m, L.length = m := ⟨_, rfl⟩
  have HN := hid hm
  rw [hm] at HS h0 hl HCM HF1 HW2 HF2 ⊢
  have e0 : ((m : Int) == 0) = false := by simp; omega
  have e1 : (m == 0) = false := by simp; omega
  have e2 : decide ((r : Int) < (m : Int)) = false := by simp; omega
  have e3 : decide (r < m) = false := by simp; omega
  have HKM := hid (show m ≤ 1000 by have := ok.n9; omega)
  clear h hf hk hp hK h0 hs hr hl hm ok
  go_enter Tryz.func10, Tryz.ntmps10
  go_wp2_with fail
  refine (made_ok HJ.out.j).mono ?_
  rintro e w' ⟨rfl, hw⟩
  obtain rfl := hw.symm
  go_wp2_with fail
  refine HS.out.mono ?_
  rintro e w2 ⟨rfl, hb⟩
  have HB := hid (KS.of (K := K) hb)
  have HRR := hid (HR.out _ hb)
  have HJ2 := hid (HJ.out.next hb)
  clear hb
  go_wp2_with fail
  refine HRR.out.mono ?_
  rintro e w' ⟨rfl, hw⟩
  obtain rfl := hw.symm
  go_wp2_with fail
  clear e0 e1 e2 e3 HRR
  go_loopw [27] (fun x wx => ∃ i : Nat, x = .int .i64 i ∧ i ≤ m ∧ Jk K J D wx (wrS s b t L i) b n t ∧ KS K w0 wx) (fun x _ => m - (intOf x).toNat)
  case atStart => exact ⟨0, rfl, Nat.zero_le _, HJ2.out, HB.out⟩
  case round =>
    obtain ⟨i, rfl, hi, hj, hks⟩ := hrel
    have HJ3 := hid hj
    have HK3 := hid hks
    clear hj hks HB HJ2
    by_cases hlt : i < m
    · have hiL : i < L.length := by rw [HN.out]; exact hlt
      obtain ⟨g, off, rfl, hbl, d0, d1, d2⟩ := HG.out _ HK3.out i hiL
      have HI := hid hlt
      have HWI3 := hid (HWI.out i hiL)
      have HWN3 := hid (HWN.out i hiL)
      obtain ⟨q0, e0⟩ : ∃ q, (L[i]'hiL) = q := ⟨_, rfl⟩
      rw [e0] at d0 d1 d2 HWI3 HWN3
      obtain ⟨k0, m0, b0⟩ := q0
      dsimp only at d0 d1 d2
      clear e0
      have A4 := hid ((Below.refl wr.heap.size wr).alloc (Nat.le_refl _) (.cells #[.int .i64 k0, .int .i64 m0, .string b0] 62))
      have HX := hid (heap_alloc_new wr (.cells #[.int .i64 k0, .int .i64 m0, .string b0] 62))
      have HJ4 := hid (show Jk (fun j => K j ∨ j = wr.heap.size) J D (wr.alloc (.cells #[.int .i64 k0, .int .i64 m0, .string b0] 62)) (wrS s b t L i) b n t from ⟨HJ3.out.cd.more A4.out (fun k hk => hk.imp id (fun e => by omega)) (fun k hk => by
        rcases hk with hk | hk
        · have := HJ3.out.cd.lt k hk; simp; omega
        · subst hk; simp), .inl HJ3.out.kJ, .inl HJ3.out.k0, HJ3.out.j.below A4.out, HJ3.out.lst.next HJ3.out.lst.pos A4.out⟩)
      have HK4 := hid (HK3.out.trans (KS.of A4.out))
      go_wp2_with fail
      generalize wr.alloc (.cells #[.int .i64 k0, .int .i64 m0, .string b0] 62) = X at *
      have HDD := hid fun (V : World) (hv : KS (fun j => K j ∨ j = wr.heap.size) X V) => (show V.cell? ⟨J, 3, none⟩ = some (.int .i64 (t : Int)) ∧ V.cell? ⟨wr.heap.size, 0, none⟩ = some (.int .i64 k0) ∧ V.cell? ⟨wr.heap.size, 1, none⟩ = some (.int .i64 m0) ∧ V.cell? ⟨wr.heap.size, 2, none⟩ = some (.string b0) from by
        have hx := (hv.block wr.heap.size (Array.getElem?_eq_some_iff.1 HX.out).1 (.inr rfl)).trans HX.out
        exact ⟨(ks_cell hv HJ4.out.kJ HJ4.out.j.lt).trans HJ4.out.j.cells.2.2.2, by rw [cell_of_row _ _ _ _ _ _ hx]; rfl, by rw [cell_of_row _ _ _ _ _ _ hx]; rfl, by rw [cell_of_row _ _ _ _ _ _ hx]; rfl⟩)
      have y0 := HDD.out _ (KS.of (Below.refl X.heap.size X).drew)
      have x0 := HDD.out _ (KS.of (Below.refl X.heap.size X))
      have HJ5 := hid (HJ4.out.next (Below.refl X.heap.size X).drew)
      go_region_held3 (fun V => V.cell? ⟨J, 3, none⟩ = some (.int .i64 (t : Int)) ∧ V.cell? ⟨wr.heap.size, 0, none⟩ = some (.int .i64 k0) ∧ V.cell? ⟨wr.heap.size, 1, none⟩ = some (.int .i64 m0) ∧ V.cell? ⟨wr.heap.size, 2, none⟩ = some (.string b0)) (first | exact x0 | exact y0 | exact y1 | go_keep)
        (first
          | (go_at_call 34; with_reducible refine (HWI3.out _ _ HJ5.out).mono ?_; rintro e v1 ⟨rfl, hc, hks⟩; have HC1 := hid hc; have HK1 := hid ((KS.of (Below.refl X.heap.size X).drew).trans hks); have y1 := HDD.out _ HK1.out; clear hc hks)
          | fail)
      have HJ6 := hid (show Jk K J D v1 (wrS s b t L (i + 1)) b n t from by
        rw [HWN3.out]
        exact HJ3.out.step (HC1.out.less fun j e => .inl e) ((KS.of (K := K) (Below.refl wr.heap.size wr)).trans (KS.refl K wr) |>.trans (by exact (KS.less (KS.trans (KS.of A4.out) HK1.out) (fun j e => .inl e)))))
      have HK6 := hid (HK4.out.trans (KS.less HK1.out (fun j e => .inl e)))
      clear HX HJ4 HK4 HDD y0 x0 HJ5 HC1 HK1 y1 A4
      have hnn := HKM.out
      go_wp2_with fail
      go_roundw
      case rel => exact ⟨i + 1, by go_num, HI.out, HJ6.out, HK6.out⟩
      case measure => simp [intOf]; have := HI.out; omega
    · obtain rfl : i = m := by omega
      clear hlt hi
      obtain ⟨j0, j1, j2, j3⟩ := HJ3.out.j.cells
      go_wp2_with fail
      refine (HF1.out _ HJ3.out.cd).mono ?_
      rintro e w4 ⟨rfl, hc, hks⟩
      have HJ4 := hid (HJ3.out.step hc hks)
      have HK4 := hid (HK3.out.trans hks)
      clear hc hks j0 j1 j2 j3
      go_wp2_with fail
      refine (HCM.out _ HJ4.out.j HJ4.out.lst (HG.out _ HK4.out)).mono ?_
      rintro e w5 ⟨rfl, hb⟩
      have HJ5 := hid (HJ4.out.next hb)
      have HK5 := hid (HK4.out.trans (KS.of hb))
      clear hb
      go_wp2_with fail
      refine (HW2.out _ HJ5.out).mono ?_
      rintro e w6 ⟨rfl, hc, hks⟩
      have HJ6 := hid (HJ5.out.step hc hks)
      have HK6 := hid (HK5.out.trans hks)
      clear hc hks
      obtain ⟨j0, j1, j2, j3⟩ := HJ6.out.j.cells
      go_wp2_with fail
      refine (HF2.out _ HJ6.out.cd).mono ?_
      rintro e w7 ⟨rfl, hc, hks⟩
      have HC7 := hid hc
      have HK7 := hid (HK6.out.trans hks)
      clear hc hks
      go_wp2_with fail
      go_ret
      exact ⟨rfl, HC7.out, HK7.out⟩
end
end Go.Proofs.YtaonifdfhlbaiaaGreatDoor.Jn

/- Scan of a journal. -/
namespace Go.Proofs.YtaonifdfhlbaiaaGreatDoor.Jn
open Go.RowKit
open Go.Lib (hid)
open Go.Proofs.YtaonifdfhlbaiaaGreatDoor.Dk
open Go.Proofs.YtaonifdfhlbaiaaGreatDoor.En (Lst entC encR mayE mayS PageT Pgs ent_at infoC oneC textS entB flatP flatP_length flatP_one flatP_at row_keep)
open Go.Proofs.YtaonifdfhlbaiaaGreatDoor.Ap
open Go.Proofs.YtaonifdfhlbaiaaGreatDoor.Sm (U sumB wpList_store_whole)
/-- what a scan gives, from page i on, if these have come: read off the pages -/
inductive Scans (V : Nat → ByteArray) (b n t : Nat) : Nat → List PageT → Option (List PageT) → Prop
  | stop {i acc} : n ≤ i → Scans V b n t i acc none
  | no {i acc} : i < n → (∀ kd pk pn bo ct sm, ¬ IsJ (V (b + i)) (b + i) i t kd pk pn bo ct sm) → Scans V b n t i acc none
  | page {i acc pk pn bo ct sm r} : i < n → IsJ (V (b + i)) (b + i) i t 1 pk pn bo ct sm → Scans V b n t (i + 1) (acc ++ [(pk, pn, bo)]) r → Scans V b n t i acc r
  | done {i acc kd pk pn bo ct sm} : i < n → IsJ (V (b + i)) (b + i) i t kd pk pn bo ct sm → kd ≠ 1 → entB kd t i pk pn bo ct sm 2 t acc.length 0 0 ⟨#[]⟩ acc.length (U (sumB (textS acc acc.length))) = true → Scans V b n t i acc (some acc)
  | other {i acc kd pk pn bo ct sm} : i < n → IsJ (V (b + i)) (b + i) i t kd pk pn bo ct sm → kd ≠ 1 → entB kd t i pk pn bo ct sm 2 t acc.length 0 0 ⟨#[]⟩ acc.length (U (sumB (textS acc acc.length))) = false → Scans V b n t i acc none
/-- what is read of a disk -/
def vw (s : St) (m : Nat) : ByteArray := (applyW s.pages s.waits).getD m emptyB
/-- as a disk was, but for its reads -/
structure Same (s s' : St) : Prop where
  pages : s'.pages = s.pages
  waits : s'.waits = s.waits
  fuse : s'.fuse = s.fuse
  writes : s'.writes = s.writes
  flushes : s'.flushes = s.flushes
theorem Same.refl (s : St) : Same s s := ⟨rfl, rfl, rfl, rfl, rfl⟩
theorem Same.trans {s s' s2 : St} (h : Same s s') (g : Same s' s2) : Same s s2 := ⟨g.pages.trans h.pages, g.waits.trans h.waits, g.fuse.trans h.fuse, g.writes.trans h.writes, g.flushes.trans h.flushes⟩
theorem Same.rd (s : St) (n : Int) : Same s (rdU s n).2.2 := by unfold rdU; split <;> exact ⟨rfl, rfl, rfl, rfl, rfl⟩
theorem Same.vw {s s' : St} (h : Same s s') : Jn.vw s' = Jn.vw s := by unfold Jn.vw; rw [h.pages, h.waits]
theorem rd_vw {s : St} {m : Nat} (h : m < s.pages.length) : (rdU s (m : Int)).1 = vw s m := by
  unfold rdU vw
  rw [if_pos ⟨by omega, by omega⟩, Int.toNat_natCast]
theorem KS.grown {K : Nat → Prop} {w0 w w' : World} {o : Option Nat} (h : KS K w0 w) (hg : w.grownBy w' o) (ho : ∀ g, o = some g → w0.heap.size ≤ g) : KS K w0 w' := by
  obtain ⟨h1, h2, h3, h4, h5⟩ := hg
  exact ⟨h1.trans h.os, h2.trans h.tape, h3.trans h.output, Nat.le_trans h.size h4, fun k hk hK => (h5 k (Nat.lt_of_lt_of_le hk h.size) (fun e => by have := ho k e.symm; omega)).trans (h.block k hk hK)⟩
theorem Cd.app {K : Nat → Prop} {D : Nat} {w w' : World} {s : St} {v v' : Value} (h : Cd (fun j => K j ∨ v.ownBlock = some j) D w s) (hg : w.grownBy w' v.ownBlock) (hv : v'.ownBlock = v.ownBlock ∨ v'.ownBlock = some w.heap.size) (hl : ∀ g, v'.ownBlock = some g → g < w'.heap.size) :
    Cd (fun j => K j ∨ v'.ownBlock = some j) D w' s := by
  obtain ⟨a, h1, h3, h5⟩ := h.ex
  obtain ⟨g1, g2, g3, g4, g5⟩ := hg
  refine ⟨⟨a, h1, h3.kept fun k hk => g5 k (h3.lt k hk) (fun e => h5 k hk (.inr e.symm)), fun k hf e => ?_⟩, fun k e => ?_⟩
  · have hlt := h3.lt k hf
    rcases e with e | e
    · exact h5 k hf (.inl e)
    · rcases hv with h6 | h6
      · exact h5 k hf (.inr (h6 ▸ e))
      · rw [h6] at e; injection e with e; omega
  · rcases e with e | e
    · exact Nat.lt_of_lt_of_le (h.lt k (.inl e)) g4
    · exact hl k e
theorem Jk.at {K K' : Nat → Prop} {J D b n t : Nat} {w0 wr : World} {s s' : St} (h : Jk K J D w0 s b n t) (hk : KS K w0 wr) (cd : Cd K' D wr s') (hKK : ∀ j, K j → K' j) : Jk K' J D wr s' b n t :=
  ⟨cd, hKK _ h.kJ, hKK _ h.k0, (hk.block J h.j.lt h.kJ).trans h.j, lst_ks h.lst h.k0 hk⟩
theorem own_pgs {w : World} {base n c : Nat} {p : Option Addr} {L : List PageT} (h : w.ownsRow base 62 3 (.slice p n c) n (flatP L)) (hn : L.length = n) : Pgs w p L := fun i hi => by
  rcases h.2 with ⟨h1, h2⟩ | ⟨g, cap, cur, e, _, hh, hle, hcm, hsz, ht⟩
  · omega
  · injection e with e1 e2 e3
    subst e1
    obtain ⟨a0, a1, a2⟩ := flatP_at L i hi
    have hc : ∀ j u, (flatP L)[j]? = some u → w.cell? ⟨g, 0 + j, none⟩ = some u := fun j u hj => by
      rw [cell_of_row _ _ _ _ _ _ hh, Nat.zero_add]
      have hjl : j < n * 3 := by rw [← hn, ← flatP_length]; exact (List.getElem?_eq_some_iff.1 hj).1
      rw [← ht, List.getElem?_take, if_pos hjl, Array.getElem?_toList] at hj
      exact hj
    exact ⟨g, 0, rfl, (Array.getElem?_eq_some_iff.1 hh).1, hc _ _ a0, hc _ _ a1, hc _ _ a2⟩
/-- what an append of a page onto a row of the call's own gives -/
def POwn (w : World) (base : Nat) (v : Value) (n : Nat) (L : List PageT) (v' : Value) (w' : World) : Prop :=
  w'.ownsRow base 62 3 v' n (flatP L) ∧ w.grownBy w' v.ownBlock ∧ (v'.ownBlock = v.ownBlock ∨ v'.ownBlock = some w.heap.size)
theorem pages_own {w : World} (ty : TypeId) {base : Nat} (v : Value) (L : List PageT) (n : Nat) (hn : L.length = n) (hown : w.ownsRow base 62 3 v n (flatP L)) (q : Option Addr) (c : Nat) (x : PageT) (hq : Pgs w q [x]) (hb : n ≤ 100000) (hbase : base ≤ w.heap.size) :
    ∃ v' w', (Builtin.append_ #[39, 39] ty #[v, .slice q 1 c]).run Tryz.prog w = .ok v' w' ∧ POwn w base v (n + 1) (L ++ [x]) v' w' := by
  obtain ⟨i, hi, hz0, hz1, hz2⟩ := Ap.info_parts En.pinfo
  obtain ⟨v', w', hr, h1, h2, h3⟩ := run_app_own (P := Tryz.prog) Tryz.underlying39 hi hz0 hz1 hz2 rfl (by decide) ty v n (flatP L) hown q 1 c (flatP [x]) hq.read (by rw [flatP_length]; rfl) (flatP_one _) (by unfold maxLen; omega) (by omega) hbase
  refine ⟨v', w', hr, ?_, h2, h3⟩
  rw [show flatP (L ++ [x]) = flatP L ++ flatP [x] by unfold flatP; rw [List.flatMap_append]]
  exact h1
theorem own_slice {w : World} {base n : Nat} {x : Value} {xs : List Value} (h : w.ownsRow base 62 3 x n xs) : ∃ p c, x = .slice p n c ∧ (∀ g, x.ownBlock = some g → base ≤ g ∧ g < w.heap.size) ∧ ∀ g off, p = some ⟨g, off, none⟩ → x.ownBlock = some g := by
  rcases h.2 with ⟨h1, h2⟩ | ⟨g, cap, cur, e, hge, hh, _⟩
  · subst h1
    obtain rfl : n = 0 := by omega
    exact ⟨none, 0, rfl, (fun g hg => by simp [Value.ownBlock] at hg), (fun g off e => by cases e)⟩
  · subst e
    refine ⟨_, cap, rfl, fun g' hg' => ?_, fun g' off e => ?_⟩
    · simp [Value.ownBlock] at hg'
      subst hg'
      exact ⟨hge, (Array.getElem?_eq_some_iff.1 hh).1⟩
    · injection e with e; injection e with e1 e2
      subst e1; rfl
theorem few_up {s : St} {k k' : Nat} (h : Few s k) (hk : k ≤ k') : Few s k' := ⟨Nat.le_trans h.waits hk, by have := h.reads; omega, by have := h.writes; omega, by have := h.flushes; omega⟩
/-- what Scan returns -/
def ScanE (r : Option (List PageT)) (e : Ending) (w' : World) (K' : Nat → Prop) (N : Nat) : Prop := match r with
  | none => e = .returned (.tuple #[.slice none 0 0, .bool false])
  | some L => ∃ p c, e = .returned (.tuple #[.slice p L.length c, .bool true]) ∧ Pgs w' p L ∧ ∀ g off, p = some ⟨g, off, none⟩ → K' g ∧ N ≤ g
section
variable {K : Nat → Prop} {J D b n t : Nat}
set_option maxHeartbeats 1000000 in
theorem jscan_nil (w : World) : Calls Tryz.prog 20 #[.pointer none] w fun e w' => e = .returned (.tuple #[.slice none 0 0, .bool false]) ∧ w' = w := by
  go_enter Tryz.func20, Tryz.ntmps20
  go_wp2_with fail
  go_step3
  go_wp2_with fail
  refine (made_nil _).mono ?_
  rintro e w' ⟨rfl, rfl⟩
  go_wp2_with fail
  try rw [Exit.noGoto_ret]
  go_ret2
  exact ⟨rfl, rfl⟩
set_option maxRecDepth 100000 in
set_option maxHeartbeats 4000000 in
theorem jscan {w0 : World} {s : St} (h : Jk K J D w0 s b n t) (ok : JOk b n t) (hpg : b + n ≤ s.pages.length) {k : Nat} (hf : Few s k) (hk : k + 1010 < 1000000) :
    Calls Tryz.prog 20 #[.pointer (some ⟨J, 0, none⟩)] w0 fun e w' => ∃ r s' K', Scans (vw s) b n t 0 [] r ∧ ScanE r e w' K' w0.heap.size ∧ (∀ j, K j → K' j) ∧ Cd K' D w' s' ∧ KS K w0 w' ∧ Same s s' ∧ Few s' (k + n) := by
  have HJ := hid h
  have HO := hid ok
  have HPG := hid hpg
  have HKK := hid hk
  have HFS := hid hf
  have hn9 : n ≤ 999 := ok.n9
  obtain ⟨j0, j1, j2, j3⟩ := h.j.cells
  clear h ok hpg hf hk
  go_enter Tryz.func20, Tryz.ntmps20
  go_wp2_with fail
  go_step3
  go_wp2_with fail
  refine (made_ok HJ.out.j).mono ?_
  rintro e w' ⟨rfl, hw⟩
  obtain rfl := hw.symm
  go_wp2_with fail
  go_step3
  go_wp2_with fail
  clear j0 j1 j2 j3
  go_loopw [4, 15] (fun x y wr => ∃ (i : Nat) (acc : List PageT) (s' : St), y = .int .i64 i ∧ i ≤ n ∧ acc.length = i ∧ wr.ownsRow w0.heap.size 62 3 x i (flatP acc) ∧ Cd (fun j => K j ∨ x.ownBlock = some j) D wr s' ∧ KS K w0 wr ∧ Same s s' ∧ Few s' (k + i) ∧ ∀ r, Scans (vw s) b n t i acc r → Scans (vw s) b n t 0 [] r) (fun _ y _ => n - (intOf y).toNat)
  case atStart => exact ⟨0, [], s, rfl, Nat.zero_le _, rfl, ⟨rfl, .inl ⟨rfl, rfl⟩⟩, HJ.out.cd.less (fun j hj => hj.elim id (fun e => by simp [Value.ownBlock] at e)), KS.refl _ _, Same.refl _, HFS.out, fun r hr => hr⟩
  case round =>
    obtain ⟨i, acc, s', rfl, hi, hacc, hown, hcd, hks, hsm, hfw, hsc⟩ := hrel
    obtain ⟨p, c, rfl, hob, hpo⟩ := own_slice hown
    have HOW := hid hown; have HCD := hid hcd; have HK3 := hid hks; have HSM := hid hsm; have HFW := hid hfw; have HSC := hid hsc; have HOB := hid hob; have HPO := hid hpo
    have HAC := hid hacc
    clear hown hcd hks hsm hfw hsc hob hpo hacc
    by_cases hlt : i < n
    · have HJ3 := hid (HJ.out.at HK3.out HCD.out (fun j e => .inl e))
      have HRD := hid (jread HJ3.out HFW.out (by have := HKK.out; omega) i (by have := HO.out.bn; omega))
      have HI := hid hlt
      have HVW := hid (show (rdU s' ((b + i : Nat) : Int)).1 = vw s (b + i) by rw [rd_vw (by rw [HSM.out.pages]; have := HPG.out; omega), HSM.out.vw])
      have HS4 := hid (HSM.out.trans (Same.rd s' ((b + i : Nat) : Int)))
      have HF4 := hid (few_rd HFW.out ((b + i : Nat) : Int))
      rw [HVW.out] at HRD
      generalize (rdU s' ((b + i : Nat) : Int)).2.2 = s4 at *
      clear HVW HSM HFW HJ3
      go_wp2_with fail
      refine HRD.out.mono ?_
      rintro e w1 ⟨hr, hc, hk2⟩
      have HC1 := hid hc
      have HK1 := hid (HK3.out.trans (KS.less hk2 (fun j e => .inl e)))
      have HOW1 := hid (row_keep HOW.out (fun g hg => hk2.block g (HOB.out g hg).2 (.inr hg)))
      clear HOW HCD HK3 HRD hc hk2
      rcases hr with ⟨kd, pk, pn, bo, ct, sm, hij, rfl⟩ | ⟨hno, rfl⟩
      · have HIJ := hid hij
        clear hij
        have A2 := hid ((Below.refl w1.heap.size w1).alloc (Nat.le_refl _) (.cells (entC kd t i pk pn bo ct sm) 72))
        have HX2 := hid (heap_alloc_new w1 (.cells (entC kd t i pk pn bo ct sm) 72))
        have HC2 := hid (HC1.out.next A2.out)
        have HK2 := hid (HK1.out.trans (KS.of A2.out))
        have HOW2 := hid (row_keep HOW1.out (fun g hg => A2.out.block g (HC1.out.lt g (.inr hg))))
        clear HC1 HK1 HOW1
        by_cases hk1 : kd = 1
        · subst hk1
          have A3 := hid ((Below.refl (w1.alloc (.cells (entC 1 t i pk pn bo ct sm) 72)).heap.size (w1.alloc (.cells (entC 1 t i pk pn bo ct sm) 72))).alloc (Nat.le_refl _) (.cells #[.int .i64 pk, .int .i64 pn, .string bo] 62))
          have HC3 := hid (HC2.out.next A3.out)
          have HK3 := hid (HK2.out.trans (KS.of A3.out))
          have HOW3 := hid (row_keep HOW2.out (fun g hg => A3.out.block g (HC2.out.lt g (.inr hg))))
          have HQ3 := hid (show Pgs ((w1.alloc (.cells (entC 1 t i pk pn bo ct sm) 72)).alloc (.cells #[.int .i64 pk, .int .i64 pn, .string bo] 62)) (some ⟨w1.heap.size + 1, 0, none⟩) [(pk, pn, bo)] from by
            have h := heap_alloc_new (w1.alloc (.cells (entC 1 t i pk pn bo ct sm) 72)) (.cells #[.int .i64 pk, .int .i64 pn, .string bo] 62)
            rw [show (w1.alloc (.cells (entC 1 t i pk pn bo ct sm) 72)).heap.size = w1.heap.size + 1 by simp] at h
            intro j hj
            obtain rfl : j = 0 := by simp at hj; omega
            exact ⟨w1.heap.size + 1, 0, rfl, (Array.getElem?_eq_some_iff.1 h).1, by rw [cell_of_row _ _ _ _ _ _ h]; rfl, by rw [cell_of_row _ _ _ _ _ _ h]; rfl, by rw [cell_of_row _ _ _ _ _ _ h]; rfl⟩)
          have HAP := hid (pages_own 39 (.slice p i c) acc i HAC.out HOW3.out (some ⟨w1.heap.size + 1, 0, none⟩) 1 (pk, pn, bo) HQ3.out (by omega) HK3.out.size)
          clear HX2 HC2 HK2 HOW2 A2
          go_wp2_with (at_builtin; refine wpList_app rfl _ _ _ rfl rfl rfl HAP.out ?_)
          rintro v4 w4 ⟨hown4, hg4, hv4⟩
          have HOW4 := hid hown4
          have HC4 := hid (Cd.app HC3.out hg4 hv4 (fun g hg => by
            obtain ⟨_, _, _, h2, _⟩ := own_slice hown4
            exact (h2 g hg).2))
          have HK4 := hid (KS.grown HK3.out hg4 (fun g hg => (HOB.out g hg).1))
          clear hown4 hg4 hv4 HAP HQ3 A3 HC3 HK3 HOW3
          go_wp2_with fail
          go_roundw
          case rel => exact ⟨i + 1, acc ++ [(pk, pn, bo)], s4, by go_num, HI.out, by rw [List.length_append, HAC.out]; rfl, HOW4.out, HC4.out, HK4.out, HS4.out, HF4.out, fun r hr => HSC.out r (Scans.page HI.out HIJ.out hr)⟩
          case measure => simp [intOf]; have := HI.out; omega
        · have x1 : (kd == 1) = false := by simpa using hk1
          have HK1' := hid hk1
          clear hk1
          obtain ⟨u, hu⟩ : ∃ u, U (sumB (textS acc acc.length)) = u := ⟨_, rfl⟩
          have HPG2 := hid (own_pgs HOW2.out HAC.out)
          have HCM := hid fun (V : World) (hj : JAt V J D b n t) (hl2 : Lst V) (hq : Pgs V p acc) => (show Calls Tryz.prog 36 #[.pointer (some ⟨J, 0, none⟩), .slice p i c] V fun e w' => e = .returned (.agg (entC 2 t i 0 0 ⟨#[]⟩ i u)) ∧ Below V.heap.size V w' from by
            have h2 := jcommit hj hl2 p acc c hq (by have := HAC.out; omega)
            rw [hu, HAC.out] at h2; exact h2)
          have HU := hid hu
          have HJX := hid (HJ.out.at HK2.out HC2.out (fun j e => .inl e))
          clear hu
          go_wp2_with fail
          generalize w1.alloc (.cells (entC kd t i pk pn bo ct sm) 72) = X at *
          have HD := hid fun (V : World) (hv : Below X.heap.size X V) => (show V.cell? ⟨w1.heap.size, 0, none⟩ = some (.int .i64 kd) ∧ V.cell? ⟨w1.heap.size, 1, none⟩ = some (.int .i64 t) ∧ V.cell? ⟨w1.heap.size, 2, none⟩ = some (.int .i64 i) ∧ V.cell? ⟨w1.heap.size, 3, none⟩ = some (.int .i64 pk) ∧ V.cell? ⟨w1.heap.size, 4, none⟩ = some (.int .i64 pn) ∧ V.cell? ⟨w1.heap.size, 5, none⟩ = some (.string bo) ∧ V.cell? ⟨w1.heap.size, 6, none⟩ = some (.int .i64 ct) ∧ V.cell? ⟨w1.heap.size, 7, none⟩ = some (.int .u32 sm) from by
            exact ent_at ((hv.block w1.heap.size (Array.getElem?_eq_some_iff.1 HX2.out).1).trans HX2.out))
          have B0 := hid (Below.refl X.heap.size X).drew
          have y0 := HD.out _ B0.out
          have x0 := HD.out _ (Below.refl X.heap.size X)
          obtain ⟨Bq, hBq⟩ : ∃ B, entB kd t i pk pn bo ct sm 2 t i 0 0 ⟨#[]⟩ i u = B := ⟨_, rfl⟩
          have heq := fun V => (En.eql32 kd t i pk pn bo ct sm 2 t i 0 0 ⟨#[]⟩ i u V).trans (by rw [hBq])
          have HBQ := hid hBq
          clear hBq
          go_region_held3 (fun V => V.cell? ⟨w1.heap.size, 0, none⟩ = some (.int .i64 kd) ∧ V.cell? ⟨w1.heap.size, 1, none⟩ = some (.int .i64 t) ∧ V.cell? ⟨w1.heap.size, 2, none⟩ = some (.int .i64 i) ∧ V.cell? ⟨w1.heap.size, 3, none⟩ = some (.int .i64 pk) ∧ V.cell? ⟨w1.heap.size, 4, none⟩ = some (.int .i64 pn) ∧ V.cell? ⟨w1.heap.size, 5, none⟩ = some (.string bo) ∧ V.cell? ⟨w1.heap.size, 6, none⟩ = some (.int .i64 ct) ∧ V.cell? ⟨w1.heap.size, 7, none⟩ = some (.int .u32 sm)) (first | exact x0 | exact y0 | exact y1 | go_keep)
            (first
              | (go_at_call 36; with_reducible refine (HCM.out _ (HJX.out.next B0.out).j (HJX.out.next B0.out).lst (HPG2.out.below B0.out)).mono ?_; rintro e v1 ⟨rfl, hb⟩; have B1 := hid (B0.out.trans (hb.mono B0.out.size)); have y1 := HD.out _ B1.out; clear hb)
              | fail)
          clear heq x0 y0 y1 HD HCM
          have HC3 := hid (HC2.out.next B1.out)
          have HK3 := hid (HK2.out.trans (KS.of B1.out))
          have HP3 := hid (HPG2.out.below B1.out)
          cases hB2 : Bq with
          | true =>
            subst hB2
            go_wp2_with fail
            try rw [Exit.noGoto_ret]
            go_ret2
            refine ⟨some acc, s4, _, HSC.out _ (Scans.done HI.out HIJ.out HK1'.out (by rw [HAC.out, show textS acc i = textS acc acc.length by rw [HAC.out], HU.out]; exact HBQ.out)), ⟨p, c, by rw [HAC.out]; rfl, HP3.out, fun g off e => ⟨.inr (HPO.out g off e), (HOB.out g (HPO.out g off e)).1⟩⟩, (fun j e => .inl e), HC3.out, HK3.out, HS4.out, ?_⟩
            exact few_up HF4.out (by omega)
          | false =>
            subst hB2
            go_wp2_with fail
            try rw [Exit.noGoto_ret]
            go_ret2
            refine ⟨none, s4, _, HSC.out _ (Scans.other HI.out HIJ.out HK1'.out (by rw [HAC.out, show textS acc i = textS acc acc.length by rw [HAC.out], HU.out]; exact HBQ.out)), rfl, (fun j e => .inl e), HC3.out, HK3.out, HS4.out, ?_⟩
            exact few_up HF4.out (by omega)
      · have HNO := hid hno
        clear hno
        go_wp2_with fail
        try rw [Exit.noGoto_ret]
        go_ret2
        refine ⟨none, s4, _, HSC.out _ (Scans.no HI.out HNO.out), rfl, (fun j e => .inl e), HC1.out.next ((Below.refl w1.heap.size w1).alloc (Nat.le_refl _) _), HK1.out.trans (KS.of ((Below.refl w1.heap.size w1).alloc (Nat.le_refl _) _)), HS4.out, ?_⟩
        exact few_up HF4.out (by omega)
    · obtain rfl : i = n := by omega
      go_wp2_with fail
      try rw [Exit.noGoto_ret]
      go_ret2
      exact ⟨none, s', _, HSC.out _ (Scans.stop (Nat.le_refl _)), rfl, (fun j e => .inl e), HCD.out, HK3.out, HSM.out, few_up HFW.out (by omega)⟩
end
end Go.Proofs.YtaonifdfhlbaiaaGreatDoor.Jn
