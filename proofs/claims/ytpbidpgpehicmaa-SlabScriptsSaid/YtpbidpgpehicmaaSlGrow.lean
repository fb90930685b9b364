/- Grow of slab. -/
import Derived.Test.YtpbidpgpehicmaaSlGrowM
import Derived.RangeFuncWrites
import Derived.Maps.AppendAt
namespace Go.Proofs.Ytpbidpgpehicmaa.Sl
open Go.RowKit Go.Shelf
open Go.Lib (hid)
attribute [local go_sem] Oper.semAt_some

theorem rowL_length {α : Type} (C : List α) (L n Q : Nat) (h : n < Q) (hC : C.length = Q * L) : (rowL C L n).length = L := by
  unfold rowL
  rw [List.length_take, List.length_drop, hC]
  have : (n + 1) * L ≤ Q * L := Nat.mul_le_mul_right _ h
  rw [Nat.add_mul, Nat.one_mul] at this
  omega
theorem mul_in (q sz tot : Nat) (h : tot = q * (sz + 1)) (hm : tot ≤ 4096) : wrap64 ((q : Int) * ((sz : Int) + 1)) = (tot : Int) := by
  have e : (q : Int) * ((sz : Int) + 1) = (tot : Int) := by rw [h, Int.natCast_mul, Int.natCast_add]; rfl
  rw [e]
  clear e h
  exact Go.IntWalk.wrap64_in _ (by omega)
theorem most_in (tot : Nat) (hm : tot ≤ 4096) : decide ((4096 : Int) < (tot : Int)) = false := decide_eq_false (by omega)
theorem make_some (tot : Nat) (h : tot ≤ 4096) : ∀ V : World, (Instr.makeSlice 30 (.int .i64 0) (.int .i64 (tot : Int))).run Try.prog V = .ok (.slice (some ⟨V.heap.size, 0, none⟩) 0 tot) (V.alloc (.cells (madeCells #[Value.int .i64 0] tot) 3)) := fun V => by
  obtain ⟨i, hi, hz, hs, hb⟩ := info_parts iinfo
  have h1 : (tot : Int).toNat * i.size ≤ 16777216 := by rw [hs, Int.toNat_natCast]; omega
  have h2 : (i.bytes : Int) * (tot : Int) ≤ 281474976710656 := by rw [hb]; omega
  have h3 : (tot : Int) ≤ 9223372036854775807 := by omega
  rw [run_makeSlice (P := Try.prog) (w := V) 30 3 i (.int .i64 0) Try.underlying30 hi hz .i64 .i64 0 tot (by omega) (by omega) h1 h2 h3]
  rw [Int.toNat_natCast, hs, Nat.mul_one]
  rfl
theorem new_at (w : World) (o : Obj) (k : Nat) (h : k = w.heap.size) : (w.alloc o).heap[k]? = some o := by subst h; exact World.alloc_heap_new w o
theorem own_base {w : World} {B B' : Nat} {e : TypeId} {size : Nat} {v : Value} {n : Nat} {xs : List Value} (h : w.ownsRow B e size v n xs) (hb : B' ≤ B) : w.ownsRow B' e size v n xs := by
  refine ⟨h.1, ?_⟩
  rcases h.2 with h | ⟨g, cap, cur, e, h1, h2⟩
  · exact .inl h
  · exact .inr ⟨g, cap, cur, e, Nat.le_trans hb h1, h2⟩
theorem own_shape {w : World} {base : Nat} {e : TypeId} {size : Nat} {v : Value} {n : Nat} {xs : List Value} (h : w.ownsRow base e size v n xs) : ∃ p c, v = .slice p n c := by
  rcases h.2 with ⟨e, hz⟩ | ⟨g, cap, cur, e, _⟩
  · exact ⟨none, 0, by rw [e, hz]⟩
  · exact ⟨_, cap, e⟩
/-- a variable's box with a row of its own: what an append and the store behind it leave -/
theorem out_step {W w1 : World} {B0 rb ob N n n' : Nat} {v v' : Value} {xs ys : List Value} (hv : Boxed W ob 30 v) (hrow : W.ownsRow B0 3 1 v n xs) (hG : ∀ k, v.ownBlock = some k → k = rb ∨ N ≤ k)
    (h : Owns W B0 3 1 v n' ys v' w1) (hN : N ≤ W.heap.size) (hob : ob < N) (hne : ob ≠ rb) :
    Boxed w1 ob 30 v ∧ Boxed (w1.setCell ⟨ob, 0, none⟩ v') ob 30 v' ∧ (w1.setCell ⟨ob, 0, none⟩ v').ownsRow B0 3 1 v' n' ys ∧ (∀ k, v'.ownBlock = some k → k = rb ∨ N ≤ k) ∧ KeepsFrom N W (w1.setCell ⟨ob, 0, none⟩ v') ∧
    Stay N (fun k => k = rb ∨ k = ob) W (w1.setCell ⟨ob, 0, none⟩ v') ∧ W.grownBy w1 v.ownBlock := by
  obtain ⟨ho, hg, hn⟩ := h
  have hG' : ∀ k, v'.ownBlock = some k → k = rb ∨ N ≤ k := fun k hk => by
    rcases hn with e | e
    · exact hG k (e ▸ hk)
    · rw [hk] at e; injection e with e; right; omega
  have b1 : Boxed w1 ob 30 v := hv.kept hg (fun e => by rcases hG ob e.symm with e | e <;> omega)
  refine ⟨b1, b1.set v', ho.kept (grownBy_setCell' w1 ob v') (.inr fun e => by rcases hG' ob e with e | e <;> omega), hG', ?_, ⟨by rw [World.size_setCell]; exact hg.size, fun k hk hq => ?_⟩, hg⟩
  · refine ((KeepsOthers.of_grownBy hg fun j o ej hj => ?_).from N).trans ((KeepsOthers.setCell w1 ⟨ob, 0, none⟩ v').from N)
    rcases hrow.2 with ⟨rfl, _⟩ | ⟨g, cap, cur, rfl, _, hgb, _⟩
    · simp [Value.ownBlock] at ej
    · obtain rfl : g = j := by simpa [Value.ownBlock] using ej
      rw [hgb] at hj; cases hj; rfl
  · rw [heap_setCell_other _ _ _ _ (fun e => hq (.inr e)), hg.block k (by omega) (fun e => by rcases hG k e.symm with e | e; exact hq (.inl e); omega)]
/-- the pieces as they go out -/
def growP (C : List Int) (L sz i : Nat) {Q : Nat} (pre : List (Fin Q)) : List Int := pre.flatMap fun x => if x.1 % sz = i then rowL C L x.1 ++ rowL C L x.1 else rowL C L x.1
theorem growP_snoc (C : List Int) (L sz i : Nat) {Q : Nat} (pre : List (Fin Q)) (x : Fin Q) : growP C L sz i (pre ++ [x]) = growP C L sz i pre ++ if x.1 % sz = i then rowL C L x.1 ++ rowL C L x.1 else rowL C L x.1 := by
  simp [growP, List.flatMap_append]
theorem growP_len (C : List Int) (L sz i : Nat) {Q : Nat} (pre : List (Fin Q)) : (growP C L sz i pre).length ≤ pre.length * (2 * L) := by
  induction pre with
  | nil => simp [growP]
  | cons x t ih =>
    have hr : ∀ n, (rowL C L n).length ≤ L := fun n => by unfold rowL; rw [List.length_take]; omega
    have := hr x.1
    unfold growP at ih ⊢
    rw [List.flatMap_cons, List.length_append, List.length_cons, Nat.add_mul, Nat.one_mul]
    split
    · rw [List.length_append]; omega
    · omega
theorem growP_all (C : List Int) (L sz i Q : Nat) : growP C L sz i (List.finRange Q) = (List.range Q).flatMap fun n => if n % sz = i then rowL C L n ++ rowL C L n else rowL C L n := by
  have e : List.range Q = (List.finRange Q).map (·.1) := by
    apply List.ext_getElem <;> simp
  unfold growP
  rw [e, List.flatMap_map]
theorem row_read {w : World} {h : Nat} {C : List Int} (hr : Row w h C) (L n Q : Nat) (hn : n < Q) (hC : C.length = Q * L) : ReadAt w (some ⟨h, n * L, none⟩) (iv (rowL C L n)) := fun j u hj => by
  obtain ⟨hj1, rfl⟩ := List.getElem?_eq_some_iff.1 hj
  rw [iv_length, rowL_length C L n Q hn hC] at hj1
  have h1 : (n + 1) * L ≤ Q * L := Nat.mul_le_mul_right _ hn
  rw [Nat.add_mul, Nat.one_mul] at h1
  refine ⟨h, n * L, rfl, hr.lt, ?_⟩
  rw [hr.cell (n * L + j) (by omega)]
  simp [iv, rowL]
theorem callsIn_open {P : Program} {n : Nat} {f : FuncId} {args : Array Value} {w : World} {R : Ending → World → Prop} (h : Calls P f args w R) : CallsIn Fence.wide n P f args w R := callsIn_wide.2 h
set_option maxRecDepth 100000 in
set_option maxHeartbeats 2000000 in
theorem grow_in (w : World) (b g h : Nat) (S : List Nat) (C : List Int) (H : Slb w b g h (zs S) C) (F : Fits S C) (d i : Nat) (hd : d < S.length) (hi : i < S.getD d 1) (hmost : C.length / S.getD d 1 * (S.getD d 1 + 1) ≤ 4096) :
    CallsIn Fence.wide 9 Try.prog 12 #[.pointer (some ⟨b, 0, none⟩), .int .i64 (d : Int), .int .i64 (i : Int)] w (Grown w b g S C d i) := by
  obtain ⟨k, m, hk, hm, HS⟩ := H.sb
  rw [zs_len] at hk
  have hfew := F.few
  have hmo := F.most
  obtain ⟨sz, hsz⟩ : ∃ sz, S.getD d 1 = sz := ⟨_, rfl⟩
  have hszd : S[d] = sz := by rw [← hsz, List.getD_eq_getElem?_getD, List.getElem?_eq_getElem hd]; rfl
  have hsz1 : 1 ≤ sz := by rw [← hszd]; exact F.pos _ (List.getElem_mem hd)
  have hszm : sz ≤ 4096 := by
    have := prodL_drop S d hd
    have h2 : prodL (S.drop d) ≤ prodL S := by
      have e : prodL S = prodL (S.take d) * prodL (S.drop d) := by rw [← prodL_append, List.take_append_drop]
      have := prodL_pos (S.take d) fun s hs => F.pos s (List.mem_of_mem_take hs)
      rw [e]; exact Nat.le_mul_of_pos_left _ this
    have h3 := Nat.le_mul_of_pos_right S[d] (prodL_pos (S.drop (d + 1)) fun s hs => F.pos s (List.mem_of_mem_drop hs))
    omega
  have HHAS := hid (has_ok b _ _ k m (zs S) C (w.alloc (.cells #[.int .i64 (i : Int)] 3)) (HS.below (below_alloc w _)) (d : Int) (i : Int))
  have hB : hasB (zs S) (d : Int) (i : Int) = true := by
    unfold hasB
    simp only [Bool.and_eq_true, decide_eq_true_eq, zs_len, Int.toNat_natCast]
    rw [zs_at S d hd]
    refine ⟨⟨⟨by omega, by omega⟩, by omega⟩, ?_⟩
    rw [hszd]; omega
  rw [hB] at HHAS
  rw [hsz] at hi hmost
  have hwA : Below w.heap.size w (w.alloc (.cells #[.int .i64 (i : Int)] 3)) := below_alloc w _
  have y0 := (HS.below hwA).cell0
  have y1 := (HS.below hwA).cell1
  rw [zs_len] at y0
  obtain ⟨b1, o1, e1, lt1, z1⟩ := (HS.below hwA).sz d (by rw [iv_length, zs_len]; exact hd)
  injection e1 with e1
  injection e1 with e2 e3
  subst e2; subst e3
  rw [iv_at (zs S) d (by rw [zs_len]; exact hd), Nat.zero_add] at z1
  simp only [zs, List.getElem_map, hszd] at z1
  have x0 : (w.alloc (.cells #[.int .i64 (i : Int)] 3)).cell? ⟨w.heap.size, 0, none⟩ = some (.int .i64 (i : Int)) := (Boxed.new w _ _).cell
  obtain ⟨q, hq⟩ : ∃ q, q = C.length / sz := ⟨_, rfl⟩
  obtain ⟨tot, htot⟩ : ∃ tot, tot = q * (sz + 1) := ⟨_, rfl⟩
  rw [← hq, ← htot] at hmost
  have hCl := F.len
  have hq4 : q ≤ 4096 := by rw [hq]; exact Nat.le_trans (Nat.div_le_self _ _) (by omega)
  have a1 : (C.length : Int) / (sz : Int) = (q : Int) := by rw [hq]; rfl
  have A3 := hid (mul_in q sz tot htot hmost)
  have a4 : decide ((4096 : Int) < wrap64 ((q : Int) * ((sz : Int) + 1))) = false := by rw [A3.out]; exact most_in tot hmost
  have HTOT := hid htot; have HQ := hid hq
  clear htot hq
  have a5 : ¬ (sz : Int) = 0 := by omega
  have HMK := hid (make_some tot hmost)
  have hmk : ∀ V : World, (Instr.makeSlice 30 (.int .i64 0) (.int .i64 (wrap64 ((q : Int) * ((sz : Int) + 1))))).run Try.prog V = .ok (.slice (some ⟨V.heap.size, 0, none⟩) 0 tot) (V.alloc (.cells (madeCells #[Value.int .i64 0] tot) 3)) := by rw [A3.out]; exact HMK.out
  have HRW := hid fun (V : World) (hV : Below w.heap.size w V) => rows_ok V b g h S C (H.below hV) F d hd
  have HCL := hid hCl; have HH := hid H; have HSS := hid HS; have HSZ := hid hsz; have HSZD := hid hszd; have HWA := hid hwA
  clear hCl H HS hsz hszd hB hwA
  have sz1 : w.heap.size ≤ (w.alloc (.cells #[.int .i64 (i : Int)] 3)).heap.size := by simp
  refine callsIn_of_wp_marks Try.func12 rfl trivial ?_ rfl
  simp only [Try.ntmps12, List.size_toArray, List.length_cons, List.length_nil, Nat.reduceAdd, Nat.reduceSub, Array.replicate_succ, Array.replicate_zero, List.push_toArray, List.append_toArray, List.nil_append, List.cons_append]
  gi_wp2_with (first
    | (gi_at_call 32; refine (callsIn_wide.2 HHAS.out).mono ?_; rintro e w' ⟨rfl, n1, rfl⟩)
    | (refine ⟨trivial, ?_⟩; gi_at_call 32; refine (callsIn_wide.2 HHAS.out).mono ?_; rintro e w' ⟨rfl, n1, rfl⟩))
  refine ⟨trivial, ?_⟩
  obtain ⟨V, hV⟩ : ∃ V, ((((w.alloc (Obj.cells #[Value.int IntKind.i64 (i : Int)] 3)).drewN n1).alloc (Obj.cells (madeCells #[Value.int IntKind.i64 0] tot) 3)).alloc (Obj.cells #[Value.slice (some ⟨w.heap.size + 1, 0, none⟩) 0 tot] 30)) = V := ⟨_, rfl⟩
  rw [hV]
  have hsV : V.heap.size = w.heap.size + 1 + 1 + 1 := by rw [← hV]; simp
  have hBV : Below w.heap.size w V := by
    rw [← hV]
    exact ((below_drewN HWA.out n1).alloc (by simp) _).alloc (by simp; omega) _
  have v0 : Boxed V w.heap.size 3 (.int .i64 (i : Int)) := by
    rw [← hV]
    have : Boxed ((w.alloc (Obj.cells #[Value.int IntKind.i64 (i : Int)] 3)).drewN n1) w.heap.size 3 (.int .i64 (i : Int)) := Boxed.new w _ _
    exact (this.alloc _).alloc _
  have v2 : Boxed V (w.heap.size + 1 + 1) 30 (.slice (some ⟨w.heap.size + 1, 0, none⟩) 0 tot) := by
    rw [← hV]
    unfold Boxed
    exact new_at _ _ _ (by simp)
  have v1 : V.ownsRow (w.heap.size + 1) 3 1 (.slice (some ⟨w.heap.size + 1, 0, none⟩) 0 tot) 0 [] := by
    rw [← hV]
    have := World.ownsRow_made (base := w.heap.size + 1) (e := 3) (size := 1) ((w.alloc (Obj.cells #[Value.int IntKind.i64 (i : Int)] 3)).drewN n1) (madeCells #[Value.int IntKind.i64 0] tot) tot (by simp) (by unfold maxLen; omega) (by simp [madeCells])
    rw [show ((w.alloc (Obj.cells #[Value.int IntKind.i64 (i : Int)] 3)).drewN n1).heap.size = w.heap.size + 1 by simp] at this
    exact this.alloc _
  clear hV
  gi_at_call 33
  refine (callsIn_wide.2 (HRW.out V hBV)).mono ?_
  rintro e W0 ⟨rfl, hb0, hs0, g0, g1, g2⟩
  rw [hsV] at g0 g1 g2 hs0
  rw [A3.out, hsV]
  clear a1 a4 a5 hmk y0 y1 z1 x0
  gi_wp2
  have hBw : Below w.heap.size w W0 := hBV.trans (hb0.mono hBV.size)
  have k0 := v0.kept (W' := W0) (row := none) ⟨hb0.os, hb0.tape, hb0.output, hb0.size, fun k hk _ => hb0.block k hk⟩ (by simp)
  have k2 := v2.kept (W' := W0) (row := none) ⟨hb0.os, hb0.tape, hb0.output, hb0.size, fun k hk _ => hb0.block k hk⟩ (by simp)
  have k1 := v1.kept (w' := W0) (row := none) ⟨hb0.os, hb0.tape, hb0.output, hb0.size, fun k hk _ => hb0.block k hk⟩ (.inr (by simp [Value.ownBlock]))
  have hs1 : w.heap.size + 6 ≤ W0.heap.size := by rw [hs0]; exact Nat.le_refl _
  have hs2 : W0.heap.size ≤ w.heap.size + 6 := by rw [hs0]; exact Nat.le_refl _
  obtain ⟨L, hL⟩ : ∃ L, prodL (S.drop (d + 1)) = L := ⟨_, rfl⟩
  obtain ⟨Q, hQ⟩ : ∃ Q, C.length / L = Q := ⟨_, rfl⟩
  have hL1 : 1 ≤ L := by rw [← hL]; exact prodL_pos _ fun s hs => F.pos s (List.mem_of_mem_drop hs)
  have hCQ : C.length = Q * L := by
    have e : prodL S = prodL (S.take (d + 1)) * L := by rw [← hL, ← prodL_append, List.take_append_drop]
    rw [← hQ, HCL.out, e, Nat.mul_div_cancel _ (by omega)]
  have hC4 : C.length ≤ 4096 := by rw [HCL.out]; exact hmo
  have HCQ := hid hCQ; have HL := hid hL; have HQ2 := hid hQ
  clear hCQ hQ hs0
  have hH0 := HH.out.below hBw
  have hlts := HH.out.lts
  have hbl := hlts b (.inl rfl)
  have hgl := hlts g (.inr (.inl rfl))
  have hhl := hlts h (.inr (.inr rfl))
  have keepW : ∀ W, Stay W0.heap.size (fun k => k = w.heap.size + 1 ∨ k = w.heap.size + 1 + 1) W0 W → ∀ k, k < w.heap.size → W.heap[k]? = w.heap[k]? := fun W hst k hk => (hst.block k (by omega) (fun e => by rcases e with e | e <;> omega)).trans (hBw.block k hk)
  have y0 := HSS.out.cell0
  have y1 := HSS.out.cell1
  rw [zs_len] at y0
  have yz : w.cell? ⟨g, d, none⟩ = some (.int .i64 (sz : Int)) := by
    have := HH.out.sz.cell d (by rw [zs_len]; exact hd)
    rw [this]; simp only [zs, List.getElem_map, HSZD.out]
  have hRtF : ∀ W, Stay W0.heap.size (fun k => k = w.heap.size + 1 ∨ k = w.heap.size + 1 + 1) W0 W → RtF (w.heap.size + 1 + 1 + 1) (w.heap.size + 1 + 1 + 1 + 1 + 1) (w.heap.size + 1 + 1 + 1 + 1) b g h d L sz C.length k m S.length W := fun W hst => by
    have bx : ∀ {j : Nat} {t : TypeId} {v : Value}, Boxed W0 j t v → j ≠ w.heap.size + 1 → j ≠ w.heap.size + 1 + 1 → W.cell? ⟨j, 0, none⟩ = some v := fun hb h1 h2 =>
      (show Boxed W _ _ _ from (hst.block _ hb.lt (fun e => e.elim h1 h2)).trans hb).cell
    have kw := keepW W hst
    exact ⟨bx g0 (by omega) (by omega), by rw [← HL.out]; exact bx g2 (by omega) (by omega), bx g1 (by omega) (by omega), (World.cell?_of_block (kw b hbl)).trans y0, (World.cell?_of_block (kw b hbl)).trans y1, (World.cell?_of_block (kw g hgl)).trans yz⟩
  clear hL
  refine wpIn_rangeFunc_ownG rfl ?h1 (gf := 46) (lb := #[.pointer (some ⟨w.heap.size + 1 + 1 + 1, 0, none⟩), .pointer (some ⟨w.heap.size + 1 + 1 + 1 + 1 + 1, 0, none⟩), .pointer (some ⟨w.heap.size + 1 + 1 + 1 + 1, 0, none⟩)]) rfl trivial (enters_of Try.func46 (by kernel_rfl) rfl)
    (encs := encR h L sz m (Q := Q)) (Kp := Stay W0.heap.size (fun k => k = w.heap.size + 1 ∨ k = w.heap.size + 1 + 1)) (S := fun xs => xs = List.finRange Q) (Sp := fun pre => ∃ k, k < Q ∧ pre = (List.finRange Q).take (k + 1)) (N := Q) (w0 := W0)
    (fun l J Jx W hW hJ hJx hY h0 =>
      rows1_in (9 - 1) (by omega) l (w.heap.size + 1 + 1 + 1) (w.heap.size + 1 + 1 + 1 + 1 + 1) (w.heap.size + 1 + 1 + 1 + 1) b g h d L sz C.length k m S.length Q hL1 HCQ.out hC4 hm hsz1 hszm hd W0.heap.size (fun k => k = w.heap.size + 1 ∨ k = w.heap.size + 1 + 1) W0 hRtF J Jx W (Stay.below hW (Nat.le_refl _)) (fun s A B hs hg => hJ s A B none hs hg (fun r e => by cases e)) hY h0)
    Stay.trans ?hKb (Below.refl _ _) (fun _ => rfl)
    (fun pre W => (∃ v, Boxed W (w.heap.size + 1 + 1) 30 v ∧ W.ownsRow (w.heap.size + 1) 3 1 v (growP C L sz i pre).length (iv (growP C L sz i pre)) ∧ ∀ k, v.ownBlock = some k → k = w.heap.size + 1 ∨ W0.heap.size ≤ k) ∧
      Stay W0.heap.size (fun k => k = w.heap.size + 1 ∨ k = w.heap.size + 1 + 1) W0 W ∧ W.os = W0.os ∧ W.tape = W0.tape ∧ W.output = W0.output)
    (fun _ _ _ => False) ?hI (fun _ _ _ _ _ hs _ _ => hs) ?h0 ?a1 ?assign ?body ?done (fun _ _ _ _ _ _ hf _ => hf.elim)
  case assign =>
    intro l x W K hK
    unfold encR
    gi_wp2
    exact hK
  case h1 => omega
  case hKb =>
    intro W l o o' hl _ _ _
    exact ⟨by simp, fun k hk _ => World.putObj_heap_other (by omega)⟩
  case hI =>
    refine OwnFrom.and (Own.from (holdsRow_own (w.heap.size + 1) (w.heap.size + 1 + 1) 30 3 1 (fun (pre : List (Fin Q)) => (growP C L sz i pre).length) (fun pre => iv (growP C L sz i pre)) (fun _ v => ∀ k, v.ownBlock = some k → k = w.heap.size + 1 ∨ W0.heap.size ≤ k)) _) ?_
    rintro s X Y row ⟨h1, h2, h3, h4⟩ hg hr
    have hsz := h1.size
    exact ⟨h1.trans ⟨hg.size, fun k hk _ => hg.block k (by omega) (fun e => by have := (hr k e.symm).1; omega)⟩, hg.os.trans h2, hg.tape.trans h3, hg.output.trans h4⟩
  case h0 => exact ⟨⟨_, k2, k1, fun k hk => by simp [Value.ownBlock] at hk; left; exact hk.symm⟩, Stay.refl _ _ _, rfl, rfl, rfl⟩
  case body =>
    rintro l pre x W ⟨⟨v, hv, hrow, hG⟩, hst, h4, h5, h6⟩ hlt
    have hN : W0.heap.size ≤ W.heap.size := hst.size
    have kw := keepW W hst
    have c2 := hv.cell
    have c0 : W.cell? ⟨w.heap.size, 0, none⟩ = some (.int .i64 (i : Int)) := (show Boxed W _ _ _ from (hst.block _ k0.lt (fun e => by rcases e with e | e <;> omega)).trans k0).cell
    have hCW : Row W h C := HH.out.co.keep (kw h hhl)
    have hlen := growP_len C L sz i pre
    have hle : pre.length * (2 * L) ≤ 8192 := by
      have := Nat.mul_le_mul_right (2 * L) (Nat.le_of_lt hlt)
      have hCQ := HCQ.out
      have e : Q * (2 * L) = 2 * (Q * L) := by rw [← Nat.mul_assoc, Nat.mul_comm Q 2, Nat.mul_assoc]
      omega
    have hLC : L ≤ 4096 := by
      have := Nat.mul_le_mul_right L (show 1 ≤ Q by omega)
      have hCQ := HCQ.out
      omega
    have hlx : (rowL C L x.1).length = L := rowL_length C L x.1 Q x.2 HCQ.out
    have HCW := hid hCW; have HLX := hid hlx; have HV := hid hv; have HROW := hid hrow; have HG := hid hG; have HST := hid hst; have HX := hid x.2
    have HSN := hid (growP_snoc C L sz i pre x)
    have hgl : (growP C L sz i pre).length ≤ 8192 := by omega
    clear hCW hlx hv hrow hG hst hlen hle kw
    generalize growP C L sz i pre = A at *
    by_cases hxi : x.1 % sz = i
    · have HSN2 := HSN.out
      rw [if_pos hxi] at HSN2
      have HSN3 := hid HSN2
      clear HSN HSN2
      have e1 : (((x.1 : Nat) : Int) % (sz : Int) == (i : Int)) = true := by
        rw [← Int.natCast_emod, hxi]; simp
      gi_wp2_with (gi_at_builtin; refine wpListIn_app (open_round _ _) rfl _ _ _ rfl rfl rfl (int_own _ _ _ _ HROW.out _ L _ (iv (rowL C L x.1)) (row_read HCW.out L x.1 Q HX.out HCQ.out) (by rw [iv_length, HLX.out]) (iv_one _) (by omega) (by omega)) ?_)
      intro v1 w1 hO1
      have hshape := own_shape hO1.1
      obtain ⟨s1, s2, s3, s4, s5, s6, s7⟩ := out_step HV.out HROW.out HG.out hO1 hN (by omega) (by omega)
      obtain ⟨p1, cp1, rfl⟩ := hshape
      have c3 := s1.cell
      have f3 := s1.frozen
      obtain ⟨W2, hW2⟩ : ∃ W2, w1.setCell ⟨w.heap.size + 1 + 1, 0, none⟩ (.slice p1 (A.length + L) cp1) = W2 := ⟨_, rfl⟩
      rw [hW2] at s2 s3 s5 s6
      have d2 := s2.cell
      have d0 : W2.cell? ⟨w.heap.size, 0, none⟩ = some (.int .i64 (i : Int)) := (World.cell?_of_block (s6.block w.heap.size (by omega) (fun e => by rcases e with e | e <;> omega))).trans c0
      have HCW2 : Hid (Row W2 h C) := hid (HCW.out.keep (s6.block h (by omega) (fun e => by rcases e with e | e <;> omega)))
      have hN2 : W0.heap.size ≤ W2.heap.size := Nat.le_trans hN s6.size
      rw [← iv_append] at s3
      have S2 := hid s2; have S3 := hid s3; have S4 := hid s4; have S5 := hid s5; have S6 := hid s6; have S7 := hid s7
      have hal : (A ++ rowL C L x.1).length = A.length + L := by rw [List.length_append, HLX.out]
      have HAL := hid hal
      clear s1 s2 s3 s4 s5 s6 s7 hO1 hal
      gi_wp2_with (gi_at_builtin; refine wpListIn_app (open_round _ _) rfl _ _ _ rfl rfl rfl (int_own _ _ _ _ S3.out _ L _ (iv (rowL C L x.1)) (row_read HCW2.out L x.1 Q HX.out HCQ.out) (by rw [iv_length, HLX.out]) (iv_one _) (by omega) (by omega)) ?_)
      intro v2 w3 hO2
      have hshape := own_shape hO2.1
      obtain ⟨t1, t2, t3, t4, t5, t6, t7⟩ := out_step S2.out S3.out S4.out hO2 hN2 (by omega) (by omega)
      obtain ⟨p2, cp2, rfl⟩ := hshape
      have c5 := t1.cell
      have f5 := t1.frozen
      have T2 := hid t2; have T3 := hid t3; have T4 := hid t4; have T5 := hid t5; have T6 := hid t6; have T7 := hid t7
      clear t1 t2 t3 t4 t5 t6 t7 hO2
      gi_wp2
      refine ⟨S5.out.trans T5.out, S6.out.trans T6.out, ⟨_, T2.out, ?_, T4.out⟩, HST.out.trans (S6.out.trans T6.out), ?_, ?_, ?_⟩
      · have e1 : growP C L sz i (pre ++ [x]) = (A ++ rowL C L x.1) ++ rowL C L x.1 := by rw [HSN3.out, List.append_assoc]
        rw [e1, List.length_append, HAL.out, HLX.out, iv_append]
        exact T3.out
      · exact T7.out.os.trans ((show W2.os = w1.os by rw [← hW2]; rfl).trans (S7.out.os.trans h4))
      · exact T7.out.tape.trans ((show W2.tape = w1.tape by rw [← hW2]; rfl).trans (S7.out.tape.trans h5))
      · exact T7.out.output.trans ((show W2.output = w1.output by rw [← hW2]; rfl).trans (S7.out.output.trans h6))
    · have HSN2 := HSN.out
      rw [if_neg hxi] at HSN2
      have HSN3 := hid HSN2
      clear HSN HSN2
      have e1 : (((x.1 : Nat) : Int) % (sz : Int) == (i : Int)) = false := by
        rw [← Int.natCast_emod]; simp; omega
      clear hxi
      gi_wp2_with (gi_at_builtin; refine wpListIn_app (open_round _ _) rfl _ _ _ rfl rfl rfl (int_own _ _ _ _ HROW.out _ L _ (iv (rowL C L x.1)) (row_read HCW.out L x.1 Q HX.out HCQ.out) (by rw [iv_length, HLX.out]) (iv_one _) (by omega) (by omega)) ?_)
      intro v1 w1 hO1
      have hshape := own_shape hO1.1
      obtain ⟨s1, s2, s3, s4, s5, s6, s7⟩ := out_step HV.out HROW.out HG.out hO1 hN (by omega) (by omega)
      obtain ⟨p1, cp1, rfl⟩ := hshape
      have c3 := s1.cell
      have f3 := s1.frozen
      obtain ⟨W2, hW2⟩ : ∃ W2, w1.setCell ⟨w.heap.size + 1 + 1, 0, none⟩ (.slice p1 (A.length + L) cp1) = W2 := ⟨_, rfl⟩
      rw [hW2] at s2 s3 s5 s6
      have d0 : W2.cell? ⟨w.heap.size, 0, none⟩ = some (.int .i64 (i : Int)) := (World.cell?_of_block (s6.block w.heap.size (by omega) (fun e => by rcases e with e | e <;> omega))).trans c0
      rw [← iv_append] at s3
      have hal : (A ++ rowL C L x.1).length = A.length + L := by rw [List.length_append, HLX.out]
      have HAL := hid hal
      have S2 := hid s2; have S3 := hid s3; have S4 := hid s4; have S5 := hid s5; have S6 := hid s6; have S7 := hid s7
      clear s1 s2 s3 s4 s5 s6 s7 hO1 hal
      gi_wp2
      refine ⟨S5.out, S6.out, ⟨_, S2.out, ?_, S4.out⟩, HST.out.trans S6.out, ?_, ?_, ?_⟩
      · rw [HSN3.out, HAL.out]
        exact S3.out
      · exact (show W2.os = w1.os by rw [← hW2]; rfl).trans (S7.out.os.trans h4)
      · exact (show W2.tape = w1.tape by rw [← hW2]; rfl).trans (S7.out.tape.trans h5)
      · exact (show W2.output = w1.output by rw [← hW2]; rfl).trans (S7.out.output.trans h6)
  case done =>
    rintro D xs W hD rfl ⟨⟨v, hv, hrow, hG⟩, hst, h4, h5, h6⟩ hK
    obtain ⟨pv, cv, rfl⟩ := own_shape hrow
    obtain ⟨A, hA⟩ : ∃ A, growP C L sz i (List.finRange Q) = A := ⟨_, rfl⟩
    rw [hA] at hv hrow
    have HA : Hid (growC S C d i = A) := hid (by unfold growC; rw [← hA, growP_all, HL.out, HQ2.out, HSZ.out])
    clear hA
    have kw := keepW W hst
    have c2 := hv.cell
    have z0 : W.cell? ⟨b, 0, none⟩ = some (.slice (some ⟨g, 0, none⟩) S.length k) := (World.cell?_of_block (kw b hbl)).trans y0
    have z1 : W.cell? ⟨b, 1, none⟩ = some (.slice (some ⟨h, 0, none⟩) C.length m) := (World.cell?_of_block (kw b hbl)).trans y1
    have zg : W.cell? ⟨g, d, none⟩ = some (.int .i64 (sz : Int)) := (World.cell?_of_block (kw g hgl)).trans yz
    have hRg : Row W g (zs S) := HH.out.sz.keep (kw g hgl)
    have hRh : Row W h C := HH.out.co.keep (kw h hhl)
    have fg := hRg.frozen d
    have hbe : ∃ k' m', W.heap[b]? = some (.cells #[.slice (some ⟨g, 0, none⟩) (zs S).length k', .slice (some ⟨h, 0, none⟩) C.length m'] 56 (0, 0)) := by
      obtain ⟨k', m', _, _, e⟩ := HH.out.head
      exact ⟨k', m', (kw b hbl).trans e⟩
    have fb : W.frozen? ⟨b, 1, none⟩ = false := by
      obtain ⟨k', m', e⟩ := hbe
      exact frozen_of_row _ _ _ _ _ e
    have hne := HH.out.ne
    have n1 : b ≠ g := hne.1
    have n1' : g ≠ b := fun e => hne.1 e.symm
    have n2 : w.heap.size + 1 + 1 ≠ g := by omega
    have n2' : g ≠ w.heap.size + 1 + 1 := by omega
    have n3 : w.heap.size + 1 + 1 ≠ b := by omega
    have hdk : (d : Int) < (S.length : Int) := by omega
    have HKW := hid kw; have HROW := hid hrow; have HG := hid hG; have HST := hid hst; have HK := hid hK; have HRG2 := hid hRg; have HRH := hid hRh; have HBE := hid hbe
    have HVV := hid hv; have HKEEP := hid keepW; have HBW := hid hBw; have HB0 := hid hb0; have HFIT := hid F
    clear kw hrow hG hst hK hRg hRh hbe hne hv keepW hBw hBV hb0 k0 k1 k2 g0 g1 g2 v0 v1 v2 hRtF hH0 hlts F y0 y1 yz hfew hmo
    gi_wp2
    refine wpIn_only ?_
    gi_region
    all_goals unfold onN
    all_goals gi_wp2
    obtain ⟨W5, hW5⟩ : ∃ W5, ((W.setCell ⟨g, d, none⟩ (.int .i64 ((sz : Int) + 1))).setCell ⟨b, 1, none⟩ (.slice pv A.length cv)).drew = W5 := ⟨_, rfl⟩
    rw [hW5]
    have hK5 : W5.heap[D]? = some (.deferred (some [])) := by
      rw [← hW5]
      exact (KeepsOthers.setCell _ _ _).same D _ ((KeepsOthers.setCell _ _ _).same D _ HK.out rfl) rfl
    refine ⟨by simp, .inl ⟨_, _, rfl, run_takeDeferred hK5, ?_⟩⟩
    refine ⟨.int .i64 0, ?_, ?_⟩
    · simp [results, Try.f12, go_sem]
    · have hlen : 0 < A.length := by
        rw [← HA.out, grow_len S C HFIT.out d i hd (by rw [HSZ.out]; exact hi)]
        refine prodL_pos _ fun s hs => ?_
        exact (grow_fits S C HFIT.out d i hd (by rw [HSZ.out]; exact hi) (by rw [HSZ.out, ← HQ.out, ← HTOT.out]; exact hmost)).pos s hs
      have hb := HBW.out
      obtain ⟨h', r1, r2, r3⟩ := slab_turn (x := sz + 1) (W5 := W5) HH.out HKW.out (h4.trans hb.os) (h5.trans hb.tape) (h6.trans hb.output) (by have := HST.out.size; have := hb.size; omega) (own_base HROW.out (by omega)) hlen hd (by omega) HK.out (by rw [← hW5, Int.natCast_add]; rfl)
      exact ⟨h', rfl, by rw [HSZ.out, HA.out]; exact r1, r2, r3⟩
end Go.Proofs.Ytpbidpgpehicmaa.Sl
