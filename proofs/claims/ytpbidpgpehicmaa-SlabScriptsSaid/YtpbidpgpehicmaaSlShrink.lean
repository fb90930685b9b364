/- Shrink of slab. -/
import Derived.Test.YtpbidpgpehicmaaSlGrow
import Derived.Test.YtpbidpgpehicmaaSlShrM
import Derived.Test.YtpbidpgpehicmaaSlEq
namespace Go.Proofs.Ytpbidpgpehicmaa.Sl
open Go.RowKit Go.Shelf
open Go.Lib (hid)
attribute [local go_sem] Oper.semAt_some

/-- the piece ahead -/
def ahead (C : List Int) (L : Nat) {Q : Nat} (pre : List (Fin Q)) : List Int := match pre.getLast? with
  | some x => rowL C L x.1
  | none => []
def aheadV (h L m : Nat) {Q : Nat} (pre : List (Fin Q)) : Value := match pre.getLast? with
  | some x => .slice (some ⟨h, x.1 * L, none⟩) L (m - x.1 * L)
  | none => .slice none 0 0
theorem ahead_snoc (C : List Int) (L : Nat) {Q : Nat} (pre : List (Fin Q)) (x : Fin Q) : ahead C L (pre ++ [x]) = rowL C L x.1 := by simp [ahead]
theorem aheadV_snoc (h L m : Nat) {Q : Nat} (pre : List (Fin Q)) (x : Fin Q) : aheadV h L m (pre ++ [x]) = .slice (some ⟨h, x.1 * L, none⟩) L (m - x.1 * L) := by simp [aheadV]
theorem aheadV_at {w : World} {h : Nat} {C : List Int} (hr : Row w h C) (L m : Nat) {Q : Nat} (hC : C.length = Q * L) (pre : List (Fin Q)) : ∃ p c, aheadV h L m pre = .slice p (ahead C L pre).length c ∧ CellsAt w p (iv (ahead C L pre)) := by
  unfold aheadV ahead
  cases pre.getLast? with
  | none => exact ⟨none, 0, rfl, fun j hj => absurd hj (by simp [iv])⟩
  | some x => exact ⟨_, _, by rw [rowL_length C L x.1 Q x.2 hC], (row_read hr L x.1 Q x.2 hC).cells⟩
/-- all that has come may go -/
def goneOk (C : List Int) (L sz i : Nat) {Q : Nat} (pre : List (Fin Q)) : Prop := ∀ p x, p ++ [x] <+: pre → x.1 % sz = i + 1 → rowL C L x.1 = ahead C L p
theorem goneOk_nil (C : List Int) (L sz i : Nat) (Q : Nat) : goneOk C L sz i ([] : List (Fin Q)) := fun p x h => by
  have := h.length_le
  simp at this
theorem goneOk_snoc {C : List Int} {L sz i : Nat} {Q : Nat} {pre : List (Fin Q)} {x : Fin Q} (h : goneOk C L sz i pre) (hx : x.1 % sz = i + 1 → rowL C L x.1 = ahead C L pre) : goneOk C L sz i (pre ++ [x]) := fun p y hp hy => by
  rcases List.prefix_concat_iff.1 hp with e | e
  · obtain ⟨rfl, e2⟩ := List.append_inj' e rfl
    injection e2 with e2
    subst e2
    exact hx hy
  · exact h p y e hy
theorem take_snoc_fin {Q : Nat} (n : Nat) (hn : n < Q) : (List.finRange Q).take n ++ [(⟨n, hn⟩ : Fin Q)] = (List.finRange Q).take (n + 1) := by
  rw [List.take_succ_eq_append_getElem (by simpa using hn)]; simp
theorem ahead_take (C : List Int) (L : Nat) {Q : Nat} (n : Nat) (h0 : 0 < n) (hn : n ≤ Q) : ahead C L ((List.finRange Q).take n) = rowL C L (n - 1) := by
  obtain ⟨n, rfl⟩ : ∃ m, n = m + 1 := ⟨n - 1, by omega⟩
  rw [← take_snoc_fin n (by omega), ahead_snoc]
  rfl
theorem goneOk_all {C : List Int} {L sz i Q : Nat} (h : goneOk C L sz i (List.finRange Q)) : shrOk C L sz i Q := fun n hn hi => by
  have h0 : 0 < n := by
    rcases Nat.eq_zero_or_pos n with e | e
    · subst e; simp at hi
    · exact e
  have := h ((List.finRange Q).take n) ⟨n, hn⟩ (by rw [take_snoc_fin]; exact List.take_prefix _ _) hi
  rw [this, ahead_take C L n h0 (by omega)]
theorem gone_not {C : List Int} {L sz i Q k : Nat} (hk : k < Q) {p : List (Fin Q)} {x : Fin Q} (hp : p ++ [x] = (List.finRange Q).take (k + 1)) (hi : x.1 % sz = i + 1) (hne : rowL C L x.1 ≠ ahead C L p) : ¬ shrOk C L sz i Q := fun h => by
  rw [← take_snoc_fin k hk] at hp
  obtain ⟨rfl, e2⟩ := List.append_inj' hp rfl
  injection e2 with e2
  subst e2
  have h0 : 0 < k := by
    rcases Nat.eq_zero_or_pos k with e | e
    · subst e; simp at hi
    · exact e
  exact hne ((h k hk hi).trans (ahead_take C L k h0 (by omega)).symm)
/-- the pieces that stay, as they go out -/
def shrP (C : List Int) (L sz i : Nat) {Q : Nat} (pre : List (Fin Q)) : List Int := pre.flatMap fun x => if x.1 % sz = i + 1 then [] else rowL C L x.1
theorem shrP_snoc (C : List Int) (L sz i : Nat) {Q : Nat} (pre : List (Fin Q)) (x : Fin Q) : shrP C L sz i (pre ++ [x]) = shrP C L sz i pre ++ if x.1 % sz = i + 1 then [] else rowL C L x.1 := by
  simp [shrP, List.flatMap_append]
theorem shrP_len (C : List Int) (L sz i : Nat) {Q : Nat} (pre : List (Fin Q)) : (shrP C L sz i pre).length ≤ pre.length * L := by
  induction pre with
  | nil => simp [shrP]
  | cons x t ih =>
    have hr : ∀ n, (rowL C L n).length ≤ L := fun n => by unfold rowL; rw [List.length_take]; omega
    have := hr x.1
    unfold shrP at ih ⊢
    rw [List.flatMap_cons, List.length_append, List.length_cons, Nat.add_mul, Nat.one_mul]
    split
    · simp only [List.length_nil]; omega
    · omega
theorem shrP_all (C : List Int) (L sz i Q : Nat) : shrP C L sz i (List.finRange Q) = shrC C L sz i Q := by
  have e : List.range Q = (List.finRange Q).map (·.1) := by
    apply List.ext_getElem <;> simp
  unfold shrP shrC
  rw [e, List.flatMap_map]
theorem keeps_drewN (N : Nat) (W : World) (n : Nat) : KeepsFrom N W (W.drewN n) := ⟨Nat.le_refl _, fun _ _ _ h _ => h⟩
theorem boxed_drewN {W : World} {B : Nat} {t : TypeId} {v : Value} (h : Boxed W B t v) (n : Nat) : Boxed (W.drewN n) B t v := h
theorem store_step (N : Nat) (X : Nat → Prop) (W : World) (j : Nat) (u : Value) (hX : X j) : KeepsFrom N W (W.setCell ⟨j, 0, none⟩ u) ∧ Stay N X W (W.setCell ⟨j, 0, none⟩ u) :=
  ⟨(KeepsOthers.setCell _ _ _).from N, ⟨by rw [World.size_setCell]; exact Nat.le_refl _, fun k _ hq => heap_setCell_other _ _ _ _ (fun e => hq (by rw [e]; exact hX))⟩⟩
theorem boxed_other {W : World} {B j : Nat} {t : TypeId} {v u : Value} (h : Boxed W B t v) (hne : B ≠ j) : Boxed (W.setCell ⟨j, 0, none⟩ u) B t v := by
  unfold Boxed at *
  rw [heap_setCell_other _ _ _ _ hne]; exact h
theorem stay_mono {N : Nat} {X Y : Nat → Prop} {a b : World} (h : Stay N X a b) (hxy : ∀ k, X k → Y k) : Stay N Y a b := ⟨h.size, fun k hk hq => h.block k hk fun e => hq (hxy k e)⟩
/-- what Shrink leaves -/
def Shrunk (w : World) (b g : Nat) (S : List Nat) (C : List Int) (d i : Nat) (e : Ending) (w' : World) : Prop :=
  (shrOk C (prodL (S.drop (d + 1))) (S.getD d 1) i (C.length / prodL (S.drop (d + 1))) ∧ ∃ h', e = .returned (.int .i64 0) ∧ Slb w' b g h' (zs (S.set d (S.getD d 1 - 1))) (shrC C (prodL (S.drop (d + 1))) (S.getD d 1) i (C.length / prodL (S.drop (d + 1)))) ∧ w.heap.size ≤ h' ∧ Onl (fun k => k = b ∨ k = g) w w') ∨
  (¬ shrOk C (prodL (S.drop (d + 1))) (S.getD d 1) i (C.length / prodL (S.drop (d + 1))) ∧ e = .returned (.int .i64 1) ∧ Below w.heap.size w w')
set_option maxRecDepth 100000 in
set_option maxHeartbeats 2000000 in
theorem shrink_in (w : World) (b g h : Nat) (S : List Nat) (C : List Int) (H : Slb w b g h (zs S) C) (F : Fits S C) (d i : Nat) (hd : d < S.length) (hi : i + 1 < S.getD d 1) :
    CallsIn Fence.wide 9 Try.prog 14 #[.pointer (some ⟨b, 0, none⟩), .int .i64 (d : Int), .int .i64 (i : Int)] w (Shrunk w b g S C d i) := by
  obtain ⟨k, m, hk, hm, HS⟩ := H.sb
  rw [zs_len] at hk
  have hfew := F.few
  have hmo := F.most
  obtain ⟨sz, hsz⟩ : ∃ sz, S.getD d 1 = sz := ⟨_, rfl⟩
  have hszd : S[d] = sz := by rw [← hsz, List.getD_eq_getElem?_getD, List.getElem?_eq_getElem hd]; rfl
  have hsz1 : 1 ≤ sz := by rw [← hszd]; exact F.pos _ (List.getElem_mem hd)
  have hszm : sz ≤ 4096 := by
    have := prodL_drop S d hd
    have h2 : prodL (S.drop d) ≤ prodL S := by
      have e : prodL S = prodL (S.take d) * prodL (S.drop d) := by rw [← prodL_append, List.take_append_drop]
      have := prodL_pos (S.take d) fun s hs => F.pos s (List.mem_of_mem_take hs)
      rw [e]; exact Nat.le_mul_of_pos_left _ this
    have h3 := Nat.le_mul_of_pos_right S[d] (prodL_pos (S.drop (d + 1)) fun s hs => F.pos s (List.mem_of_mem_drop hs))
    omega
  obtain ⟨V0, hV0⟩ : ∃ V0, (w.alloc (.cells #[.int .i64 (i : Int)] 3)).alloc (.cells #[.int .i64 0] 24) = V0 := ⟨_, rfl⟩
  have hwV : Below w.heap.size w V0 := by rw [← hV0]; exact (below_alloc w _).alloc (by simp) _
  have HHAS := hid fun (e : Int) (n : Nat) => has_ok b _ _ k m (zs S) C (V0.drewN n) ((HS.below hwV).drewN n) (d : Int) e
  have hB : ∀ e : Nat, e < sz → hasB (zs S) (d : Int) (e : Int) = true := fun e he => by
    unfold hasB
    simp only [Bool.and_eq_true, decide_eq_true_eq, zs_len, Int.toNat_natCast]
    rw [zs_at S d hd]
    refine ⟨⟨⟨by omega, by omega⟩, by omega⟩, ?_⟩
    rw [hszd]; omega
  rw [hsz] at hi
  have H1 := hid (show Calls Try.prog 32 #[.pointer (some ⟨b, 0, none⟩), .int .i64 (d : Int), .int .i64 (i : Int)] V0 fun e w' => e = .returned (.bool true) ∧ ∃ n, w' = V0.drewN n by
    have := HHAS.out (i : Int) 0
    rw [hB i (by omega)] at this
    exact this.mono fun e w' ⟨h1, n, h2⟩ => ⟨h1, n, h2⟩)
  have H2 := hid (show ∀ n, Calls Try.prog 32 #[.pointer (some ⟨b, 0, none⟩), .int .i64 (d : Int), .int .i64 ((i : Int) + 1)] (V0.drewN n) fun e w' => e = .returned (.bool true) ∧ ∃ m, w' = (V0.drewN n).drewN m from fun n => by
    have := HHAS.out ((i + 1 : Nat) : Int) n
    rw [hB (i + 1) (by omega)] at this
    exact this)
  have x0 : V0.cell? ⟨w.heap.size, 0, none⟩ = some (.int .i64 (i : Int)) := by rw [← hV0]; exact ((Boxed.new w _ _).alloc _).cell
  have hii : (i : Int) ≤ 100000 := by omega
  have HRW := hid fun (V : World) (hV : Below w.heap.size w V) => rows_ok V b g h S C (H.below hV) F d hd
  have HCL := hid F.len; have HH := hid H; have HSS := hid HS; have HSZ := hid hsz; have HSZD := hid hszd; have HWV := hid hwV; have HV0 := hid hV0
  clear H HS hsz hszd hB hwV HHAS
  refine callsIn_of_wp_marks Try.func14 rfl trivial ?_ rfl
  simp only [Try.ntmps14, List.size_toArray, List.length_cons, List.length_nil, Nat.reduceAdd, Nat.reduceSub, Array.replicate_succ, Array.replicate_zero, List.push_toArray, List.append_toArray, List.nil_append, List.cons_append]
  gi_wp2_with fail
  refine ⟨trivial, ?_⟩
  refine (callsIn_wide.2 H1.out).mono ?_
  rintro e w' ⟨rfl, n1, rfl⟩
  gi_wp2_with fail
  refine ⟨trivial, ?_⟩
  refine (callsIn_wide.2 (H2.out _)).mono ?_
  rintro e w' ⟨rfl, n2, rfl⟩
  gi_wp2_with fail
  refine ⟨trivial, ?_⟩
  have hsV0 : V0.heap.size = w.heap.size + 1 + 1 := by rw [← HV0.out]; simp
  obtain ⟨V, hV⟩ : ∃ V, (((V0.drewN (n1 + n2)).alloc (Obj.cells #[Value.slice none 0 0] 30)).alloc (Obj.cells #[Value.slice none 0 0] 30)) = V := ⟨_, rfl⟩
  rw [hV]
  have hsV : V.heap.size = w.heap.size + 1 + 1 + 1 + 1 := by rw [← hV]; simp [hsV0]
  have hBV : Below w.heap.size w V := by
    rw [← hV]
    have := HWV.out.size
    exact ((below_drewN HWV.out (n1 + n2)).alloc (by simp; omega) _).alloc (by simp; omega) _
  have v0 : Boxed V w.heap.size 3 (.int .i64 (i : Int)) := by
    rw [← hV, ← HV0.out]
    have : Boxed (((w.alloc (.cells #[.int .i64 (i : Int)] 3)).alloc (.cells #[.int .i64 0] 24)).drewN (n1 + n2)) w.heap.size 3 (.int .i64 (i : Int)) := (Boxed.new w _ _).alloc _
    exact (this.alloc _).alloc _
  have v1 : Boxed V (w.heap.size + 1) 24 (.int .i64 0) := by
    rw [← hV, ← HV0.out]
    have h0 := Boxed.new (w.alloc (.cells #[.int .i64 (i : Int)] 3)) 24 (.int .i64 0)
    rw [World.size_alloc] at h0
    have : Boxed (((w.alloc (.cells #[.int .i64 (i : Int)] 3)).alloc (.cells #[.int .i64 0] 24)).drewN (n1 + n2)) (w.heap.size + 1) 24 (.int .i64 0) := h0
    exact (this.alloc _).alloc _
  have v2 : Boxed V (w.heap.size + 1 + 1) 30 (.slice none 0 0) := by
    rw [← hV]
    have h0 := Boxed.new (V0.drewN (n1 + n2)) 30 (.slice none 0 0)
    rw [show (V0.drewN (n1 + n2)).heap.size = w.heap.size + 1 + 1 from hsV0] at h0
    exact h0.alloc _
  have v3 : Boxed V (w.heap.size + 1 + 1 + 1) 30 (.slice none 0 0) := by
    rw [← hV]
    have h0 := Boxed.new ((V0.drewN (n1 + n2)).alloc (Obj.cells #[Value.slice none 0 0] 30)) 30 (.slice none 0 0)
    rw [World.size_alloc, show (V0.drewN (n1 + n2)).heap.size = w.heap.size + 1 + 1 from hsV0] at h0
    exact h0
  clear hV
  gi_at_call 33
  refine (callsIn_wide.2 (HRW.out V hBV)).mono ?_
  rintro e W0 ⟨rfl, hb0, hs0, g0, g1, g2⟩
  rw [hsV] at g0 g1 g2 hs0
  rw [hsV, hsV0]
  clear x0
  gi_wp2
  have hBw : Below w.heap.size w W0 := hBV.trans (hb0.mono hBV.size)
  have kept : ∀ {B : Nat} {t : TypeId} {v : Value}, Boxed V B t v → Boxed W0 B t v := fun hv => hv.kept (row := none) ⟨hb0.os, hb0.tape, hb0.output, hb0.size, fun k hk _ => hb0.block k hk⟩ (by simp)
  have k0 := kept v0
  have k1 := kept v1
  have k2 := kept v2
  have k3 := kept v3
  have hs1 : w.heap.size + 7 ≤ W0.heap.size := by rw [hs0]; exact Nat.le_refl _
  have hs2 : W0.heap.size ≤ w.heap.size + 7 := by rw [hs0]; exact Nat.le_refl _
  obtain ⟨L, hL⟩ : ∃ L, prodL (S.drop (d + 1)) = L := ⟨_, rfl⟩
  obtain ⟨Q, hQ⟩ : ∃ Q, C.length / L = Q := ⟨_, rfl⟩
  have hL1 : 1 ≤ L := by rw [← hL]; exact prodL_pos _ fun s hs => F.pos s (List.mem_of_mem_drop hs)
  have hCQ : C.length = Q * L := by
    have e : prodL S = prodL (S.take (d + 1)) * L := by rw [← hL, ← prodL_append, List.take_append_drop]
    rw [← hQ, HCL.out, e, Nat.mul_div_cancel _ (by omega)]
  have hC4 : C.length ≤ 4096 := by rw [HCL.out]; exact hmo
  have HCQ := hid hCQ; have HL := hid hL; have HQ2 := hid hQ
  clear hCQ hQ hs0 hsV hsV0 hL
  have hlts := HH.out.lts
  have hbl := hlts b (.inl rfl)
  have hgl := hlts g (.inr (.inl rfl))
  have hhl := hlts h (.inr (.inr rfl))
  obtain ⟨X, hX⟩ : ∃ X : Nat → Prop, X = fun k => k = w.heap.size + 1 ∨ k = w.heap.size + 1 + 1 ∨ k = w.heap.size + 1 + 1 + 1 := ⟨_, rfl⟩
  have hXn : ∀ k, k ≠ w.heap.size + 1 → k ≠ w.heap.size + 1 + 1 → k ≠ w.heap.size + 1 + 1 + 1 → ¬ X k := fun k h1 h2 h3 => by rw [hX]; rintro (e | e | e); exact h1 e; exact h2 e; exact h3 e
  have hX2 : ∀ k, (k = w.heap.size + 1 ∨ k = w.heap.size + 1 + 1) → X k := fun k h => by rw [hX]; rcases h with e | e; exact .inl e; exact .inr (.inl e)
  have hX3 : X (w.heap.size + 1 + 1 + 1) := by rw [hX]; exact .inr (.inr rfl)
  have hX1 : X (w.heap.size + 1) := by rw [hX]; exact .inl rfl
  clear hX
  have keepW : ∀ W, Stay W0.heap.size X W0 W → ∀ k, k < w.heap.size → W.heap[k]? = w.heap[k]? := fun W hst k hk => (hst.block k (by omega) (hXn k (by omega) (by omega) (by omega))).trans (hBw.block k hk)
  have y0 := HSS.out.cell0
  have y1 := HSS.out.cell1
  rw [zs_len] at y0
  have yz : w.cell? ⟨g, d, none⟩ = some (.int .i64 (sz : Int)) := by
    have := HH.out.sz.cell d (by rw [zs_len]; exact hd)
    rw [this]; simp only [zs, List.getElem_map, HSZD.out]
  have hRtF : ∀ W, Stay W0.heap.size X W0 W → RtF (w.heap.size + 1 + 1 + 1 + 1) (w.heap.size + 1 + 1 + 1 + 1 + 1 + 1) (w.heap.size + 1 + 1 + 1 + 1 + 1) b g h d L sz C.length k m S.length W := fun W hst => by
    have bx : ∀ {j : Nat} {t : TypeId} {v : Value}, Boxed W0 j t v → ¬ X j → W.cell? ⟨j, 0, none⟩ = some v := fun hb h1 =>
      (show Boxed W _ _ _ from (hst.block _ hb.lt h1).trans hb).cell
    have kw := keepW W hst
    exact ⟨bx g0 (hXn _ (by omega) (by omega) (by omega)), by rw [← HL.out]; exact bx g2 (hXn _ (by omega) (by omega) (by omega)), bx g1 (hXn _ (by omega) (by omega) (by omega)), (World.cell?_of_block (kw b hbl)).trans y0, (World.cell?_of_block (kw b hbl)).trans y1, (World.cell?_of_block (kw g hgl)).trans yz⟩
  have boxOwn : ∀ {B : Nat} {t : TypeId} {v : Value} {X Y : World} {row : Option Nat}, Boxed X B t v → X.grownBy Y row → (∀ r, row = some r → W0.heap.size ≤ r ∧ ∃ o : Obj, X.heap[r]? = some o ∧ o.isCells = false) → Boxed Y B t v := fun hv hg hr => hv.kept hg (fun e => by
    obtain ⟨_, o, ho, hc⟩ := hr _ e.symm
    rw [show _ = some _ from hv] at ho; cases ho; cases hc)
  refine wpIn_rangeFunc_ownG rfl ?h1 (gf := 46) (lb := #[.pointer (some ⟨w.heap.size + 1 + 1 + 1 + 1, 0, none⟩), .pointer (some ⟨w.heap.size + 1 + 1 + 1 + 1 + 1 + 1, 0, none⟩), .pointer (some ⟨w.heap.size + 1 + 1 + 1 + 1 + 1, 0, none⟩)]) rfl trivial (enters_of Try.func46 (by kernel_rfl) rfl)
    (encs := encR h L sz m (Q := Q)) (Kp := Stay W0.heap.size X) (S := fun xs => xs = List.finRange Q) (Sp := fun pre => ∃ k, k < Q ∧ pre = (List.finRange Q).take (k + 1)) (N := Q) (w0 := W0)
    (fun l J Jx W hW hJ hJx hY h0 =>
      rows1_in (9 - 1) (by omega) l (w.heap.size + 1 + 1 + 1 + 1) (w.heap.size + 1 + 1 + 1 + 1 + 1 + 1) (w.heap.size + 1 + 1 + 1 + 1 + 1) b g h d L sz C.length k m S.length Q hL1 HCQ.out hC4 hm hsz1 hszm hd W0.heap.size X W0 hRtF J Jx W (Stay.below hW (Nat.le_refl _)) (fun s A B hs hg => hJ s A B none hs hg (fun r e => by cases e)) hY h0)
    Stay.trans ?hKb (Below.refl _ _) (fun _ => rfl)
    (fun pre W => (∃ v, Boxed W (w.heap.size + 1 + 1) 30 v ∧ W.ownsRow w.heap.size 3 1 v (shrP C L sz i pre).length (iv (shrP C L sz i pre)) ∧ ∀ k, v.ownBlock = some k → k = w.heap.size + 1 ∨ W0.heap.size ≤ k) ∧
      ((Stay W0.heap.size X W0 W ∧ W.os = W0.os ∧ W.tape = W0.tape ∧ W.output = W0.output) ∧ Boxed W (w.heap.size + 1 + 1 + 1) 30 (aheadV h L m pre) ∧ Boxed W (w.heap.size + 1) 24 (.int .i64 0) ∧ goneOk C L sz i pre))
    (fun c pre W => c = .ret ∧ (Stay W0.heap.size X W0 W ∧ W.os = W0.os ∧ W.tape = W0.tape ∧ W.output = W0.output) ∧ Boxed W (w.heap.size + 1) 24 (.int .i64 1) ∧ ∃ p x, p ++ [x] = pre ∧ x.1 % sz = i + 1 ∧ rowL C L x.1 ≠ ahead C L p) ?hI ?hIx ?h0 ?a1 ?assign ?body ?done ?stop
  case assign =>
    intro l x W K hK
    unfold encR
    gi_wp2
    exact hK
  case h1 => omega
  case hKb =>
    intro W l o o' hl _ _ _
    exact ⟨by simp, fun k hk _ => World.putObj_heap_other (by omega)⟩
  case hI =>
    refine OwnFrom.and (Own.from (holdsRow_own w.heap.size (w.heap.size + 1 + 1) 30 3 1 (fun (pre : List (Fin Q)) => (shrP C L sz i pre).length) (fun pre => iv (shrP C L sz i pre)) (fun _ v => ∀ k, v.ownBlock = some k → k = w.heap.size + 1 ∨ W0.heap.size ≤ k)) _) ?_
    rintro s X Y row ⟨⟨h1, h2, h3, h4⟩, h5, h6, h7⟩ hg hr
    have hsz := h1.size
    exact ⟨⟨h1.trans ⟨hg.size, fun k hk _ => hg.block k (by omega) (fun e => by have := (hr k e.symm).1; omega)⟩, hg.os.trans h2, hg.tape.trans h3, hg.output.trans h4⟩, boxOwn h5 hg hr, boxOwn h6 hg hr, h7⟩
  case hIx =>
    rintro c s X Y row ⟨h0, ⟨h1, h2, h3, h4⟩, h5, h6⟩ hg hr
    have hsz := h1.size
    exact ⟨h0, ⟨h1.trans ⟨hg.size, fun k hk _ => hg.block k (by omega) (fun e => by have := (hr k e.symm).1; omega)⟩, hg.os.trans h2, hg.tape.trans h3, hg.output.trans h4⟩, boxOwn h5 hg hr, h6⟩
  case h0 => exact ⟨⟨_, k2, World.ownsRow_nil _ _ _ _, fun k hk => by simp [Value.ownBlock] at hk⟩, ⟨Stay.refl _ _ _, rfl, rfl, rfl⟩, k3, k1, goneOk_nil _ _ _ _ _⟩
  case body =>
    rintro l pre x W ⟨⟨v, hv, hrow, hG⟩, ⟨hst, h4, h5, h6⟩, ha, he, hgo⟩ hlt
    have hN : W0.heap.size ≤ W.heap.size := hst.size
    have kw := keepW W hst
    have c2 := hv.cell
    have c0 : W.cell? ⟨w.heap.size, 0, none⟩ = some (.int .i64 (i : Int)) := (show Boxed W _ _ _ from (hst.block _ k0.lt (hXn _ (by omega) (by omega) (by omega))).trans k0).cell
    have ca := ha.cell
    have fa := ha.frozen
    have ce := he.cell
    have fe := he.frozen
    have hCW : Row W h C := HH.out.co.keep (kw h hhl)
    have hlen := shrP_len C L sz i pre
    have hLC : L ≤ 4096 := by
      have := Nat.mul_le_mul_right L (show 1 ≤ Q by omega)
      have hCQ := HCQ.out
      omega
    have hle : pre.length * L ≤ 4096 := by
      have := Nat.mul_le_mul_right L (Nat.le_of_lt hlt)
      have hCQ := HCQ.out
      omega
    have hlx : (rowL C L x.1).length = L := rowL_length C L x.1 Q x.2 HCQ.out
    have hgl : (shrP C L sz i pre).length ≤ 4096 := by omega
    have HSN := hid (shrP_snoc C L sz i pre x)
    have HAV := hid (aheadV_snoc h L m pre x)
    have HGO := hid hgo
    obtain ⟨pa, ca2, hav, hcav⟩ := aheadV_at hCW L m HCQ.out pre
    have hal : (ahead C L pre).length ≤ 4096 := by
      unfold ahead
      cases pre.getLast? with
      | none => simp
      | some y => show (rowL C L y.1).length ≤ 4096; rw [rowL_length C L y.1 Q y.2 HCQ.out]; exact hLC
    have HEQ := hid (equal_ok (rowL C L x.1) (ahead C L pre) (some ⟨h, x.1 * L, none⟩) pa (m - x.1 * L) ca2 W (row_read hCW L x.1 Q x.2 HCQ.out).cells hcav (by omega))
    rw [hlx] at HEQ
    rw [hav] at ha ca
    have HCW := hid hCW; have HLX := hid hlx; have HV := hid hv; have HROW := hid hrow; have HG := hid hG; have HST := hid hst; have HX := hid x.2; have HAB := hid ha; have HEB := hid he
    clear hCW hlx hv hrow hG hst hlen hle kw ha he hgo hav hcav
    by_cases hxi : x.1 % sz = i + 1
    · have HSN2 := HSN.out
      rw [if_pos hxi, List.append_nil] at HSN2
      have HSN3 := hid HSN2
      clear HSN HSN2
      have e1 : (((x.1 : Nat) : Int) % (sz : Int) != ((i : Int) + 1)) = false := by
        rw [← Int.natCast_emod, hxi]; simp
      have HXI := hid hxi
      by_cases heq : rowL C L x.1 = ahead C L pre
      · rw [decide_eq_true heq] at HEQ
        have HGN := hid (goneOk_snoc HGO.out (x := x) fun _ => heq)
        clear hxi heq
        gi_wp2_with fail
        refine ⟨trivial, ?_⟩
        refine ((callsIn_wide.2 HEQ.out).inRound l).mono ?_
        rintro e w' ⟨rfl, n3, rfl⟩
        gi_wp2
        have hs := store_step W0.heap.size X (W.drewN n3) (w.heap.size + 1 + 1 + 1) (.slice (some ⟨h, x.1 * L, none⟩) L (m - x.1 * L)) hX3
        refine ⟨(keeps_drewN _ _ _).trans hs.1, (Stay.drewN W n3).trans hs.2, ⟨v, boxed_other HV.out (by omega), ?_, HG.out⟩, ⟨HST.out.trans ((Stay.drewN W n3).trans hs.2), h4, h5, h6⟩, ?_, boxed_other HEB.out (by omega), HGN.out⟩
        · rw [HSN3.out]
          have hr : (W.drewN n3).ownsRow w.heap.size 3 1 v (shrP C L sz i pre).length (iv (shrP C L sz i pre)) := HROW.out
          refine hr.kept (grownBy_setCell' _ _ _) (.inr fun e => ?_)
          rcases HG.out _ e with e | e <;> omega
        · rw [HAV.out]
          exact (boxed_drewN HAB.out n3).set _
      · rw [decide_eq_false heq] at HEQ
        have HNE := hid heq
        clear hxi heq
        gi_wp2_with fail
        refine ⟨trivial, ?_⟩
        refine ((callsIn_wide.2 HEQ.out).inRound l).mono ?_
        rintro e w' ⟨rfl, n3, rfl⟩
        gi_wp2
        have hs := store_step W0.heap.size X (W.drewN n3) (w.heap.size + 1) (.int .i64 1) hX1
        exact ⟨(keeps_drewN _ _ _).trans hs.1, rfl, ⟨HST.out.trans ((Stay.drewN W n3).trans hs.2), h4, h5, h6⟩, (boxed_drewN HEB.out n3).set _, pre, x, rfl, HXI.out, HNE.out⟩
    · have HSN2 := HSN.out
      rw [if_neg hxi] at HSN2
      have HSN3 := hid HSN2
      have HGN := hid (goneOk_snoc HGO.out (x := x) fun h => absurd h hxi)
      clear HSN HSN2
      have e1 : (((x.1 : Nat) : Int) % (sz : Int) != ((i : Int) + 1)) = true := by
        rw [← Int.natCast_emod]; simp; omega
      clear hxi
      generalize shrP C L sz i pre = A at *
      gi_wp2_with (gi_at_builtin; refine wpListIn_app (open_round _ _) rfl _ _ _ rfl rfl rfl (int_own _ _ _ _ HROW.out _ L _ (iv (rowL C L x.1)) (row_read HCW.out L x.1 Q HX.out HCQ.out) (by rw [iv_length, HLX.out]) (iv_one _) (by omega) (by omega)) ?_)
      intro v1 w1 hO1
      have hshape := own_shape hO1.1
      obtain ⟨s1, s2, s3, s4, s5, s6, s7⟩ := out_step HV.out HROW.out HG.out hO1 hN (by omega) (by omega)
      obtain ⟨p1, cp1, rfl⟩ := hshape
      have c3 := s1.cell
      have f3 := s1.frozen
      obtain ⟨W2, hW2⟩ : ∃ W2, w1.setCell ⟨w.heap.size + 1 + 1, 0, none⟩ (.slice p1 (A.length + L) cp1) = W2 := ⟨_, rfl⟩
      rw [hW2] at s2 s3 s5 s6
      have s6' := stay_mono s6 hX2
      have bA : Boxed W2 (w.heap.size + 1 + 1 + 1) 30 (.slice pa (ahead C L pre).length ca2) := by
        rw [← hW2]
        exact boxed_other (HAB.out.kept s7 (fun e => by rcases HG.out _ e.symm with e | e <;> omega)) (by omega)
      have bE : Boxed W2 (w.heap.size + 1) 24 (.int .i64 0) := by
        rw [← hW2]
        exact boxed_other (HEB.out.kept s7 (HEB.out.not_row (by decide) HROW.out)) (by omega)
      have d3 := bA.cell
      have e3 := bA.frozen
      rw [← iv_append] at s3
      have hal2 : (A ++ rowL C L x.1).length = A.length + L := by rw [List.length_append, HLX.out]
      have HAL := hid hal2
      have S2 := hid s2; have S3 := hid s3; have S4 := hid s4; have S5 := hid s5; have S6 := hid s6'; have S7 := hid s7; have BA := hid bA; have BE := hid bE
      clear s1 s2 s3 s4 s5 s6 s6' s7 hO1 hal2 bA bE
      gi_wp2
      have hs := store_step W0.heap.size X W2 (w.heap.size + 1 + 1 + 1) (.slice (some ⟨h, x.1 * L, none⟩) L (m - x.1 * L)) hX3
      refine ⟨S5.out.trans hs.1, S6.out.trans hs.2, ⟨_, boxed_other S2.out (by omega), ?_, S4.out⟩, ⟨HST.out.trans (S6.out.trans hs.2), ?_, ?_, ?_⟩, ?_, boxed_other BE.out (by omega), HGN.out⟩
      · rw [HSN3.out, HAL.out]
        refine S3.out.kept (grownBy_setCell' _ _ _) (.inr fun e => ?_)
        rcases S4.out _ e with e | e <;> omega
      · exact (show W2.os = w1.os by rw [← hW2]; rfl).trans (S7.out.os.trans h4)
      · exact (show W2.tape = w1.tape by rw [← hW2]; rfl).trans (S7.out.tape.trans h5)
      · exact (show W2.output = w1.output by rw [← hW2]; rfl).trans (S7.out.output.trans h6)
      · rw [HAV.out]
        exact BA.out.set _
  case done =>
    rintro D xs W hD rfl ⟨⟨v, hv, hrow, hG⟩, ⟨hst, h4, h5, h6⟩, ha, he, hgo⟩ hK
    obtain ⟨pv, cv, rfl⟩ := own_shape hrow
    obtain ⟨A, hA⟩ : ∃ A, shrP C L sz i (List.finRange Q) = A := ⟨_, rfl⟩
    rw [hA] at hv hrow
    have HA : Hid (shrC C (prodL (S.drop (d + 1))) (S.getD d 1) i (C.length / prodL (S.drop (d + 1))) = A) := hid (by rw [← hA, shrP_all, HL.out, HQ2.out, HSZ.out])
    have HOK : Hid (shrOk C (prodL (S.drop (d + 1))) (S.getD d 1) i (C.length / prodL (S.drop (d + 1)))) := hid (by rw [HL.out, HQ2.out, HSZ.out]; exact goneOk_all hgo)
    have kw := keepW W hst
    have c2 := hv.cell
    have z0 : W.cell? ⟨b, 0, none⟩ = some (.slice (some ⟨g, 0, none⟩) S.length k) := (World.cell?_of_block (kw b hbl)).trans y0
    have z1 : W.cell? ⟨b, 1, none⟩ = some (.slice (some ⟨h, 0, none⟩) C.length m) := (World.cell?_of_block (kw b hbl)).trans y1
    have zg : W.cell? ⟨g, d, none⟩ = some (.int .i64 (sz : Int)) := (World.cell?_of_block (kw g hgl)).trans yz
    have hRg : Row W g (zs S) := HH.out.sz.keep (kw g hgl)
    have fg := hRg.frozen d
    have fb : W.frozen? ⟨b, 1, none⟩ = false := by
      obtain ⟨k', m', _, _, e⟩ := HH.out.head
      exact frozen_of_row _ _ _ _ _ ((kw b hbl).trans e)
    have hne := HH.out.ne
    have n1 : b ≠ g := hne.1
    have n1' : g ≠ b := fun e => hne.1 e.symm
    have n2 : w.heap.size + 1 + 1 ≠ g := by omega
    have n3 : w.heap.size + 1 + 1 ≠ b := by omega
    have hdk : (d : Int) < (S.length : Int) := by omega
    have hw1 : IntKind.i64.wrap ((sz : Int) - 1) = (sz : Int) - 1 := Go.IntWalk.i64_in _ (by omega)
    have q0 : W.cell? ⟨b, 0, none⟩ = some (.slice (some ⟨g, 0, none⟩) S.length k) ∧ W.cell? ⟨w.heap.size + 1 + 1, 0, none⟩ = some (.slice pv A.length cv) := ⟨z0, c2⟩
    have q1 : (W.setCell ⟨g, d, none⟩ (.int .i64 ((sz : Int) - 1))).cell? ⟨b, 0, none⟩ = some (.slice (some ⟨g, 0, none⟩) S.length k) ∧ (W.setCell ⟨g, d, none⟩ (.int .i64 ((sz : Int) - 1))).cell? ⟨w.heap.size + 1 + 1, 0, none⟩ = some (.slice pv A.length cv) :=
      ⟨(World.cell?_of_block (heap_setCell_other _ _ _ _ n1)).trans z0, (World.cell?_of_block (heap_setCell_other _ _ _ _ n2)).trans c2⟩
    have q2 : ((W.setCell ⟨g, d, none⟩ (.int .i64 ((sz : Int) - 1))).setCell ⟨b, 1, none⟩ (.slice pv A.length cv)).cell? ⟨b, 0, none⟩ = some (.slice (some ⟨g, 0, none⟩) S.length k) ∧ ((W.setCell ⟨g, d, none⟩ (.int .i64 ((sz : Int) - 1))).setCell ⟨b, 1, none⟩ (.slice pv A.length cv)).cell? ⟨w.heap.size + 1 + 1, 0, none⟩ = some (.slice pv A.length cv) :=
      ⟨(World.cell?_setCell_other _ _ _ _ (fun e => absurd (congrArg Addr.off e) (by show ¬ (1 : Nat) = 0; omega))).trans q1.1, (World.cell?_of_block (heap_setCell_other _ _ _ _ n3)).trans q1.2⟩
    have HKW := hid kw; have HROW := hid hrow; have HG := hid hG; have HST := hid hst; have HK := hid hK; have HVV := hid hv; have HKEEP := hid keepW; have HBW := hid hBw; have HB0 := hid hb0; have HFIT := hid F
    have HEB := hid he
    clear hA kw hrow hG hst hK hRg hne hv keepW hBw hBV hb0 k0 k1 k2 k3 kept g0 g1 g2 v0 v1 v2 v3 hRtF hlts F y0 y1 yz hfew hmo ha he hgo
    gi_wp2
    refine wpIn_only ?_
    gi_region
    all_goals unfold onN
    obtain ⟨W5, hW5⟩ : ∃ W5, ((W.setCell ⟨g, d, none⟩ (.int .i64 ((sz : Int) - 1))).setCell ⟨b, 1, none⟩ (.slice pv A.length cv)).drew = W5 := ⟨_, rfl⟩
    rw [hW5]
    have hBE5 : Boxed W5 (w.heap.size + 1) 24 (.int .i64 0) := by
      rw [← hW5]
      unfold Boxed
      show ((W.setCell ⟨g, d, none⟩ (.int .i64 ((sz : Int) - 1))).setCell ⟨b, 1, none⟩ (.slice pv A.length cv)).heap[w.heap.size + 1]? = _
      rw [heap_setCell_other _ _ _ _ (by show w.heap.size + 1 ≠ b; omega), heap_setCell_other _ _ _ _ (by show w.heap.size + 1 ≠ g; omega)]
      exact HEB.out
    have ce5 := hBE5.cell
    have fe5 := hBE5.frozen
    have hK5 : W5.heap[D]? = some (.deferred (some [])) := by
      rw [← hW5]
      exact (KeepsOthers.setCell _ _ _).same D _ ((KeepsOthers.setCell _ _ _).same D _ HK.out rfl) rfl
    have hlen : 0 < A.length := by
      rw [← HA.out]
      exact shr_pos S C HFIT.out d i hd (by rw [HSZ.out]; exact hi)
    have hbw := HBW.out
    obtain ⟨h', r1, r2, r3⟩ := slab_turn (x := sz - 1) (W5 := W5) HH.out HKW.out (h4.trans hbw.os) (h5.trans hbw.tape) (h6.trans hbw.output) (by have := HST.out.size; have := hbw.size; omega) HROW.out hlen hd (by omega) HK.out (by rw [← hW5, Int.natCast_sub (by omega)]; rfl)
    have hDe : D ≠ w.heap.size + 1 := by omega
    have hset : ∀ j, j ≠ w.heap.size + 1 → ((W5.setCell ⟨w.heap.size + 1, 0, none⟩ (.int .i64 0)).putObj D (.deferred none)).heap[j]? = (W5.putObj D (.deferred none)).heap[j]? := fun j hj => by
      by_cases e : j = D
      · subst e
        have hlt : j < W5.heap.size := (Array.getElem?_eq_some_iff.1 hK5).1
        rw [World.putObj_heap_same hlt, World.putObj_heap_same (by rw [World.size_setCell]; exact hlt)]
      · rw [World.putObj_heap_other e, World.putObj_heap_other e, heap_setCell_other _ _ _ _ hj]
    have hh' : h' ≠ w.heap.size + 1 := fun e => by
      obtain ⟨r, hr⟩ := r1.co
      rw [e, World.putObj_heap_other hDe.symm, show W5.heap[w.heap.size + 1]? = _ from hBE5] at hr
      injection hr with hr
      injection hr with _ ht
      exact absurd ht (by decide)
    have R1 := hid (r1.keep (w' := (W5.setCell ⟨w.heap.size + 1, 0, none⟩ (.int .i64 0)).putObj D (.deferred none)) fun j hj => hset j (by rcases hj with rfl | rfl | rfl <;> omega))
    have R3 : Hid (Onl (fun k => k = b ∨ k = g) w ((W5.setCell ⟨w.heap.size + 1, 0, none⟩ (.int .i64 0)).putObj D (.deferred none))) := hid
      ⟨r3.os, r3.tape, r3.output, by have := r3.size; simp at this ⊢; exact this, fun j hj hq => (hset j (by omega)).trans (r3.block j hj hq)⟩
    have hK6 : (W5.setCell ⟨w.heap.size + 1, 0, none⟩ (.int .i64 0)).heap[D]? = some (.deferred (some [])) := (KeepsOthers.setCell _ _ _).same D _ hK5 rfl
    have hcell : ((W5.setCell ⟨w.heap.size + 1, 0, none⟩ (.int .i64 0)).putObj D (.deferred none)).cell? ⟨w.heap.size + 1, 0, none⟩ = some (.int .i64 0) :=
      cell_kept (hBE5.set (.int .i64 0)).cell (grownBy_putObj' _ D (.deferred none)) (fun r e => by cases e; exact ⟨_, hK6, rfl⟩)
    clear hset r1 r3 hW5 hlen hbw q0 q1 q2 z0 z1 zg c2 fg fb
    gi_wp2
    refine ⟨by simp, .inl ⟨_, _, rfl, run_takeDeferred hK6, ?_⟩⟩
    refine ⟨.int .i64 0, ?_, .inl ⟨HOK.out, h', rfl, by rw [HA.out, HSZ.out]; exact R1.out, r2, R3.out⟩⟩
    simp [results, Try.f14, go_sem, hcell]
  case stop =>
    rintro D c pre W hD ⟨kk, hkk, hpre⟩ ⟨rfl, ⟨hst, h4, h5, h6⟩, he, pp, xx, hpx, hxi, hne⟩ hK
    have hnot := gone_not (C := C) (L := L) (sz := sz) (i := i) hkk (hpx.trans hpre) hxi hne
    have hnot2 : ¬ shrOk C (prodL (S.drop (d + 1))) (S.getD d 1) i (C.length / prodL (S.drop (d + 1))) := by rw [HL.out, HQ2.out, HSZ.out]; exact hnot
    have hB5 : Below w.heap.size w (W.putObj D (.deferred none)) := by
      have hb := hBw
      have kw := keepW W hst
      refine ⟨h4.trans hb.os, h5.trans hb.tape, h6.trans hb.output, by have := hst.size; have := hb.size; simp; omega, fun j hj => ?_⟩
      rw [World.putObj_heap_other (by omega)]; exact kw j hj
    have hcell := cell_kept he.cell (grownBy_putObj' _ D (.deferred none)) (fun r e => by cases e; exact ⟨_, hK, rfl⟩)
    have HN := hid hnot2; have HB5 := hid hB5; have HK := hid hK
    clear hnot hnot2 hB5 hK hst he hpx hne hpre
    gi_wp2
    refine ⟨by simp, .inl ⟨_, _, rfl, run_takeDeferred HK.out, ?_⟩⟩
    refine ⟨.int .i64 1, ?_, .inr ⟨HN.out, rfl, HB5.out⟩⟩
    simp [results, Try.f14, go_sem, hcell]
end Go.Proofs.Ytpbidpgpehicmaa.Sl
