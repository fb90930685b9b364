/- rows of slab: what the function value goes through. -/
import Derived.Test.YtpbidpgpehicmaaSlRows
import Derived.Test.YtpbidpgpehicmaaSlStill
namespace Go.Proofs.Ytpbidpgpehicmaa.Sl
open Go.RowKit Go.Shelf
open Go.Lib (hid)
attribute [local go_sem] Oper.semAt_some

set_option maxRecDepth 100000 in
theorem slice_lh (b len c lo hi : Nat) (h1 : lo < hi) (h2 : hi ≤ c) (w : World) : (Instr.slice 30 (.slice (some ⟨b, 0, none⟩) len c) (some (.int .i64 (lo : Int))) (some (.int .i64 (hi : Int))) none).run Try.prog w = .ok (.slice (some ⟨b, lo, none⟩) (hi - lo) (c - lo)) w := by
  have hs : (sizeOf 3).run Try.prog w = .ok 1 w := by kernel_rfl
  rw [run_slice_lh w _ (some ⟨b, 0, none⟩) len c (by kernel_rfl) .i64 .i64 lo hi (by omega) (by omega) (by omega)]
  have e : Try.prog.elem 30 = 3 := by kernel_rfl
  rw [e, hs]
  simp only [Result.andThen, sliced, Int.toNat_natCast, Nat.mul_one]
  rw [if_neg (by omega)]
  simp [addr_add]
/-- what the rows' iterator reads -/
structure RtF (bs bL bd b g h d L sz n k m : Nat) (sl : Nat) (w : World) : Prop where
  s : w.cell? ⟨bs, 0, none⟩ = some (.pointer (some ⟨b, 0, none⟩))
  l : w.cell? ⟨bL, 0, none⟩ = some (.int .i64 (L : Int))
  dd : w.cell? ⟨bd, 0, none⟩ = some (.int .i64 (d : Int))
  h0 : w.cell? ⟨b, 0, none⟩ = some (.slice (some ⟨g, 0, none⟩) sl k)
  h1 : w.cell? ⟨b, 1, none⟩ = some (.slice (some ⟨h, 0, none⟩) n m)
  z : w.cell? ⟨g, d, none⟩ = some (.int .i64 (sz : Int))
/-- a piece, as it is told -/
def encR (h L sz m : Nat) {Q : Nat} (x : Fin Q) : Array Value := #[.int .i64 ((x.1 % sz : Nat) : Int), .slice (some ⟨h, x.1 * L, none⟩) L (m - x.1 * L)]
set_option maxRecDepth 100000 in
set_option maxHeartbeats 4000000 in
theorem rows1_in (e : Nat) (he : 1 ≤ e) (l bs bL bd b g h d L sz n k m sl Q : Nat) (hL : 1 ≤ L) (hn : n = Q * L) (hn2 : n ≤ 4096) (hm : n ≤ m) (hsz : 1 ≤ sz) (hsz2 : sz ≤ 4096) (hd : d < sl) (N : Nat) (X : Nat → Prop) (w : World) (hF : ∀ W, Stay N X w W → RtF bs bL bd b g h d L sz n k m sl W)
    (J Jx : List (Fin Q) → World → Prop) (W : World) (hW : Stay N X w W) (hJ : ∀ s A B, J s A → A.grownBy B none → J s B)
    (hY : ∀ pre x V, J pre V → pre.length < Q → YieldAt Fence.wide (e - 1) Try.prog l (encR h L sz m x) V fun e V' =>
      (e = .returned (.bool true) ∧ J (pre ++ [x]) V' ∧ Stay N X V V') ∨ (e = .returned (.bool false) ∧ Jx (pre ++ [x]) V'))
    (h0 : J [] W) :
    CallsIn Fence.wide e Try.prog 46 #[.func (.yield l) #[] #[], .pointer (some ⟨bs, 0, none⟩), .pointer (some ⟨bL, 0, none⟩), .pointer (some ⟨bd, 0, none⟩)] W fun e W' => (∃ v, e = .returned v) ∧
      ((∃ xs, xs = List.finRange Q ∧ J xs W') ∨ (∃ pre, (∃ k, k < Q ∧ pre = (List.finRange Q).take (k + 1)) ∧ Jx pre W')) := by
  have f := hF W hW
  have y0 := f.s
  have y1 := f.h1
  have y2 := f.l
  have hq : (n : Int) / (L : Int) = (Q : Int) := by rw [← Int.natCast_ediv, hn, Nat.mul_div_cancel _ (by omega)]
  have hL0 : ¬ (L : Int) = 0 := by omega
  have hQn : Q ≤ 4096 := by rw [hn] at hn2; exact Nat.le_trans (Nat.le_mul_of_pos_right _ hL) hn2
  have hqw : wrap64 (Q : Int) = (Q : Int) := Go.IntWalk.wrap64_in _ (by omega)
  have HF := hid hF; have HJ := hid hJ; have HY := hid hY; have HN := hid hn
  clear hF hJ hY hn f
  refine callsIn_of_wp Try.func46 rfl trivial ?_ rfl
  simp only [Try.ntmps46, List.size_toArray, List.length_cons, List.length_nil, Nat.reduceAdd, Nat.reduceSub, Array.replicate_succ, Array.replicate_zero, List.push_toArray, List.append_toArray, List.nil_append, List.cons_append]
  gi_wp2
  gi_region
  gi_wp2
  clear hq hqw y0 y1 y2
  have hJ0 : J ((List.finRange Q).take 0) W.drew := HJ.out _ _ _ h0 ⟨rfl, rfl, rfl, Nat.le_refl _, fun _ _ _ => rfl⟩
  have HJ0 := hid hJ0
  have HW := hid hW
  clear hJ0 h0 hW
  gi_loopw [13] (fun i wr => ∃ K : Nat, K ≤ Q ∧ i = .int .i64 K ∧ J ((List.finRange Q).take K) wr ∧ Stay N X w wr) (fun i _ => Q - (intOf i).toNat)
  case atStart => exact ⟨0, by omega, rfl, HJ0.out, HW.out.trans ⟨Nat.le_refl _, fun _ _ _ => rfl⟩⟩
  case round =>
    obtain ⟨K, hK, rfl, hJK, hst⟩ := hrel
    have HJK := hid hJK; have HST := hid hst
    clear hJK hst
    by_cases hlt : K < Q
    · have f := HF.out wr HST.out
      have z0 := f.s
      have z1 := f.h1
      have z2 := f.l
      have z3 := f.dd
      have z4 := f.h0
      have z5 := f.z
      have hKL : (K + 1) * L ≤ n := by rw [HN.out]; exact Nat.mul_le_mul_right _ hlt
      have hKL0 : K * L < (K + 1) * L := Nat.mul_lt_mul_of_pos_right (by omega) hL
      have hsub : (K + 1) * L - K * L = L := by rw [Nat.add_mul, Nat.one_mul]; omega
      have HSL : Hid (∀ V : World, (Instr.slice 30 (.slice (some ⟨h, 0, none⟩) n m) (some (.int .i64 ((K * L : Nat) : Int))) (some (.int .i64 (((K + 1) * L : Nat) : Int))) none).run Try.prog V = .ok (.slice (some ⟨h, K * L, none⟩) L (m - K * L)) V) := hid fun V => by
        have := slice_lh h n m (K * L) ((K + 1) * L) hKL0 (by omega) V
        rwa [hsub] at this
      have w0 : IntKind.i64.wrap ((K : Int) + 1) = (K : Int) + 1 := Go.IntWalk.i64_in _ (by omega)
      have w1 : IntKind.i64.wrap ((K : Int) * (L : Int)) = ((K * L : Nat) : Int) := by rw [← Int.natCast_mul]; exact Go.IntWalk.i64_in _ (by omega)
      have w2 : IntKind.i64.wrap (((K : Int) + 1) * (L : Int)) = (((K + 1) * L : Nat) : Int) := by
        rw [show (K : Int) + 1 = ((K + 1 : Nat) : Int) by omega, ← Int.natCast_mul]; exact Go.IntWalk.i64_in _ (by omega)
      have hs0 : ¬ sz = 0 := by omega
      have htm : (K : Int).tmod (sz : Int) = ((K % sz : Nat) : Int) := rfl
      have hlen : ((List.finRange Q).take K).length = K := by simp; omega
      obtain ⟨fn, tmps, assign, body, hy, hR⟩ := HY.out _ (⟨K, hlt⟩ : Fin Q) wr.drew (HJ.out _ _ _ HJK.out ⟨rfl, rfl, rfl, Nat.le_refl _, fun _ _ _ => rfl⟩) (by rw [hlen]; exact hlt)
      have hxs : (List.finRange Q).take K ++ [(⟨K, hlt⟩ : Fin Q)] = (List.finRange Q).take (K + 1) := by
        rw [List.take_succ_eq_append_getElem (by simpa using hlt)]; simp
      rw [hxs] at hR
      have HYE : Hid ((Instr.yield l #[Value.int .i64 ((K : Int) % (sz : Int)), .slice (some ⟨h, K * L, none⟩) L (m - K * L)]).run Try.prog wr.drew = .ok (.round l fn tmps assign body) wr.drew) := hid hy
      have HR := hid hR
      clear hy hR hxs hlen f hsub
      have hlo1 : K * L ≤ 4096 := by omega
      clear hKL0 hKL
      generalize K * L = lo at *
      generalize (K + 1) * L = hi at *
      have hsl := HSL.out
      gi_wp2
      refine wpIn_still_tail (open_wide _) 22 (by kernel_rfl) (by kernel_rfl) (by kernel_rfl) ?_
      simp only [List.take_succ_cons, List.take_zero, List.drop_succ_cons, List.drop_zero]
      repeat still_step
      refine wpStill_nil ?_
      have hst' : Stay N X w wr.drew := HST.out.trans ⟨Nat.le_refl _, fun _ _ _ => rfl⟩
      have HST' := hid hst'
      clear hst' hsl HSL w0 w1 w2 z0 z1 z2 z3 z4 z5 hs0 htm
      gi_wp2
      rw [HYE.out]
      gi_wp2
      refine HR.out.mono ?_
      rintro e W3 (⟨rfl, hJ3, hk3⟩ | ⟨rfl, hJx3⟩)
      · gi_wp2
        exact ⟨⟨K + 1, by omega, by go_num, hJ3, HST'.out.trans hk3⟩, by simp [intOf]; omega⟩
      · gi_wp2
        refine bodyPost_ret (results_none rfl _ _ _) rfl ?_
        exact ⟨⟨_, rfl⟩, .inr ⟨_, ⟨K, by omega, rfl⟩, hJx3⟩⟩
    · obtain rfl : K = Q := by omega
      gi_wp2
      go_end0
      exact ⟨⟨_, rfl⟩, .inl ⟨_, rfl, by have := HJK.out; rwa [List.take_of_length_le (by simp)] at this⟩⟩
end Go.Proofs.Ytpbidpgpehicmaa.Sl
