/- Put of the reference's atlas. -/
import Derived.Test.YtmniaaledplhfaaAtRWin
import Derived.Test.YtmniaaledplhfaaAtLv
namespace Go.Proofs.Ytmniaaledplhfaa.At
open Go.RowKit
open Go.Lib (hid)
open Go.Proofs.Ytmniaaledplhfaa.Ky Go.Proofs.Ytmniaaledplhfaa.Bk Go.Proofs.Ytmniaaledplhfaa.Pt

theorem big_app {L : List Rec} {k : List Nat} {t : ByteArray} (h : bigR L) (hk : k.length ≤ 1000) (ht : t.size ≤ 1000) (hl : L.length < 1000) : bigR (L ++ [(k, t)]) :=
  ⟨by simp; omega, fun r hr => by
    rcases List.mem_append.1 hr with hr | hr
    · exact h.2 r hr
    · have : r = (k, t) := by simpa using hr
      subst this
      exact ⟨hk, ht⟩⟩
/-- a new record has come into the row, and the row into the struct -/
theorem Ra.put_new {N b : Nat} {W W1 w3 : World} {X : Nat → Prop} {v v' : Value} {d : Int} {L : List Rec} {k : List Nat} {t : ByteArray} {p' : Option Addr} {c' : Nat} {o : Obj} (h : Ra N W X b v d L) (hX : ∀ j, X j → j < W.heap.size)
    (hb : Below W.heap.size W W1) (hp : PtD (Lt W.heap.size) W1 p' k) (hl : L.length < 1000) (hk : k.length ≤ 1000) (ht : t.size ≤ 1000) (hXa : ∀ j, X j → ¬ FT b v j)
    (xs : List Value) (_ : W.ownsRow N 33 2 v L.length xs) (h2 : RC (fun k => FT b v k ∨ X k) W xs L) (ho : w3.ownsRow N 33 2 v' (L.length + 1) (xs ++ [.slice p' k.length c', .string t]))
    (hg : (W1.alloc o).grownBy w3 v.ownBlock) (hv : v'.ownBlock = v.ownBlock ∨ v'.ownBlock = some (W1.heap.size + 1)) :
    Ra N (w3.setCell ⟨b, 1, none⟩ v') X b v' d (L ++ [(k, t)]) ∧ Onl (FT b v) W (w3.setCell ⟨b, 1, none⟩ v') ∧ (∀ j, j < W.heap.size → FT b v' j → FT b v j) ∧ (∀ j, X j → ¬ FT b v' j) := by
  have hW12 : W1.heap.size ≤ (W1.alloc o).heap.size := by simp
  have hb2 : Below W.heap.size W (W1.alloc o) := hb.trans ((below_alloc W1 o).mono hb.size)
  have hfrom : ∀ j, j < (W1.alloc o).heap.size → FT b v' j → FT b v j := fun j hj hf => by
    rcases hf with rfl | hf
    · exact .inl rfl
    · rcases hv with e | e
      · exact .inr (e ▸ hf)
      · rw [e] at hf; injection hf with hf; simp at hj; omega
  have hfrom0 : ∀ j, j < W.heap.size → FT b v' j → FT b v j := fun j hj => hfrom j (by have := hb2.size; omega)
  have hne : v'.ownBlock ≠ some b := fun e => by
    rcases hv with e' | e'
    · exact h.ne (e'.symm.trans e)
    · rw [e'] at e; injection e with e; have := h.ltb; have := hb.size; omega
  have hbl : b < (W1.alloc o).heap.size := Nat.lt_of_lt_of_le h.ltb hb2.size
  have hhead : w3.heap[b]? = some (.cells #[.int .i64 d, v] 55 (0, 0)) := by
    rw [hg.block b hbl (fun e => h.ne e.symm), hb2.block b h.ltb]; exact h.head
  have hkeep : ∀ j, j < (W1.alloc o).heap.size → ¬ FT b v j → (w3.setCell ⟨b, 1, none⟩ v').heap[j]? = (W1.alloc o).heap[j]? := fun j hj hf => by
    rw [heap_setCell_other _ _ _ _ (show j ≠ b from fun e => hf (.inl e)), hg.block j hj (fun e => hf (.inr e.symm))]
  have hK : Keep (fun j => (FT b v j ∨ FT b v' j) ∨ X j) (W1.alloc o) (w3.setCell ⟨b, 1, none⟩ v') := ⟨by simpa using hg.size, fun j hj hD => hkeep j hj (fun hf => hD (.inl (.inl hf)))⟩
  have r1 : RC (fun j => (FT b v j ∨ FT b v' j) ∨ X j) (W1.alloc o) xs L := (h2.less (fun j hj hD => by
    rcases hD with (hD | hD) | hD
    · exact .inl hD
    · exact .inl (hfrom0 j hj hD)
    · exact .inr hD)).below hb2
  have r2 : PtD (fun j => (FT b v j ∨ FT b v' j) ∨ X j) (W1.alloc o) p' k := ((hp.keep (.below (below_alloc W1 o))).less (D' := fun j => (FT b v j ∨ FT b v' j) ∨ X j) (fun j hj hD => by
    show j < W.heap.size
    rcases hD with (hD | hD) | hD
    · exact h.lt j hD
    · exact h.lt j (hfrom j hj hD)
    · exact hX j hD))
  have r3 : RC (fun j => (FT b v j ∨ FT b v' j) ∨ X j) (W1.alloc o) (xs ++ [.slice p' k.length c', .string t]) (L ++ [(k, t)]) := by
    exact r1.app (RC.one r2)
  refine ⟨⟨?_, ⟨_, ?_, ((r3.keep hK).less (fun j hj hD => ?_))⟩, h.lo, hne, big_app h.big hk ht hl⟩, ⟨?_, ?_, ?_, ?_, fun j hj hf => ?_⟩, hfrom0, fun j hj hf => ?_⟩
  · rw [heap_setCell_same _ _ _ _ _ _ hhead]; simp
  · have hlen : (L ++ [(k, t)]).length = L.length + 1 := by simp
    rw [hlen]
    exact own_keep ho (fun g hg' => heap_setCell_other _ _ _ _ (fun e => hne (by rw [hg']; exact congrArg some e)))
  · rcases hD with hD | hD
    · exact .inl (.inr hD)
    · exact .inr hD
  · exact hg.os.trans hb2.os
  · exact hg.tape.trans hb2.tape
  · exact hg.output.trans hb2.output
  · rw [World.size_setCell]; exact Nat.le_trans hb2.size hg.size
  · rw [hkeep j (Nat.lt_of_lt_of_le hj hb2.size) hf, hb2.block j hj]
  · exact hXa j hj (hfrom0 j (hX j hj) hf)
/-- another text comes into a record -/
theorem Ra.over {N b i g c : Nat} {W : World} {X : Nat → Prop} {d : Int} {L : List Rec} {k : List Nat} {t : ByteArray} (h : Ra N W X b (.slice (some ⟨g, 0, none⟩) L.length c) d L) (hil : i < L.length) (hk : L[i].1 = k) (ht : t.size ≤ 1000) :
    Ra N (W.setCell ⟨g, i * 2 + 1, none⟩ (.string t)) X b (.slice (some ⟨g, 0, none⟩) L.length c) d (L.set i (k, t)) ∧ Onl (FT b (.slice (some ⟨g, 0, none⟩) L.length c)) W (W.setCell ⟨g, i * 2 + 1, none⟩ (.string t)) := by
  obtain ⟨xs, o1, o2⟩ := h.row
  have s2 := o1.stored (i * 2 + 1) (.string t)
  have hgb : g ≠ b := fun e => h.ne (by rw [e]; rfl)
  have hK : Keep (fun j => FT b (.slice (some ⟨g, 0, none⟩) L.length c) j ∨ X j) W (W.setCell ⟨g, i * 2 + 1, none⟩ (.string t)) := ⟨by simp, fun j _ hD => by
    have hne : j ≠ g := fun e => hD (.inl (.inr (by rw [e]; rfl)))
    rw [heap_setCell_other _ _ _ _ hne]⟩
  obtain ⟨q, c2, g1, g2, g3⟩ := o2.2 i hil
  have r3 : RC (fun j => FT b (.slice (some ⟨g, 0, none⟩) L.length c) j ∨ X j) W (xs.set (i * 2 + 1) (.string t)) (L.set i (k, t)) := by
    refine ⟨by rw [List.length_set, List.length_set]; exact o2.1, fun j hj => ?_⟩
    rw [List.length_set] at hj
    obtain ⟨q', c3, f1, f2, f3⟩ := o2.2 j hj
    have hx := o2.1
    by_cases e : j = i
    · subst e
      refine ⟨q', c3, ?_, ?_, ?_⟩
      · rw [List.getElem?_set, if_neg (by omega), f1, List.getElem_set_self, hk]
      · rw [List.getElem?_set, if_pos rfl, if_pos (by omega), List.getElem_set_self]
      · rw [List.getElem_set_self, ← hk]; exact f3
    · refine ⟨q', c3, ?_, ?_, ?_⟩
      · rw [List.getElem?_set, if_neg (by omega), f1, List.getElem_set_ne (Ne.symm e)]
      · rw [List.getElem?_set, if_neg (by omega), f2, List.getElem_set_ne (Ne.symm e)]
      · rw [List.getElem_set_ne (Ne.symm e)]; exact f3
  refine ⟨⟨?_, ⟨_, ?_, r3.keep hK⟩, h.lo, h.ne, ⟨by rw [List.length_set]; exact h.big.1, fun r hr => ?_⟩⟩, ⟨rfl, rfl, rfl, by simp, fun j hj hf => ?_⟩⟩
  · rw [heap_setCell_other _ _ _ _ (Ne.symm hgb)]; exact h.head
  · rw [List.length_set]; exact s2.1
  · rcases List.mem_or_eq_of_mem_set hr with h1 | rfl
    · exact h.big.2 r h1
    · exact ⟨by rw [← hk]; exact (h.big.2 _ (List.getElem_mem hil)).1, ht⟩
  · have hne : j ≠ g := fun e => hf (.inr (by rw [e]; rfl))
    rw [heap_setCell_other _ _ _ _ hne]
theorem Ra.slot {N b i g c : Nat} {w : World} {X : Nat → Prop} {d : Int} {L : List Rec} (h : Ra N w X b (.slice (some ⟨g, 0, none⟩) L.length c) d L) (hi : i < L.length) : (∃ u, w.cell? ⟨g, i * 2 + 1, none⟩ = some u) ∧ w.frozen? ⟨g, i * 2 + 1, none⟩ = false := by
  obtain ⟨xs, h1, _⟩ := h.row
  have hx := h1.1
  refine ⟨⟨xs[i * 2 + 1]'(by omega), ?_⟩, h1.frozenAt _⟩
  rw [h1.cellAt _ (by omega)]; exact List.getElem?_eq_getElem _
/-- what 'Put' makes of the records -/
def PutR (K : List Rec) (k : List Nat) (t : ByteArray) (K' : List Rec) : Prop := (∃ j, ∃ h : j < K.length, K[j].1 = k ∧ K' = K.set j (k, t)) ∨ ((∀ j, (h : j < K.length) → K[j].1 ≠ k) ∧ K' = K ++ [(k, t)])
set_option maxRecDepth 100000 in
set_option maxHeartbeats 4000000 in
theorem rput_ok {N b : Nat} {X : Nat → Prop} {v : Value} {d : Int} {L : List Rec} (k : List Nat) (t : ByteArray) (q : Option Addr) (c' : Nat) (w : World) (h : Ra N w X b v d L) (hXl : ∀ j, X j → j < w.heap.size) (hXa : ∀ j, X j → ¬ FT b v j) (hN : N ≤ w.heap.size) (hq : Pt w q k) (hr : recB k t d = true) (hl : L.length < 1000) :
    Calls Try.prog 13 #[.pointer (some ⟨b, 0, none⟩), .agg #[.slice q k.length c', .string t]] w fun e w' => e = .returned (.int .i64 0) ∧ ∃ v' K', PutR L k t K' ∧ Ra N w' X b v' d K' ∧ Onl (FT b v) w w' ∧ (∀ j, j < w.heap.size → FT b v' j → FT b v j) ∧ ∀ j, X j → ¬ FT b v' j := by
  have HFT := hid (recB_fit hr)
  have HC := hid fun (w' : World) => refCheckR_ok q k.length c' t d w'
  have e0 : (checkB k.length d && decide (t.size ≤ 40)) = true := hr
  rw [e0] at HC
  rw [err_true true rfl] at HC
  obtain ⟨V, hV⟩ : ∃ V, w.alloc (.cells #[.slice q k.length c', .string t] 33 (0, 0)) = V := ⟨_, rfl⟩
  have HB := hid (show Below w.heap.size w V by rw [← hV]; exact below_alloc w _)
  have HA := hid (show V.heap[w.heap.size]? = some (.cells #[.slice q k.length c', .string t] 33 (0, 0)) by rw [← hV]; exact heap_alloc_new w _)
  have HX := hid (And.intro hXl hXa)
  have HQ := hid hq
  have H := hid h
  obtain ⟨p, c, rfl, hlc, hcm⟩ := h.form
  clear h hr e0 hXl hXa hq
  have HST := hid fun (w' : World) (hb : Below V.heap.size V w') => (show (w'.cell? ⟨b, 1, none⟩ = some (.slice p L.length c) ∧ w'.cell? ⟨w.heap.size, 0, none⟩ = some (.slice q k.length c') ∧ w'.cell? ⟨w.heap.size, 1, none⟩ = some (.string t)) ∧ w'.cell? ⟨b, 0, none⟩ = some (.int .i64 d) ∧ w'.frozen? ⟨b, 1, none⟩ = false from by
    have h1 := (H.out.next (HB.out.trans (hb.mono HB.out.size))).cells
    have h2 := two_cells ((hb.block w.heap.size (Array.getElem?_eq_some_iff.1 HA.out).1).trans HA.out)
    exact ⟨⟨h1.2.1, h2.1, h2.2.1⟩, h1.1, h1.2.2.2⟩)
  have HV0 := hid (Below.refl V.heap.size V).drew
  obtain ⟨⟨a1, a2, a3⟩, a0, _⟩ := HST.out _ (Below.refl _ _)
  go_enter Try.func13, Try.ntmps13
  go_wp2_with fail
  go_region_held3 (fun w' => w'.cell? ⟨w.heap.size, 0, none⟩ = some (.slice q k.length c') ∧ w'.cell? ⟨w.heap.size, 1, none⟩ = some (.string t) ∧ w'.cell? ⟨b, 0, none⟩ = some (.int .i64 d)) (first | exact ⟨a2, a3, a0⟩ | exact ⟨x4.1.2.1, x4.1.2.2, x4.2.1⟩ | go_keep)
    (first
      | (go_at_call 11; refine (HC.out _).mono ?_; rintro e w4 ⟨rfl, hb⟩; have HV4 := hid (HV0.out.trans (hb.mono HV0.out.size)); have x4 := HST.out _ HV4.out; clear hb)
      | fail)
  clear a0 a1 a2 a3 x4 HV0 hV
  obtain ⟨⟨a1, a2, a3⟩, a0, _⟩ := HST.out _ HV4.out
  have HB4 := hid (HB.out.trans (HV4.out.mono HB.out.size))
  have HFI := hid (rfind_ok k q c' w4 (H.out.next HB4.out) (HQ.out.below HB4.out))
  go_wp2_with fail
  refine HFI.out.mono ?_
  rintro e w5 ⟨i, rfl, hi, n5, hw5⟩
  have HV5 := hid (show Below V.heap.size V w5 by rw [hw5]; exact below_drewN HV4.out n5)
  clear hw5 HFI a0 a1 a2 a3
  obtain ⟨⟨a1, a2, a3⟩, a0, f0⟩ := HST.out _ HV5.out
  have HB5 := hid (HB.out.trans (HV5.out.mono HB.out.size))
  rcases hi with ⟨n, hnl2, rfl, hk⟩ | ⟨rfl, hno⟩
  · have HK := hid hk
    clear hk
    obtain ⟨g, hpg⟩ : ∃ g, p = some ⟨g, 0, none⟩ := by
      obtain ⟨xs, h1, _⟩ := H.out.row
      rcases h1.2 with ⟨e, h0⟩ | ⟨g, cap, cur, e, _⟩
      · omega
      · cases e; exact ⟨g, rfl⟩
    subst hpg
    have hgb : ¬ (g = b) := fun e => H.out.ne (by rw [e]; rfl)
    have hgb2 : ¬ (b = g) := fun e => hgb e.symm
    have hgw : ¬ (g = w.heap.size) := by have := H.out.lt g (.inr rfl); omega
    have hgw2 : ¬ (w.heap.size = g) := fun e => hgw e.symm
    have hz1 : (0 : Int) ≤ (n : Int) := by omega
    have hz2 : (n : Int) < (L.length : Int) := by omega
    obtain ⟨⟨y2, f3⟩, f4⟩ := ((H.out.next HB5.out)).slot hnl2
    go_wp2_with fail
    go_region_held3 (fun w' => w'.cell? ⟨b, 1, none⟩ = some (.slice (some ⟨g, 0, none⟩) L.length c) ∧ w'.cell? ⟨w.heap.size, 1, none⟩ = some (.string t)) (first | exact ⟨a1, a3⟩ | go_keep) (fail)
    have HP := hid (Ra.over (W := w5.drew) (t := t) (H.out.next HB5.out.drew) hnl2 HK.out (by have := HFT.out; omega))
    have HO := hid (Onl.after HB5.out.drew HP.out.2)
    have HR := hid (show PutR L k t (L.set n (k, t)) from .inl ⟨n, hnl2, HK.out, rfl⟩)
    clear a0 a1 a2 a3 f0 f3 f4
    go_wp2_with fail
    go_ret
    exact ⟨rfl, _, _, HR.out, HP.out.1, HO.out, fun _ _ h => h, HX.out.2⟩
  · have HNO := hid hno
    clear hno
    go_wp2_with fail
    have HRE := hid (Bk.copy_ok k q c' w5.drew ((HQ.out.below HB5.out).drew) (by have := HFT.out; omega))
    have hA5 := (H.out.next HB5.out.drew)
    obtain ⟨xs, hxo, hxr⟩ := hA5.row
    have HXO := hid (And.intro hxo hxr)
    have HA5 := hid hA5
    have HVA := hid (show V.heap.size ≤ w5.drew.heap.size from HV5.out.size)
    have hS7 : ∀ (w6 w7 : World) (o : Obj), Below w5.drew.heap.size w5.drew w6 → (w6.alloc o).grownBy w7 (Value.slice p L.length c).ownBlock → w7.cell? ⟨b, 1, none⟩ = some (.slice p L.length c) ∧ w7.frozen? ⟨b, 1, none⟩ = false := fun w6 w7 o hb hg => by
      have hb2 : Below w5.drew.heap.size w5.drew (w6.alloc o) := hb.trans ((below_alloc w6 o).mono hb.size)
      have eb : w7.heap[b]? = some (.cells #[.int .i64 d, .slice p L.length c] 55 (0, 0)) := by
        rw [hg.block b (Nat.lt_of_lt_of_le HA5.out.ltb hb2.size) (fun e => HA5.out.ne e.symm), hb2.block b HA5.out.ltb]; exact HA5.out.head
      exact ⟨by rw [cell_of_row _ _ _ _ _ _ eb]; rfl, frozen_of_row _ _ _ _ _ eb⟩
    have HS7 := hid hS7
    clear hS7 hA5 hxo hxr
    go_region_law (first
        | (refine step_app (by rfl) _ _ _ (by rfl) (by rfl) (by rfl) HAP.out ?_
           intro v' w7 hF
           obtain ⟨pp, mm, cc, hvv⟩ := row_sl hF.1
           subst hvv
           have HF7 := hid hF
           have x7 := HS7.out _ _ _ HB6.out hF.2.1
           obtain ⟨m1, f7⟩ := x7
           clear hF)
        | (go_simp; go_at_call 34; refine HRE.out.mono ?_; rintro e w6 ⟨p6, c6, rfl, hp, hb⟩; have HP6 := hid hp; have HB6 := hid hb; have x6 := HST.out _ ((HV5.out.trans ((Below.refl _ w5).drew.mono HV5.out.size)).trans (hb.mono HVA.out)); have x6b := HST.out _ (((HV5.out.trans ((Below.refl _ w5).drew.mono HV5.out.size)).trans (hb.mono HVA.out)).trans ((below_alloc w6 (.cells #[.slice p6 k.length c6, .string t] 33 (0, 0))).mono (Nat.le_trans HVA.out hb.size))); obtain ⟨⟨k1, k2, k3⟩, k0, _⟩ := x6; obtain ⟨⟨l1, l2, l3⟩, l0, _⟩ := x6b
           have HAP := hid (rec_own (w := w6.alloc (.cells #[.slice p6 k.length c6, .string t] 33 (0, 0))) 40 (.slice p L.length c) L.length xs (own_keep HXO.out.1 (fun g hg => (hb.trans ((below_alloc w6 _).mono hb.size)).block g ((HXO.out.1.lt g hg).2))) (some ⟨w6.heap.size, 0, none⟩) 1 1 [.slice p6 k.length c6, .string t] (read_new w6 _ _ _) rfl (one_two _ _ rfl rfl) (by omega) (by have := hb.size; have := HB5.out.size; simp at this ⊢; simp at *; omega))
           clear hp hb))
    all_goals
      have HP := hid (Ra.put_new (W := w5.drew) HA5.out (fun j hj => Nat.lt_of_lt_of_le (HX.out.1 j hj) (show w.heap.size ≤ w5.heap.size from HB5.out.size)) HB6.out HP6.out hl (by have := HFT.out; omega) (by have := HFT.out; omega) HX.out.2 xs HXO.out.1 HXO.out.2 HF7.out.1 HF7.out.2.1 (by have e := HF7.out.2.2; simpa using e))
      have HO := hid (Onl.after HB5.out.drew HP.out.2.1)
      have HZ := hid (show w.heap.size ≤ w5.drew.heap.size from HB5.out.size)
      have HR := hid (show PutR L k t (L ++ [(k, t)]) from .inr ⟨HNO.out, rfl⟩)
      clear a0 a1 a2 a3 f0 k0 k1 k2 k3 l0 l1 l2 l3 m1 f7 HP6 HB6 HRE HV5 HST HQ HB5 HS7 HF7 HXO HA5 HAP
      go_wp2_with fail
      go_ret
      exact ⟨rfl, _, _, HR.out, HP.out.1, HO.out, fun j hj hf => HP.out.2.2.1 j (Nat.lt_of_lt_of_le hj HZ.out) hf, HP.out.2.2.2⟩
end Go.Proofs.Ytmniaaledplhfaa.At
