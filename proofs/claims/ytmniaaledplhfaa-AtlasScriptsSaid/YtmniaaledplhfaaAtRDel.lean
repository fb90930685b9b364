/- Delete of the reference's atlas. -/
import Derived.Test.YtmniaaledplhfaaAtRPut
namespace Go.Proofs.Ytmniaaledplhfaa.At
open Go.RowKit
open Go.Lib (hid)
open Go.Proofs.Ytmniaaledplhfaa.Ky Go.Proofs.Ytmniaaledplhfaa.Bk Go.Proofs.Ytmniaaledplhfaa.Pt

/-- a new row comes in the place of the old one -/
theorem Ra.swap {N b : Nat} {W W2 : World} {X : Nat → Prop} {v v' : Value} {d : Int} {L M : List Rec} {zs : List Value} (h : Ra N W X b v d L) (hXl : ∀ j, X j → j < W.heap.size) (hXa : ∀ j, X j → ¬ FT b v j) (hN : N ≤ W.heap.size)
    (hb : Below W.heap.size W W2) (ho : W2.ownsRow W.heap.size 33 2 v' M.length zs) (hr : RC (fun j => j = b ∨ X j) W zs M) (hbig : bigR M) :
    Ra N (W2.setCell ⟨b, 1, none⟩ v') X b v' d M ∧ Onl (FT b v) W (W2.setCell ⟨b, 1, none⟩ v') ∧ (∀ j, j < W.heap.size → FT b v' j → FT b v j) ∧ ∀ j, X j → ¬ FT b v' j := by
  have hge : ∀ j, v'.ownBlock = some j → W.heap.size ≤ j := fun j hj => (ho.lt j hj).1
  have hltb := h.ltb
  have hhead : W2.heap[b]? = some (.cells #[.int .i64 d, v] 55 (0, 0)) := (hb.block b h.ltb).trans h.head
  have hkeep : ∀ j, j < W.heap.size → j ≠ b → (W2.setCell ⟨b, 1, none⟩ v').heap[j]? = W.heap[j]? := fun j hj hf => by
    rw [heap_setCell_other _ _ _ _ hf, hb.block j hj]
  have hown : (W2.setCell ⟨b, 1, none⟩ v').ownsRow N 33 2 v' M.length zs := by
    refine own_keep ⟨ho.1, ?_⟩ (fun g hg' => heap_setCell_other _ _ _ _ (fun e => by have := hge g hg'; have : g = b := e; omega))
    rcases ho.2 with h1 | ⟨g, cap, cur, hv, hb, rest⟩
    · exact .inl h1
    · exact .inr ⟨g, cap, cur, hv, Nat.le_trans hN hb, rest⟩
  refine ⟨⟨?_, ⟨zs, hown, (hr.less (D' := fun j => FT b v' j ∨ X j) (fun j hj hD => ?_)).keep ⟨by simpa using hb.size, fun j hj hD => hkeep j hj (fun e => hD (.inl (.inl e)))⟩⟩, h.lo, fun e => by have := hge b e; omega, hbig⟩, ⟨hb.os, hb.tape, hb.output, by simpa using hb.size, fun j hj hf => hkeep j hj (fun e => hf (.inl e))⟩, fun j hj hf => ?_, fun j hj hf => ?_⟩
  · rw [heap_setCell_same _ _ _ _ _ _ hhead]; simp
  · rcases hD with (hD | hD) | hD
    · exact .inl hD
    · exact absurd (hge j hD) (by omega)
    · exact .inr hD
  · rcases hf with hf | hf
    · exact .inl hf
    · have := hge j hf; omega
  · rcases hf with rfl | hf
    · exact hXa _ hj (.inl rfl)
    · have := hge j hf; have := hXl j hj; omega
/-- what 'Delete' answers, and makes of the records -/
def DelR (K : List Rec) (k : List Nat) (d : Int) (c : Int) (K' : List Rec) : Prop :=
  (checkB k.length d = false ∧ c = 1 ∧ K' = K) ∨ (checkB k.length d = true ∧ (∀ j, (h : j < K.length) → K[j].1 ≠ k) ∧ c = 5 ∧ K' = K) ∨ (checkB k.length d = true ∧ ∃ j, ∃ h : j < K.length, K[j].1 = k ∧ c = 0 ∧ K' = K.take j ++ K.drop (j + 1))
set_option maxRecDepth 100000 in
set_option maxHeartbeats 4000000 in
theorem rdel_ok {N b : Nat} {X : Nat → Prop} {v : Value} {d : Int} {K : List Rec} (k : List Nat) (q : Option Addr) (c' : Nat) (w : World) (h : Ra N w X b v d K) (hXl : ∀ j, X j → j < w.heap.size) (hXa : ∀ j, X j → ¬ FT b v j) (hN : N ≤ w.heap.size) (hq : Pt w q k) :
    Calls Try.prog 15 #[.pointer (some ⟨b, 0, none⟩), .slice q k.length c'] w fun e w' => ∃ r v' K', e = .returned (.int .i64 r) ∧ DelR K k d r K' ∧ Ra N w' X b v' d K' ∧ Onl (FT b v) w w' ∧ (∀ j, j < w.heap.size → FT b v' j → FT b v j) ∧ ∀ j, X j → ¬ FT b v' j := by
  have HF := hid (rfind_ok k q c' w h hq)
  have H := hid h
  have HX := hid (And.intro hXl hXa)
  obtain ⟨p, c, rfl, hpc, hpm⟩ := h.form
  have c0 := h.cells.1
  have hlen := h.big.1
  have HK := hid (refCheck_ok q k.length c' d w)
  clear h hq hXl hXa
  cases hb : checkB k.length d with
  | false =>
    rw [hb, err_false false rfl] at HK
    have HG := hid (show DelR K k d 1 K from .inl ⟨hb, rfl, rfl⟩)
    clear hb
    go_enter Try.func15, Try.ntmps15
    go_wp2_with (go_at_call 28; refine HK.out.mono ?_; rintro e w2 ⟨rfl, rfl⟩)
    go_ret
    exact ⟨_, _, _, rfl, HG.out, H.out, Onl.ofBelow (Below.refl _ _), fun _ _ h => h, HX.out.2⟩
  | true =>
    rw [hb, err_true true rfl] at HK
    have HB := hid hb
    clear hb
    go_enter Try.func15, Try.ntmps15
    go_upto_region 3 with (go_at_call 28; refine HK.out.mono ?_; rintro e w2 ⟨rfl, rfl⟩)
    go_wp2_with fail
    refine HF.out.mono ?_
    rintro e w5 ⟨i, rfl, hi, n5, hw5⟩
    have HB5 := hid (show Below w.heap.size w w5 by rw [hw5]; exact below_drewN (Below.refl _ _) n5)
    clear hw5 HF HK c0
    have H5 := hid (H.out.next HB5.out)
    rcases hi with ⟨n, hj, rfl, hk⟩ | ⟨rfl, hno⟩
    · have HG := hid (show DelR K k d 0 (K.take n ++ K.drop (n + 1)) from .inr (.inr ⟨HB.out, n, hj, hk, rfl, rfl⟩))
      have c1 := H5.out.cells.2.1
      obtain ⟨xs, hxo, hxr⟩ := H5.out.row
      obtain ⟨p', cc, e', hrs⟩ := Rs.of_row hxo (hxr.less (D' := fun j => j = b ∨ X j) (fun j _ hD => hD.elim (fun e => .inl (.inl e)) .inr)) (fun j hv hD => hD.elim (fun e => H.out.ne (by rw [hv, e])) (fun hx => HX.out.2 j hx (.inr hv)))
      cases e'
      obtain ⟨ys, hys, hra⟩ := rs_cells hrs
      obtain ⟨n1, hn1⟩ : ∃ n1, n + 1 = n1 := ⟨_, rfl⟩
      have hq1 : (n : Int) + 1 = (n1 : Int) := by omega
      have hw1 : IntKind.i64.wrap ((n : Int) + 1) = (n1 : Int) := by rw [IntKind.wrap_i64]; omega
      have hw2 : IntKind.i64.wrap (n1 : Int) = (n1 : Int) := by rw [IntKind.wrap_i64]; omega
      have z3 : decide ((n : Int) < 0) = false := by simp
      have s1 := fun (W : World) => slice_to p K.length c n (by omega) hpc W
      obtain ⟨P, hP, s2⟩ := slice_back p K.length c n1 (by omega) hpc
      have HLN := hid (show n < K.length ∧ n + 1 = n1 from ⟨hj, hn1⟩)
      rw [hn1] at HG
      have HY1 := hid (show RC (fun j => j = b ∨ X j) w5 (ys.take (n * 2)) (K.take n) from hys.take n (by omega))
      have HY2 := hid (show RC (fun j => j = b ∨ X j) w5 (ys.drop (n1 * 2)) (K.drop n1) from hys.drop n1 (by omega))
      have HR1 := hid (hra.take (n * 2))
      have HR2 := hid fun (U : World) (hu : Below w5.heap.size w5 U) => read_cut (hra.below hu) (n1 * 2) P (by rcases hP with h | h; exact .inl h; right; rw [hys.1]; omega)
      have hl1 : (ys.take (n * 2)).length = n * 2 := by rw [List.length_take, hys.1]; omega
      have hl2 : (ys.drop (n1 * 2)).length = (K.length - n1) * 2 := by rw [List.length_drop, hys.1]; omega
      have HL := hid (And.intro hl1 hl2)
      generalize ys.take (n * 2) = y1 at HY1 HR1 HL
      generalize ys.drop (n1 * 2) = y2 at HY2 HR2 HL
      have HA1 := hid (rec_own (w := w5) 40 (.slice none 0 0) 0 [] (World.ownsRow_nil w5 w5.heap.size _ _) p n c y1 HR1.out HL.out.1 HY1.out.oneCell (by omega) (Nat.le_refl _))
      clear hxo hxr hrs hys hra hP hn1 hk hl1 hl2
      go_wp2_with (at_builtin; refine wpList_app rfl _ _ _ rfl rfl rfl HA1.out ?_)
      intro v1 w1 hF
      obtain ⟨pp, mm, cc, hvv⟩ := row_sl hF.1
      subst hvv
      have HF1 := hid hF
      have HZ1 := hid (show Below w5.heap.size w5 w1 from (Below.refl w5.heap.size w5).grown hF.2.1 (Nat.le_refl _) (fun j hj => by cases hj))
      have HA3 := hid (rec_own (w := w1) 40 (.slice pp mm cc) n y1 hF.1 P (K.length - n1) (c - n1) y2 (HR2.out _ HZ1.out) HL.out.2 HY2.out.oneCell (by have := HLN.out; omega) HZ1.out.size)
      clear hF HA1 s1
      have c1 := (H5.out.next HZ1.out).cells.2.1
      go_wp2_with (at_builtin; refine wpList_app rfl _ _ _ rfl rfl rfl HA3.out ?_)
      intro v2 w2 hF2
      obtain ⟨pp2, mm2, cc2, hvv2⟩ := row_sl hF2.1
      subst hvv2
      have HZ2 := hid (show Below w5.heap.size w5 w2 from HZ1.out.grown hF2.2.1 HZ1.out.size (fun j hj => (HF1.out.1.lt j hj).1))
      have HSW := hid (Ra.swap (W := w5) (W2 := w2) (M := K.take n ++ K.drop n1) (zs := y1 ++ y2) H5.out (fun j hx => Nat.lt_of_lt_of_le (HX.out.1 j hx) HB5.out.size) HX.out.2 (Nat.le_trans hN HB5.out.size) HZ2.out (by
        have e : (K.take n ++ K.drop n1).length = n + (K.length - n1) := by rw [List.length_append, List.length_take, List.length_drop]; have := HLN.out; omega
        rw [e]; exact hF2.1) (HY1.out.app HY2.out) ⟨by rw [List.length_append, List.length_take, List.length_drop]; have := HLN.out; omega, fun r hr => H.out.big.2 r (by
          rcases List.mem_append.1 hr with h1 | h1
          · exact List.mem_of_mem_take h1
          · exact List.mem_of_mem_drop h1)⟩)
      have c2 := (H5.out.next HZ2.out).cells.2.1
      have f2 := (H5.out.next HZ2.out).cells.2.2.2
      clear hF2 HA3 c1 s2 HF1
      go_wp2_with fail
      go_ret
      exact ⟨_, _, _, rfl, HG.out, HSW.out.1, Onl.after HB5.out HSW.out.2.1, fun j hj hf => HSW.out.2.2.1 j (Nat.lt_of_lt_of_le hj HB5.out.size) hf, HSW.out.2.2.2⟩
    · have HG := hid (show DelR K k d 5 K from .inr (.inl ⟨HB.out, hno, rfl, rfl⟩))
      clear hno
      go_wp2_with fail
      go_ret
      exact ⟨_, _, _, rfl, HG.out, H5.out, Onl.ofBelow HB5.out, fun _ _ h => h, HX.out.2⟩
end Go.Proofs.Ytmniaaledplhfaa.At
