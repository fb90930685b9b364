/- Delete, Copy, Window, Count of an atlas. -/
import Derived.Test.YtmniaaledplhfaaAtPut
namespace Go.Proofs.Ytmniaaledplhfaa.At
open Go.RowKit
open Go.Lib (hid)
open Go.Proofs.Ytmniaaledplhfaa.Ky Go.Proofs.Ytmniaaledplhfaa.Bk

/-- a record has gone out of the row -/
theorem Atl.cut {N b i : Nat} {W w3 : World} {X : Nat → Prop} {v v' : Value} {d : Int} {L : List Rec} {k : List Nat} (h : Atl N W X b v d L) (hi : lessN L k = i) (hn : hasN L k = true)
    (xs : List Value) (h2 : RC (fun k => FT b v k ∨ X k) W xs L) (ho : w3.ownsRow N 33 2 v' (L.length - 1) (delL xs i)) (hg : W.grownBy w3 v.ownBlock) (hv : v'.ownBlock = v.ownBlock) :
    Atl N (w3.setCell ⟨b, 1, none⟩ v') X b v' d (cutR L k) ∧ Onl (FT b v) W (w3.setCell ⟨b, 1, none⟩ v') := by
  have hil : i < L.length := by obtain ⟨e, _⟩ := hasN_iff.1 hn; rw [hi] at e; exact e
  have hhead : w3.heap[b]? = some (.cells #[.int .i64 d, v] 58 (0, 0)) := by
    rw [hg.block b h.ltb (fun e => h.ne e.symm)]; exact h.head
  have hkeep : ∀ j, j < W.heap.size → ¬ FT b v j → (w3.setCell ⟨b, 1, none⟩ v').heap[j]? = W.heap[j]? := fun j hj hf => by
    rw [heap_setCell_other _ _ _ _ (show j ≠ b from fun e => hf (.inl e)), hg.block j hj (fun e => hf (.inr e.symm))]
  have hK : Keep (fun j => FT b v j ∨ X j) W (w3.setCell ⟨b, 1, none⟩ v') := ⟨by simpa using hg.size, fun j hj hD => hkeep j hj (fun hf => hD (.inl hf))⟩
  have hcut : cutR L k = L.take i ++ L.drop (i + 1) := by unfold cutR; simp [hn, hi]
  have hlen : (cutR L k).length = L.length - 1 := by rw [cutR_length]; simp [hn]
  have r3 : RC (fun j => FT b v j ∨ X j) W (delL xs i) (cutR L k) := by
    rw [hcut]
    exact (h2.take i (by omega)).app (h2.drop (i + 1) hil)
  refine ⟨⟨?_, ⟨_, ?_, (r3.keep hK).less (fun j hj hD => ?_)⟩, h.lo, by rw [hv]; exact h.ne, up_cut h.up _, big_cut _ h.big⟩, ⟨hg.os, hg.tape, hg.output, by simpa using hg.size, hkeep⟩⟩
  · rw [heap_setCell_same _ _ _ _ _ _ hhead]; simp
  · rw [hlen]
    exact own_keep ho (fun g hg' => heap_setCell_other _ _ _ _ (fun e => h.ne (by rw [← hv, hg']; exact congrArg some e)))
  · rcases hD with (hD | hD) | hD
    · exact .inl (.inl hD)
    · exact .inl (.inr (hv ▸ hD))
    · exact .inr hD
set_option maxHeartbeats 1000000 in
theorem del_bad (k : List Nat) (q : Option Addr) (c' : Nat) (d : Int) (P : Option Addr) (w : World) (hd : Calls Try.prog 29 #[.pointer P] w fun e w2 => e = .returned (.int .i64 d) ∧ w = w2) (hr : checkB k.length d = false) :
    Calls Try.prog 14 #[.pointer P, .slice q k.length c'] w fun e w' => e = .returned (.int .i64 1) ∧ w = w' := by
  have HP := hid (place_bad k q c' d P w hd hr)
  clear hd hr
  go_enter Try.func14, Try.ntmps14
  go_wp2_with (go_at_call 35; refine HP.out.mono ?_; rintro e w' ⟨rfl, rfl⟩)
  go_ret
  exact ⟨rfl, rfl⟩
set_option maxHeartbeats 1000000 in
theorem del_none {N b : Nat} {X : Nat → Prop} {v : Value} {d : Int} {L : List Rec} (k : List Nat) (q : Option Addr) (c' : Nat) (w : World) (h : Atl N w X b v d L) (hq : Pt w q k) (hr : checkB k.length d = true) (hn : hasN L k = false) :
    Calls Try.prog 14 #[.pointer (some ⟨b, 0, none⟩), .slice q k.length c'] w fun e w' => e = .returned (.int .i64 5) ∧ Below w.heap.size w w' := by
  have HP := hid (place_ok k q c' w h hq hr)
  simp only [hn] at HP
  clear h hq hr hn
  go_enter Try.func14, Try.ntmps14
  go_wp2_with (go_at_call 35; refine HP.out.mono ?_; rintro e w2 ⟨rfl, hb⟩; have HB := hid hb; clear hb)
  go_ret
  exact ⟨rfl, HB.out⟩
set_option maxRecDepth 100000 in
set_option maxHeartbeats 2000000 in
theorem del_yes {N b : Nat} {X : Nat → Prop} {v : Value} {d : Int} {L : List Rec} (k : List Nat) (q : Option Addr) (c' : Nat) (w : World) (h : Atl N w X b v d L) (hXa : ∀ j, X j → ¬ FT b v j) (hq : Pt w q k) (hr : checkB k.length d = true) (hn : hasN L k = true) :
    Calls Try.prog 14 #[.pointer (some ⟨b, 0, none⟩), .slice q k.length c'] w fun e w' => e = .returned (.int .i64 0) ∧ ∃ v', Atl N w' X b v' d (cutR L k) ∧ Onl (FT b v) w w' ∧ (∀ j, FT b v' j → FT b v j) ∧ ∀ j, X j → ¬ FT b v' j := by
  have HP := hid (place_ok k q c' w h hq hr)
  simp only [hn, if_true] at HP
  obtain ⟨hlt, _⟩ := hasN_iff.1 hn
  obtain ⟨p, c, rfl, _, _⟩ := h.form
  have H := hid h
  have HH := hid hn
  have HX := hid hXa
  have hlen := h.big.1
  obtain ⟨n, hnn⟩ : ∃ n, lessN L k = n := ⟨_, rfl⟩
  rw [hnn] at HP hlt
  have HNN := hid hnn
  obtain ⟨n1, hn1⟩ : ∃ n1, n + 1 = n1 := ⟨_, rfl⟩
  have hq1 : (n : Int) + 1 = (n1 : Int) := by omega
  have hw1 : IntKind.i64.wrap ((n : Int) + 1) = (n1 : Int) := by rw [IntKind.wrap_i64]; omega
  have hw2 : IntKind.i64.wrap (n1 : Int) = (n1 : Int) := by rw [IntKind.wrap_i64]; omega
  have HN1 := hid hn1
  have HLE := hid (And.intro hlt hlen)
  have hS7 : ∀ (w2 w7 : World), Below w.heap.size w w2 → w2.grownBy w7 (Value.slice p L.length c).ownBlock → w7.cell? ⟨b, 1, none⟩ = some (.slice p L.length c) ∧ w7.frozen? ⟨b, 1, none⟩ = false := fun w2 w7 hb hg => by
    have eb : w7.heap[b]? = some (.cells #[.int .i64 d, .slice p L.length c] 58 (0, 0)) := by
      rw [hg.block b (Nat.lt_of_lt_of_le H.out.ltb hb.size) (fun e => H.out.ne e.symm), hb.block b H.out.ltb]; exact H.out.head
    exact ⟨by rw [cell_of_row _ _ _ _ _ _ eb]; rfl, frozen_of_row _ _ _ _ _ eb⟩
  have HS7 := hid hS7
  clear h hq hr hn hnn hn1 hS7 hXa
  go_enter Try.func14, Try.ntmps14
  go_wp2_with (first
    | (go_at_call 35
       refine HP.out.mono ?_
       rintro e w2 ⟨rfl, hb⟩
       have HB := hid hb
       have hA2 := H.out.next hb
       obtain ⟨xs, hxo, hxr⟩ := hA2.row
       have HXO := hid (And.intro hxo hxr)
       have HA2 := hid hA2
       have H1C := hid hxr.oneCell
       obtain ⟨_, a1, _, _⟩ := hA2.cells
       clear hA2 hxo hxr hb)
    | (go_at_call 36
       refine (del_ok _ N L.length n n1 (.slice p L.length c) xs HXO.out.1 H1C.out HN1.out.symm HLE.out.1 HLE.out.2).mono ?_
       rintro e w7 ⟨v', rfl, ho, hg, hv⟩
       obtain ⟨pp, mm, cc, hvv⟩ := row_sl ho
       subst hvv
       have HO7 := hid ho; have HG7 := hid hg; have HV7 := hid hv
       obtain ⟨m1, f7⟩ := HS7.out _ _ HB.out hg
       clear ho hg hv))
  have HP2 := hid (Atl.cut (W := w2) HA2.out HNN.out HH.out xs HXO.out.2 HO7.out HG7.out HV7.out)
  have HO := hid (Onl.after HB.out HP2.out.2)
  have HFR := hid (fun j (hf : FT b (.slice pp mm cc) j) => (show FT b (.slice p L.length c) j from hf.elim .inl (fun e => .inr (HV7.out ▸ e))))
  go_ret
  exact ⟨rfl, _, HP2.out.1, HO.out, HFR.out, fun j hj hf => HX.out j hj (HFR.out j hf)⟩
set_option maxRecDepth 100000 in
set_option maxHeartbeats 2000000 in
theorem copy_ok {N b : Nat} {X : Nat → Prop} {v : Value} {d : Int} {L : List Rec} (w : World) (h : Atl N w X b v d L) :
    Calls Try.prog 9 #[.pointer (some ⟨b, 0, none⟩)] w fun e w' => ∃ b2 p2, e = .returned (.pointer (some ⟨b2, 0, none⟩)) ∧ w.heap.size ≤ b2 ∧ w'.heap[b2]? = some (.cells #[.int .i64 d, .slice p2 L.length L.length] 58 (0, 0)) ∧ Rs (fun k => k < w.heap.size ∨ k = b2) w' p2 L ∧ Below w.heap.size w w' := by
  obtain ⟨p, c, rfl, _, _⟩ := h.form
  have H := hid h
  have HR := hid (records_ok L p c w.drew h.drew.rs h.big)
  have HCL := hid fun (w' : World) (hb : Below w.heap.size w w') => (show w'.cell? ⟨b, 0, none⟩ = some (.int .i64 d) ∧ w'.cell? ⟨b, 1, none⟩ = some (.slice p L.length c) from ⟨(h.next hb).cells.1, (h.next hb).cells.2.1⟩)
  obtain ⟨a0, a1⟩ := HCL.out _ (Below.refl _ _)
  clear h
  go_enter Try.func9, Try.ntmps9
  go_wp2_with fail
  go_region_law (first
    | (go_simp; go_at_call 26; refine HR.out.mono ?_; rintro e w2 ⟨p2, rfl, hr, hb⟩; have HR2 := hid hr; have HB2 := hid ((show Below w.heap.size w w.drew from (Below.refl _ _).drew).trans hb); obtain ⟨b0, b1⟩ := HCL.out _ HB2.out; clear hr hb))
  all_goals
    go_wp2_with fail
    go_ret
    have HR3 := hid (HR2.out.less (D' := fun j => j < w.heap.size ∨ j = w2.heap.size) (fun j hj hD => by rcases hD with hD | hD; exact hD; omega))
    exact ⟨w2.heap.size, p2, rfl, HB2.out.size, heap_alloc_new w2 _, HR3.out.alloc _, HB2.out.trans ((below_alloc w2 _).mono HB2.out.size)⟩
end Go.Proofs.Ytmniaaledplhfaa.At
