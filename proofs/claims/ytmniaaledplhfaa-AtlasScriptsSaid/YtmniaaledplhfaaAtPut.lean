/- Put, Delete, Get of an atlas. -/
import Derived.Test.YtmniaaledplhfaaAtBase
import Derived.Test.YtmniaaledplhfaaBkPut
import Derived.Test.YtmniaaledplhfaaBkCut
namespace Go.Proofs.Ytmniaaledplhfaa.At
open Go.RowKit
open Go.Lib (hid)
open Go.Proofs.Ytmniaaledplhfaa.Ky Go.Proofs.Ytmniaaledplhfaa.Bk

/-- a new record has come into the row, and the row into the struct -/
theorem Atl.put_new {N b i : Nat} {W W1 w3 : World} {X : Nat → Prop} {v v' : Value} {d : Int} {L : List Rec} {k : List Nat} {t : ByteArray} {p' : Option Addr} {c' : Nat} {o : Obj} (h : Atl N W X b v d L) (hX : ∀ j, X j → j < W.heap.size)
    (hb : Below W.heap.size W W1) (hp : PtD (Lt W.heap.size) W1 p' k) (hi : lessN L k = i) (hn : hasN L k = false) (hl : L.length < 1000) (hk : k.length ≤ 1000) (ht : t.size ≤ 1000) (hXa : ∀ j, X j → ¬ FT b v j)
    (xs : List Value) (_ : W.ownsRow N 33 2 v L.length xs) (h2 : RC (fun k => FT b v k ∨ X k) W xs L) (ho : w3.ownsRow N 33 2 v' (L.length + 1) (insL xs i (.slice p' k.length c') (.string t)))
    (hg : (W1.alloc o).grownBy w3 v.ownBlock) (hv : v'.ownBlock = v.ownBlock ∨ v'.ownBlock = some (W1.heap.size + 1)) :
    Atl N (w3.setCell ⟨b, 1, none⟩ v') X b v' d (putR L (k, t)) ∧ Onl (FT b v) W (w3.setCell ⟨b, 1, none⟩ v') ∧ (∀ j, j < W.heap.size → FT b v' j → FT b v j) ∧ (∀ j, X j → ¬ FT b v' j) := by
  have hW12 : W1.heap.size ≤ (W1.alloc o).heap.size := by simp
  have hb2 : Below W.heap.size W (W1.alloc o) := hb.trans ((below_alloc W1 o).mono hb.size)
  have hfrom : ∀ j, j < (W1.alloc o).heap.size → FT b v' j → FT b v j := fun j hj hf => by
    rcases hf with rfl | hf
    · exact .inl rfl
    · rcases hv with e | e
      · exact .inr (e ▸ hf)
      · rw [e] at hf; injection hf with hf; simp at hj; omega
  have hfrom0 : ∀ j, j < W.heap.size → FT b v' j → FT b v j := fun j hj => hfrom j (by have := hb2.size; omega)
  have hne : v'.ownBlock ≠ some b := fun e => by
    rcases hv with e' | e'
    · exact h.ne (e'.symm.trans e)
    · rw [e'] at e; injection e with e; have := h.ltb; have := hb.size; omega
  have hbl : b < (W1.alloc o).heap.size := Nat.lt_of_lt_of_le h.ltb hb2.size
  have hhead : w3.heap[b]? = some (.cells #[.int .i64 d, v] 58 (0, 0)) := by
    rw [hg.block b hbl (fun e => h.ne e.symm), hb2.block b h.ltb]; exact h.head
  have hkeep : ∀ j, j < (W1.alloc o).heap.size → ¬ FT b v j → (w3.setCell ⟨b, 1, none⟩ v').heap[j]? = (W1.alloc o).heap[j]? := fun j hj hf => by
    rw [heap_setCell_other _ _ _ _ (show j ≠ b from fun e => hf (.inl e)), hg.block j hj (fun e => hf (.inr e.symm))]
  have hK : Keep (fun j => (FT b v j ∨ FT b v' j) ∨ X j) (W1.alloc o) (w3.setCell ⟨b, 1, none⟩ v') := ⟨by simpa using hg.size, fun j hj hD => hkeep j hj (fun hf => hD (.inl (.inl hf)))⟩
  have r1 : RC (fun j => (FT b v j ∨ FT b v' j) ∨ X j) (W1.alloc o) xs L := (h2.less (fun j hj hD => by
    rcases hD with (hD | hD) | hD
    · exact .inl hD
    · exact .inl (hfrom0 j hj hD)
    · exact .inr hD)).below hb2
  have r2 : PtD (fun j => (FT b v j ∨ FT b v' j) ∨ X j) (W1.alloc o) p' k := ((hp.keep (.below (below_alloc W1 o))).less (D' := fun j => (FT b v j ∨ FT b v' j) ∨ X j) (fun j hj hD => by
    show j < W.heap.size
    rcases hD with (hD | hD) | hD
    · exact h.lt j hD
    · exact h.lt j (hfrom j hj hD)
    · exact hX j hD))
  have hle : lessN L k ≤ L.length := lessN_le L k
  have hput : putR L (k, t) = L.take i ++ [(k, t)] ++ L.drop i := by unfold putR; simp only [hi, hn]; simp
  have r3 : RC (fun j => (FT b v j ∨ FT b v' j) ∨ X j) (W1.alloc o) (insL xs i (.slice p' k.length c') (.string t)) (putR L (k, t)) := by
    rw [hput]
    exact ((r1.take i (by omega)).app (RC.one r2)).app (r1.drop i (by omega))
  refine ⟨⟨?_, ⟨_, ?_, ((r3.keep hK).less (fun j hj hD => ?_))⟩, h.lo, hne, up_put h.up _, big_put h.big hk ht hl⟩, ⟨?_, ?_, ?_, ?_, fun j hj hf => ?_⟩, hfrom0, fun j hj hf => ?_⟩
  · rw [heap_setCell_same _ _ _ _ _ _ hhead]; simp
  · have hlen : (putR L (k, t)).length = L.length + 1 := by rw [putR_length]; simp [hn]
    rw [hlen]
    exact own_keep ho (fun g hg' => heap_setCell_other _ _ _ _ (fun e => hne (by rw [hg']; exact congrArg some e)))
  · rcases hD with hD | hD
    · exact .inl (.inr hD)
    · exact .inr hD
  · exact hg.os.trans hb2.os
  · exact hg.tape.trans hb2.tape
  · exact hg.output.trans hb2.output
  · rw [World.size_setCell]; exact Nat.le_trans hb2.size hg.size
  · rw [hkeep j (Nat.lt_of_lt_of_le hj hb2.size) hf, hb2.block j hj]
  · exact hXa j hj (hfrom0 j (hX j hj) hf)
theorem set_two {xs : List Value} {n m : Nat} (hx : xs.length = m * 2) (hn : n < m) (u0 u1 : Value) : (xs.set (n * 2) u0).set (n * 2 + 1) u1 = xs.take (n * 2) ++ [u0, u1] ++ xs.drop ((n + 1) * 2) := by
  apply List.ext_getElem?
  intro j
  rw [List.getElem?_set, List.getElem?_set]
  have hl : (xs.take (n * 2)).length = n * 2 := by rw [List.length_take]; omega
  by_cases h0 : j < n * 2
  · rw [if_neg (by omega), if_neg (by omega), List.append_assoc, List.getElem?_append_left (by omega), List.getElem?_take_of_lt h0]
  · rw [List.append_assoc, List.getElem?_append_right (by omega), hl]
    by_cases h1 : j = n * 2
    · subst h1
      rw [if_neg (by omega), if_pos rfl, if_pos (by omega), Nat.sub_self]; rfl
    · by_cases h2 : j = n * 2 + 1
      · subst h2
        rw [if_pos rfl, if_pos (by rw [List.length_set]; omega), show n * 2 + 1 - n * 2 = 1 by omega]; rfl
      · rw [if_neg (by omega), if_neg (by omega), List.getElem?_append_right (by simp; omega), List.getElem?_drop]
        congr 1
        simp; omega
/-- a record is laid over one that was there -/
theorem Atl.put_over {N b i g c : Nat} {W W1 : World} {X : Nat → Prop} {d : Int} {L : List Rec} {k : List Nat} {t : ByteArray} {p' : Option Addr} {c' : Nat} (h : Atl N W X b (.slice (some ⟨g, 0, none⟩) L.length c) d L) (hX : ∀ j, X j → j < W.heap.size)
    (hb : Below W.heap.size W W1) (hp : PtD (Lt W.heap.size) W1 p' k) (hi : lessN L k = i) (hn : hasN L k = true) (hl : L.length < 1000) (hk : k.length ≤ 1000) (ht : t.size ≤ 1000) :
    Atl N ((W1.setCell ⟨g, i * 2, none⟩ (.slice p' k.length c')).setCell ⟨g, i * 2 + 1, none⟩ (.string t)) X b (.slice (some ⟨g, 0, none⟩) L.length c) d (putR L (k, t)) ∧ Onl (FT b (.slice (some ⟨g, 0, none⟩) L.length c)) W ((W1.setCell ⟨g, i * 2, none⟩ (.slice p' k.length c')).setCell ⟨g, i * 2 + 1, none⟩ (.string t)) := by
  have h1 := h.next hb
  obtain ⟨xs, o1, o2⟩ := h1.row
  have hil : i < L.length := by obtain ⟨e, _⟩ := hasN_iff.1 hn; rw [hi] at e; exact e
  have s1 := o1.stored (i * 2) (.slice p' k.length c')
  have s2 := s1.1.stored (i * 2 + 1) (.string t)
  have hgb : g ≠ b := fun e => h.ne (by rw [e]; rfl)
  have hK : Keep (fun j => FT b (.slice (some ⟨g, 0, none⟩) L.length c) j ∨ X j) W1 ((W1.setCell ⟨g, i * 2, none⟩ (.slice p' k.length c')).setCell ⟨g, i * 2 + 1, none⟩ (.string t)) := ⟨by simp, fun j _ hD => by
    have hne : j ≠ g := fun e => hD (.inl (.inr (by rw [e]; rfl)))
    rw [heap_setCell_other _ _ _ _ hne, heap_setCell_other _ _ _ _ hne]⟩
  have hput : putR L (k, t) = L.take i ++ [(k, t)] ++ L.drop (i + 1) := by unfold putR; simp only [hi, hn]; simp
  have r2 : PtD (fun j => FT b (.slice (some ⟨g, 0, none⟩) L.length c) j ∨ X j) W1 p' k := hp.less fun j _ hD => by
    show j < W.heap.size
    rcases hD with hD | hD
    · exact h.lt j hD
    · exact hX j hD
  have r3 : RC (fun j => FT b (.slice (some ⟨g, 0, none⟩) L.length c) j ∨ X j) W1 (xs.take (i * 2) ++ [.slice p' k.length c', .string t] ++ xs.drop ((i + 1) * 2)) (putR L (k, t)) := by
    rw [hput]
    exact ((o2.take i (by omega)).app (RC.one r2)).app (o2.drop (i + 1) hil)
  have hlen : (putR L (k, t)).length = L.length := by rw [putR_length]; simp [hn]
  refine ⟨⟨?_, ⟨_, ?_, r3.keep hK⟩, h.lo, h.ne, up_put h.up _, big_put h.big hk ht hl⟩, ⟨hb.os, hb.tape, hb.output, by simpa using hb.size, fun j hj hf => ?_⟩⟩
  · rw [heap_setCell_other _ _ _ _ (Ne.symm hgb), heap_setCell_other _ _ _ _ (Ne.symm hgb)]; exact h1.head
  · rw [hlen, ← set_two o1.1 hil]; exact s2.1
  · have hne : j ≠ g := fun e => hf (.inr (by rw [e]; rfl))
    rw [heap_setCell_other _ _ _ _ hne, heap_setCell_other _ _ _ _ hne, hb.block j hj]
theorem Atl.slot {N b i g c : Nat} {w : World} {X : Nat → Prop} {d : Int} {L : List Rec} (h : Atl N w X b (.slice (some ⟨g, 0, none⟩) L.length c) d L) (hi : i < L.length) : ((∃ u, w.cell? ⟨g, i * 2, none⟩ = some u) ∧ w.frozen? ⟨g, i * 2, none⟩ = false) ∧ (∃ u, w.cell? ⟨g, i * 2 + 1, none⟩ = some u) ∧ w.frozen? ⟨g, i * 2 + 1, none⟩ = false := by
  obtain ⟨xs, h1, _⟩ := h.row
  have hx := h1.1
  refine ⟨⟨⟨xs[i * 2]'(by omega), ?_⟩, h1.frozenAt _⟩, ⟨xs[i * 2 + 1]'(by omega), ?_⟩, h1.frozenAt _⟩
  · rw [h1.cellAt _ (by omega)]; exact List.getElem?_eq_getElem _
  · rw [h1.cellAt _ (by omega)]; exact List.getElem?_eq_getElem _
theorem Onl.after {F : Nat → Prop} {w W w' : World} (hb : Below w.heap.size w W) (h : Onl F W w') : Onl F w w' :=
  ⟨h.os.trans hb.os, h.tape.trans hb.tape, h.output.trans hb.output, Nat.le_trans hb.size h.size, fun k hk hf => by rw [h.block k (Nat.lt_of_lt_of_le hk hb.size) hf, hb.block k hk]⟩
theorem row_sl {w : World} {base e size n : Nat} {v : Value} {xs : List Value} (h : w.ownsRow base e size v n xs) : ∃ p m c, v = .slice p m c := by
  rcases h.2 with ⟨rfl, _⟩ | ⟨g, cap, cur, rfl, _⟩
  · exact ⟨_, _, _, rfl⟩
  · exact ⟨_, _, _, rfl⟩
/-- may a record be, of d coordinates? -/
def recB (k : List Nat) (t : ByteArray) (d : Int) : Bool := checkB k.length d && decide (t.size ≤ 40)
theorem recB_fit {k : List Nat} {t : ByteArray} {d : Int} (h : recB k t d = true) : k.length ≤ 6 ∧ t.size ≤ 40 := by
  unfold recB checkB mayB at h
  simp at h
  omega
set_option maxRecDepth 100000 in
set_option maxHeartbeats 1000000 in
theorem put_bad (k : List Nat) (t : ByteArray) (q : Option Addr) (c' : Nat) (d : Int) (P : Option Addr) (w : World) (hd : ∀ w', Below w.heap.size w w' → Calls Try.prog 29 #[.pointer P] w' fun e w2 => e = .returned (.int .i64 d) ∧ w' = w2) (hr : recB k t d = false) :
    Calls Try.prog 12 #[.pointer P, .agg #[.slice q k.length c', .string t]] w fun e w' => e = .returned (.int .i64 1) ∧ Below w.heap.size w w' := by
  have HC := hid fun (w' : World) => atlasCheck_ok q k.length c' t d w'
  have e0 : (checkB k.length d && decide (t.size ≤ 40)) = false := hr
  rw [e0] at HC
  rw [err_false false rfl] at HC
  have HB := hid (below_alloc w (.cells #[.slice q k.length c', .string t] 33)).drew
  have HA := hid (two_cells (heap_alloc_new w (.cells #[.slice q k.length c', .string t] 33)))
  have HD := hid hd
  clear hd hr e0
  go_enter Try.func12, Try.ntmps12
  go_wp2_with fail
  have a1 := HA.out.1
  have a2 := HA.out.2.1
  go_region_held3 (fun w' => w'.cell? ⟨w.heap.size, 0, none⟩ = some (.slice q k.length c') ∧ w'.cell? ⟨w.heap.size, 1, none⟩ = some (.string t)) (first | exact ⟨a1, a2⟩ | exact x4 | go_keep)
    (first
      | (go_at_call 29; refine (HD.out _ HB.out).mono ?_; rintro e w' ⟨rfl, rfl⟩)
      | (go_at_call 10; refine (HC.out _).mono ?_; rintro e w4 ⟨rfl, hb⟩; have H2 := hid (HB.out.trans (hb.mono HB.out.size)); have x4 := two_cells ((hb.block w.heap.size (by simp)).trans (heap_alloc_new w (.cells #[.slice q k.length c', .string t] 33))); replace x4 := And.intro x4.1 x4.2.1; clear hb)
      | fail)
  go_wp2_with fail
  go_ret
  exact ⟨rfl, H2.out⟩
set_option maxRecDepth 100000 in
set_option maxHeartbeats 4000000 in
theorem put_ok {N b : Nat} {X : Nat → Prop} {v : Value} {d : Int} {L : List Rec} (k : List Nat) (t : ByteArray) (q : Option Addr) (c' : Nat) (w : World) (h : Atl N w X b v d L) (hXl : ∀ j, X j → j < w.heap.size) (hXa : ∀ j, X j → ¬ FT b v j) (hN : N ≤ w.heap.size) (hq : Pt w q k) (hr : recB k t d = true) (hl : L.length < 1000) :
    Calls Try.prog 12 #[.pointer (some ⟨b, 0, none⟩), .agg #[.slice q k.length c', .string t]] w fun e w' => e = .returned (.int .i64 0) ∧ ∃ v', Atl N w' X b v' d (putR L (k, t)) ∧ Onl (FT b v) w w' ∧ (∀ j, j < w.heap.size → FT b v' j → FT b v j) ∧ ∀ j, X j → ¬ FT b v' j := by
  have HFT := hid (recB_fit hr)
  have HC := hid fun (w' : World) => atlasCheck_ok q k.length c' t d w'
  have e0 : (checkB k.length d && decide (t.size ≤ 40)) = true := hr
  rw [e0] at HC
  rw [err_true true rfl] at HC
  obtain ⟨V, hV⟩ : ∃ V, w.alloc (.cells #[.slice q k.length c', .string t] 33 (0, 0)) = V := ⟨_, rfl⟩
  have HB := hid (show Below w.heap.size w V by rw [← hV]; exact below_alloc w _)
  have HA := hid (show V.heap[w.heap.size]? = some (.cells #[.slice q k.length c', .string t] 33 (0, 0)) by rw [← hV]; exact heap_alloc_new w _)
  have HX := hid (And.intro hXl hXa)
  have HQ := hid hq
  have H := hid h
  have hc := (h.next HB.out).cells
  obtain ⟨p, c, rfl, hlc, hcm⟩ := h.form
  obtain ⟨n, hnn⟩ : ∃ n, lessN L k = n := ⟨_, rfl⟩
  have hnl : n ≤ L.length := by rw [← hnn]; exact lessN_le L k
  have HNN := hid hnn
  clear h hr e0 hXl hXa hq hnn
  have HST := hid fun (w' : World) (hb : Below V.heap.size V w') => (show (w'.cell? ⟨b, 1, none⟩ = some (.slice p L.length c) ∧ w'.cell? ⟨w.heap.size, 0, none⟩ = some (.slice q k.length c') ∧ w'.cell? ⟨w.heap.size, 1, none⟩ = some (.string t)) ∧ w'.cell? ⟨b, 0, none⟩ = some (.int .i64 d) from by
    have h1 := (H.out.next (HB.out.trans (hb.mono HB.out.size))).cells
    have h2 := two_cells ((hb.block w.heap.size (Array.getElem?_eq_some_iff.1 HA.out).1).trans HA.out)
    exact ⟨⟨h1.2.1, h2.1, h2.2.1⟩, h1.1⟩)
  have HV0 := hid (Below.refl V.heap.size V).drew
  obtain ⟨⟨a1, a2, a3⟩, a0⟩ := HST.out _ (Below.refl _ _)
  clear hc
  have a0d : V.drew.cell? ⟨b, 0, none⟩ = some (.int .i64 d) := a0
  go_enter Try.func12, Try.ntmps12
  go_wp2_with fail
  go_region_held3 (fun w' => w'.cell? ⟨w.heap.size, 0, none⟩ = some (.slice q k.length c') ∧ w'.cell? ⟨w.heap.size, 1, none⟩ = some (.string t)) (first | exact ⟨a2, a3⟩ | exact x4.1.2 | go_keep)
    (first
      | (go_at_call 29; refine (coords_ok _ a0d).mono ?_; rintro e w' ⟨rfl, rfl⟩)
      | (go_at_call 10; refine (HC.out _).mono ?_; rintro e w4 ⟨rfl, hb⟩; have HV4 := hid (HV0.out.trans (hb.mono HV0.out.size)); have x4 := HST.out _ HV4.out; clear hb)
      | fail)
  clear a0 a0d a1 a2 a3 x4 HV0 hV
  obtain ⟨⟨a1, a2, a3⟩, a0⟩ := HST.out _ HV4.out
  have HB4 := hid (HB.out.trans (HV4.out.mono HB.out.size))
  have HFI := hid (find_ok k q c' w4 (H.out.next HB4.out) (HQ.out.below HB4.out))
  rw [HNN.out] at HFI
  cases hh : hasN L k with
  | true =>
    rw [hh] at HFI
    have hnl2 : n < L.length := by obtain ⟨e, _⟩ := hasN_iff.1 hh; rw [HNN.out] at e; exact e
    obtain ⟨g, hpg⟩ : ∃ g, p = some ⟨g, 0, none⟩ := by
      obtain ⟨xs, h1, _⟩ := H.out.row
      rcases h1.2 with ⟨e, h0⟩ | ⟨g, cap, cur, e, _⟩
      · omega
      · cases e; exact ⟨g, rfl⟩
    subst hpg
    have hgb : ¬ (g = b) := fun e => H.out.ne (by rw [e]; rfl)
    have hgb2 : ¬ (b = g) := fun e => hgb e.symm
    have hgw : ¬ (g = w.heap.size) := by have := H.out.lt g (.inr rfl); omega
    have hgw2 : ¬ (w.heap.size = g) := fun e => hgw e.symm
    have hz1 : (0 : Int) ≤ (n : Int) := by omega
    have hz2 : (n : Int) < (L.length : Int) := by omega
    have HH := hid hh
    clear hh
    go_wp2_with (first
      | (go_at_call 30; refine HFI.out.mono ?_; rintro e w5 ⟨rfl, hb⟩; have HV5 := hid (HV4.out.trans (hb.mono HV4.out.size)); clear hb))
    clear a0 a1 a2 a3
    obtain ⟨⟨a1, a2, a3⟩, a0⟩ := HST.out _ HV5.out
    have HB5 := hid (HB.out.trans (HV5.out.mono HB.out.size))
    have HRE := hid (record_ok k q c' t w5.drew ((HQ.out.below HB5.out).drew) (by have := HFT.out; omega) (by have := HFT.out; omega))
    go_region_held3 (fun w' => w'.cell? ⟨b, 1, none⟩ = some (.slice (some ⟨g, 0, none⟩) L.length c) ∧ w'.cell? ⟨w.heap.size, 0, none⟩ = some (.slice q k.length c') ∧ w'.cell? ⟨w.heap.size, 1, none⟩ = some (.string t)) (first | exact ⟨a1, a2, a3⟩ | exact x6.1 | go_keep)
      (first
        | (go_at_call 31; refine HRE.out.mono ?_; rintro e w6 ⟨p6, c6, rfl, hp, hb⟩; have HP6 := hid hp; have HB6 := hid hb; have HV6 := hid ((HV5.out.trans ((Below.refl _ w5).drew.mono HV5.out.size)).trans (hb.mono (by have := HV5.out.size; simpa using this))); have x6 := HST.out _ HV6.out; obtain ⟨⟨⟨y1, f1⟩, f2⟩, ⟨y2, f3⟩, f4⟩ := ((H.out.next (HB.out.trans (HV6.out.mono HB.out.size)))).slot hnl2; clear hp hb)
        | fail)
    have HP := hid (Atl.put_over (W := w5.drew) (H.out.next HB5.out).drew (fun j hj => Nat.lt_of_lt_of_le (HX.out.1 j hj) (show w.heap.size ≤ w5.heap.size from HB5.out.size)) HB6.out HP6.out HNN.out HH.out hl (by have := HFT.out; omega) (by have := HFT.out; omega) (c' := c6) (t := t))
    have HO := hid (Onl.after HB5.out.drew HP.out.2)
    clear a0 a1 a2 a3 x6 f1 f2 f3 f4 HP6 HB6 HRE HV5 HV6 HST HQ HB5
    go_wp2_with fail
    go_ret
    exact ⟨rfl, _, HP.out.1, HO.out, fun _ _ h => h, HX.out.2⟩
  | false =>
    rw [hh] at HFI
    have HH := hid hh
    clear hh
    go_wp2_with (first
      | (go_at_call 30; refine HFI.out.mono ?_; rintro e w5 ⟨rfl, hb⟩; have HV5 := hid (HV4.out.trans (hb.mono HV4.out.size)); clear hb))
    clear a0 a1 a2 a3
    obtain ⟨⟨a1, a2, a3⟩, a0⟩ := HST.out _ HV5.out
    have HB5 := hid (HB.out.trans (HV5.out.mono HB.out.size))
    have HRE := hid (record_ok k q c' t w5.drew ((HQ.out.below HB5.out).drew) (by have := HFT.out; omega) (by have := HFT.out; omega))
    have hA5 := (H.out.next HB5.out).drew
    obtain ⟨xs, hxo, hxr⟩ := hA5.row
    have HXO := hid (And.intro hxo hxr)
    have HA5 := hid hA5
    have H1C := hid hxr.oneCell
    have HVA := hid (show V.heap.size ≤ w5.drew.heap.size from HV5.out.size)
    have hS7 : ∀ (w6 w7 : World) (o : Obj), Below w5.drew.heap.size w5.drew w6 → (w6.alloc o).grownBy w7 (Value.slice p L.length c).ownBlock → (w7.cell? ⟨b, 1, none⟩ = some (.slice p L.length c) ∧ w7.cell? ⟨w.heap.size, 0, none⟩ = some (.slice q k.length c') ∧ w7.cell? ⟨w.heap.size, 1, none⟩ = some (.string t)) ∧ w7.frozen? ⟨b, 1, none⟩ = false := fun w6 w7 o hb hg => by
      have hb2 : Below w5.drew.heap.size w5.drew (w6.alloc o) := hb.trans ((below_alloc w6 o).mono hb.size)
      have eb : w7.heap[b]? = some (.cells #[.int .i64 d, .slice p L.length c] 58 (0, 0)) := by
        rw [hg.block b (Nat.lt_of_lt_of_le HA5.out.ltb hb2.size) (fun e => HA5.out.ne e.symm), hb2.block b HA5.out.ltb]; exact HA5.out.head
      have hwl : w.heap.size < w5.drew.heap.size := Nat.lt_of_lt_of_le (Array.getElem?_eq_some_iff.1 HA.out).1 HVA.out
      have hw5 : w5.drew.heap[w.heap.size]? = _ := (HV5.out.block w.heap.size (Array.getElem?_eq_some_iff.1 HA.out).1).trans HA.out
      have ew : w7.heap[w.heap.size]? = some (.cells #[.slice q k.length c', .string t] 33 (0, 0)) := by
        rw [hg.block _ (Nat.lt_of_lt_of_le hwl hb2.size) (fun e => by have := H.out.lt w.heap.size (.inr e.symm); omega), hb2.block _ hwl]; exact hw5
      have c2 := two_cells ew
      exact ⟨⟨by rw [cell_of_row _ _ _ _ _ _ eb]; rfl, c2.1, c2.2.1⟩, frozen_of_row _ _ _ _ _ eb⟩
    have HS7 := hid hS7
    have HXL := hid (show L.length ≤ 1000 by omega)
    clear hS7 hA5 hxo hxr
    go_region_law (first
        | (go_simp; go_at_call 31; refine HRE.out.mono ?_; rintro e w6 ⟨p6, c6, rfl, hp, hb⟩; have HP6 := hid hp; have HB6 := hid hb; have x6 := HST.out _ ((HV5.out.trans ((Below.refl _ w5).drew.mono HV5.out.size)).trans (hb.mono HVA.out)); have x6b := HST.out _ (((HV5.out.trans ((Below.refl _ w5).drew.mono HV5.out.size)).trans (hb.mono HVA.out)).trans ((below_alloc w6 (.cells #[.slice p6 k.length c6, .string t] 33 (0, 0))).mono (Nat.le_trans HVA.out hb.size))); obtain ⟨⟨k1, k2, k3⟩, k0⟩ := x6; obtain ⟨⟨l1, l2, l3⟩, l0⟩ := x6b; clear hp hb)
        | (go_simp; go_at_call 32
           refine (ins_ok (w6.alloc (.cells #[.slice p6 k.length c6, .string t] 33 (0, 0))) N L.length n w6.heap.size (.slice p L.length c) (.slice p6 k.length c6) (.string t) xs (own_keep HXO.out.1 (fun g hg => (HB6.out.trans ((below_alloc w6 _).mono HB6.out.size)).block g ((HXO.out.1.lt g hg).2))) H1C.out (by have := HB6.out.size; have := HB5.out.size; simp at this ⊢; simp at *; omega) hnl HXL.out (fun e => by have := HXO.out.1.lt _ e; have := HB6.out.size; omega) (heap_alloc_new w6 _) rfl rfl).mono ?_
           rintro e w7 ⟨v', rfl, ho, hg, hv⟩
           obtain ⟨pp, mm, cc, hvv⟩ := row_sl ho
           subst hvv
           have HO7 := hid ho; have HG7 := hid hg; have HV7 := hid hv
           have x7 := HS7.out _ _ _ HB6.out hg
           obtain ⟨⟨m1, m2, m3⟩, f7⟩ := x7
           clear ho hg hv))
    all_goals
      have HP := hid (Atl.put_new (W := w5.drew) HA5.out (fun j hj => Nat.lt_of_lt_of_le (HX.out.1 j hj) (show w.heap.size ≤ w5.heap.size from HB5.out.size)) HB6.out HP6.out HNN.out HH.out hl (by have := HFT.out; omega) (by have := HFT.out; omega) HX.out.2 xs HXO.out.1 HXO.out.2 HO7.out HG7.out (by have e := HV7.out; simpa using e))
      have HO := hid (Onl.after HB5.out.drew HP.out.2.1)
      have HZ := hid (show w.heap.size ≤ w5.drew.heap.size from HB5.out.size)
      clear a0 a1 a2 a3 k0 k1 k2 k3 l0 l1 l2 l3 m1 m2 m3 f7 HP6 HB6 HRE HV5 HST HQ HB5 HS7 HG7 HV7 HO7 HXO HA5
      go_wp2_with fail
      go_ret
      exact ⟨rfl, _, HP.out.1, HO.out, fun j hj hf => HP.out.2.2.1 j (Nat.lt_of_lt_of_le hj HZ.out) hf, HP.out.2.2.2⟩
/-- what stands at a point's place -/
def dataAt (L : List Rec) (k : List Nat) : ByteArray := match L[lessN L k]? with | some r => r.2 | none => ⟨#[]⟩
theorem dataAt_eq {L : List Rec} {k : List Nat} (h : lessN L k < L.length) : dataAt L k = L[lessN L k].2 := by
  unfold dataAt; rw [List.getElem?_eq_getElem h]
set_option maxHeartbeats 1000000 in
theorem place_bad (k : List Nat) (q : Option Addr) (c' : Nat) (d : Int) (P : Option Addr) (w : World) (hd : Calls Try.prog 29 #[.pointer P] w fun e w2 => e = .returned (.int .i64 d) ∧ w = w2) (hr : checkB k.length d = false) :
    Calls Try.prog 35 #[.pointer P, .slice q k.length c'] w fun e w' => e = .returned (.tuple #[.int .i64 0, .int .i64 1]) ∧ w = w' := by
  have HD := hid hd
  have HC := hid (check_ok q k.length c' d w)
  rw [hr, err_false false rfl] at HC
  clear hd hr
  go_enter Try.func35, Try.ntmps35
  go_wp2_with (first
    | (go_at_call 29; refine HD.out.mono ?_; rintro e w' ⟨rfl, rfl⟩)
    | (go_at_call 27; refine HC.out.mono ?_; rintro e w' ⟨rfl, rfl⟩))
  go_ret2
  exact ⟨rfl, rfl⟩
set_option maxHeartbeats 1000000 in
theorem place_ok {N b : Nat} {X : Nat → Prop} {v : Value} {d : Int} {L : List Rec} (k : List Nat) (q : Option Addr) (c' : Nat) (w : World) (h : Atl N w X b v d L) (hq : Pt w q k) (hr : checkB k.length d = true) :
    Calls Try.prog 35 #[.pointer (some ⟨b, 0, none⟩), .slice q k.length c'] w fun e w' => e = .returned (.tuple #[.int .i64 (if hasN L k = true then (lessN L k : Int) else 0), .int .i64 (if hasN L k = true then 0 else 5)]) ∧ Below w.heap.size w w' := by
  have HD := hid (coords_ok w h.cells.1)
  have HC := hid (check_ok q k.length c' d w)
  rw [hr, err_true true rfl] at HC
  have HF := hid (find_ok k q c' w h hq)
  clear hr h hq
  generalize lessN L k = n at HF
  cases hh : hasN L k with
  | true =>
    rw [hh] at HF
    clear hh
    go_enter Try.func35, Try.ntmps35
    go_wp2_with (first
      | (go_at_call 29; refine HD.out.mono ?_; rintro e w' ⟨rfl, rfl⟩)
      | (go_at_call 27; refine HC.out.mono ?_; rintro e w' ⟨rfl, rfl⟩)
      | (go_at_call 30; refine HF.out.mono ?_; rintro e w2 ⟨rfl, hb⟩; have HB := hid hb; clear hb))
    go_ret2
    exact ⟨rfl, HB.out⟩
  | false =>
    rw [hh] at HF
    clear hh
    go_enter Try.func35, Try.ntmps35
    go_wp2_with (first
      | (go_at_call 29; refine HD.out.mono ?_; rintro e w' ⟨rfl, rfl⟩)
      | (go_at_call 27; refine HC.out.mono ?_; rintro e w' ⟨rfl, rfl⟩)
      | (go_at_call 30; refine HF.out.mono ?_; rintro e w2 ⟨rfl, hb⟩; have HB := hid hb; clear hb))
    go_ret2
    exact ⟨rfl, HB.out⟩
set_option maxHeartbeats 1000000 in
theorem get_bad (k : List Nat) (q : Option Addr) (c' : Nat) (d : Int) (P : Option Addr) (w : World) (hd : Calls Try.prog 29 #[.pointer P] w fun e w2 => e = .returned (.int .i64 d) ∧ w = w2) (hr : checkB k.length d = false) :
    Calls Try.prog 16 #[.pointer P, .slice q k.length c'] w fun e w' => e = .returned (.tuple #[.string ⟨#[]⟩, .int .i64 1]) ∧ w = w' := by
  have HP := hid (place_bad k q c' d P w hd hr)
  clear hd hr
  go_enter Try.func16, Try.ntmps16
  go_wp2_with (go_at_call 35; refine HP.out.mono ?_; rintro e w' ⟨rfl, rfl⟩)
  go_ret2
  exact ⟨rfl, rfl⟩
set_option maxHeartbeats 1000000 in
theorem get_none {N b : Nat} {X : Nat → Prop} {v : Value} {d : Int} {L : List Rec} (k : List Nat) (q : Option Addr) (c' : Nat) (w : World) (h : Atl N w X b v d L) (hq : Pt w q k) (hr : checkB k.length d = true) (hn : hasN L k = false) :
    Calls Try.prog 16 #[.pointer (some ⟨b, 0, none⟩), .slice q k.length c'] w fun e w' => e = .returned (.tuple #[.string ⟨#[]⟩, .int .i64 5]) ∧ Below w.heap.size w w' := by
  have HP := hid (place_ok k q c' w h hq hr)
  simp only [hn] at HP
  clear h hq hr hn
  go_enter Try.func16, Try.ntmps16
  go_wp2_with (go_at_call 35; refine HP.out.mono ?_; rintro e w2 ⟨rfl, hb⟩; have HB := hid hb; clear hb)
  go_ret2
  exact ⟨rfl, HB.out⟩
set_option maxHeartbeats 1000000 in
theorem get_ok {N b : Nat} {X : Nat → Prop} {v : Value} {d : Int} {L : List Rec} (k : List Nat) (q : Option Addr) (c' : Nat) (w : World) (h : Atl N w X b v d L) (hq : Pt w q k) (hr : checkB k.length d = true) (hn : hasN L k = true) :
    Calls Try.prog 16 #[.pointer (some ⟨b, 0, none⟩), .slice q k.length c'] w fun e w' => e = .returned (.tuple #[.string (dataAt L k), .int .i64 0]) ∧ Below w.heap.size w w' := by
  have HP := hid (place_ok k q c' w h hq hr)
  simp only [hn, if_true] at HP
  obtain ⟨hlt, _⟩ := hasN_iff.1 hn
  obtain ⟨p, c, rfl, _, _⟩ := h.form
  have hrs := h.rs
  have HCL := hid fun (w' : World) (hb : Below w.heap.size w w') => (h.next hb).cells.2.1
  obtain ⟨g, off, q1, c1, rfl, hgl, _, d2, _⟩ := hrs.at _ hlt
  have HD := hid fun (w' : World) (hb : Below w.heap.size w w') => (hb.cell (p := ⟨g, _, none⟩) hgl).trans d2
  rw [dataAt_eq hlt]
  have hlen := h.big.1
  generalize L[lessN L k].2 = t at HD d2
  generalize lessN L k = n at HP HD d2 hlt
  have hz1 : (0 : Int) ≤ (n : Int) := by omega
  have hz2 : (n : Int) < (L.length : Int) := by omega
  clear h hq hr hn hrs d2
  go_enter Try.func16, Try.ntmps16
  go_wp2_with (go_at_call 35; refine HP.out.mono ?_; rintro e w2 ⟨rfl, hb⟩; have HB := hid hb; have x1 := HCL.out _ hb; have x2 := HD.out _ hb; clear hb)
  go_ret2
  exact ⟨rfl, HB.out⟩
end Go.Proofs.Ytmniaaledplhfaa.At
