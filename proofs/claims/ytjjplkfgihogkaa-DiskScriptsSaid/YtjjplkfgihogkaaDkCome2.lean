/- come of disk: with which bytes each of the writes that wait comes to its page. -/
import Derived.Test.YtjjplkfgihogkaaDkCome
import Derived.Test.YtjjplkfgihogkaaDkFlush
namespace Go.Proofs.Ytjjplkfgihogkaa.Dk
open Go.RowKit
open Go.Lib (hid)

/-- the text of a write that waits -/
def textAt (s : St) (i : Nat) : ByteArray := (s.waits.getD i (0, emptyB)).2
/-- the writes that are kept, one after the other -/
def keepL (s : St) : List Int → List ByteArray → Option (List ByteArray)
  | [], o => some o
  | i :: r, o => if freeB o i then keepL s r (o.set i.toNat (textAt s i.toNat)) else none
theorem keepL_app (s : St) (a b : List Int) (o : List ByteArray) : keepL s (a ++ b) o = (keepL s a o).bind (keepL s b) := by
  induction a generalizing o with
  | nil => rfl
  | cons i r ih =>
    simp only [List.cons_append, keepL]
    by_cases h : freeB o i = true
    · rw [if_pos h, if_pos h, ih]
    · rw [if_neg h, if_neg h]; rfl
theorem keepL_length (s : St) (a : List Int) (o o' : List ByteArray) (h : keepL s a o = some o') : o'.length = o.length := by
  induction a generalizing o with
  | nil => simp only [keepL] at h; injection h with h; rw [h]
  | cons i r ih =>
    simp only [keepL] at h
    by_cases hf : freeB o i = true
    · rw [if_pos hf] at h; rw [ih _ h, List.length_set]
    · rw [if_neg hf] at h; cases h
theorem keepL_more (s : St) (ks : List Int) (k : Nat) (o0 o : List ByteArray) (hk : k < ks.length) (h : keepL s (ks.take k) o0 = some o) (hf : freeB o ks[k] = true) :
    keepL s (ks.take (k + 1)) o0 = some (o.set ks[k].toNat (textAt s ks[k].toNat)) := by
  rw [List.take_succ_eq_append_getElem hk, keepL_app, h]
  show keepL s [ks[k]] o = _
  simp only [keepL]; rw [if_pos hf]
theorem keepL_stop (s : St) (ks : List Int) (k : Nat) (o0 o : List ByteArray) (hk : k < ks.length) (h : keepL s (ks.take k) o0 = some o) (hf : freeB o ks[k] = false) :
    keepL s ks o0 = none := by
  have e : ks = ks.take k ++ (ks[k] :: ks.drop (k + 1)) := by rw [← List.drop_eq_getElem_cons hk, List.take_append_drop]
  rw [e, keepL_app, h]
  show keepL s (ks[k] :: ks.drop (k + 1)) o = _
  simp only [keepL]; rw [if_neg (by rw [hf]; simp)]
theorem freeB_lt {o : List ByteArray} {i : Int} (h : freeB o i = true) : 0 ≤ i ∧ i < o.length := by
  unfold freeB at h
  simp only [Bool.and_eq_true, decide_eq_true_eq] at h
  exact ⟨h.1, h.2.1⟩

/-- no write comes so far -/
def none0 (s : St) : List ByteArray := List.replicate s.waits.length emptyB
theorem smake2 (n : Nat) (h : n ≤ 1000000) (w : World) :
    (Instr.makeSlice 40 (.int .i64 (n : Int)) (.int .i64 (n : Int))).run Try.prog w = .ok (.slice (some ⟨w.heap.size, 0, none⟩) n n) (w.alloc (.cells (sv (List.replicate n emptyB)).toArray 9)) := by
  obtain ⟨i, hi, hz, hs, hb⟩ := info_parts info9
  have := run_makeSlice (P := Try.prog) (w := w) 40 9 i (.string ⟨#[]⟩) Try.underlying40 hi hz .i64 .i64 n n (by omega) (by omega) (by rw [hs]; omega) (by rw [hb]; omega) (by omega)
  rw [this]
  have e : madeCells (Value.string ⟨#[]⟩).cells (n * 1) = (sv (List.replicate n emptyB)).toArray := by
    apply Array.ext
    · simp [madeCells, sv]
    · intro i h1 h2
      simp [madeCells, Value.cells, Nat.mod_one, sv, emptyB]
  simp only [Int.toNat_natCast, hs, e]

/-- one of the texts is laid -/
theorem Outs.set {w : World} {A g : Nat} {o : List ByteArray} (h : Outs w A g o) (hne : A ≠ g) (i : Nat) (t : ByteArray) : Outs (w.setCell ⟨g, i, none⟩ (.string t)) A g (o.set i t) := by
  refine ⟨?_, ?_⟩
  · rw [heap_setCell_other _ _ _ _ hne, List.length_set]; exact h.slot
  · rw [heap_setCell_same _ _ _ _ _ _ h.row]
    congr 2
    rw [List.setIfInBounds_toArray]
    simp [sv, List.map_set]

def tornB (t : ByteArray) (a : Nat) : ByteArray := ⟨(Pg.tornL t.data.toList a).toArray⟩
/-- with which bytes each write comes; none, if the crash is refused -/
def comeS (s : St) (ks : List Int) (torn a : Int) : Option (List ByteArray) :=
  match keepL s ks (none0 s) with
  | none => none
  | some o => if torn = -1 then some o else if freeB o torn = true then (if 0 ≤ a ∧ a ≤ 256 then some (o.set torn.toNat (tornB (textAt s torn.toNat) a.toNat)) else none) else none
def ComePost (s : St) (r : Option (List ByteArray)) (w : World) (e : Ending) (w' : World) : Prop :=
  Below w.heap.size w w' ∧ match r with
    | none => ∃ v, e = .returned (.tuple #[v, .bool false])
    | some o => ∃ g, w.heap.size ≤ g ∧ e = .returned (.tuple #[.slice (some ⟨g, 0, none⟩) o.length o.length, .bool true]) ∧ w'.heap[g]? = some (.cells (sv o).toArray 9 (0, 0)) ∧ o.length = s.waits.length

theorem outs_start (w : World) (o : List ByteArray) (n : Nat) (hn : o.length = n) :
    Outs ((w.alloc (.cells (sv o).toArray 9)).alloc (.cells #[.slice (some ⟨w.heap.size, 0, none⟩) n n] 40)) (w.heap.size + 1) w.heap.size o := by
  subst hn
  have hs : (w.alloc (.cells (sv o).toArray 9)).heap.size = w.heap.size + 1 := by simp
  refine ⟨?_, ?_⟩
  · have := heap_alloc_new (w.alloc (.cells (sv o).toArray 9)) (.cells #[.slice (some ⟨w.heap.size, 0, none⟩) o.length o.length] 40)
    rw [hs] at this; exact this
  · rw [Below.heap_alloc _ _ _ (by rw [hs]; omega)]; exact heap_alloc_new _ _
theorem textAt_of (s : St) (j : Nat) (hj : j < s.waits.length) : textAt s j = s.waits[j].2 := by simp [textAt, List.getD, hj]

/-- the indices that are kept, as they stand in memory -/
def Kept (w : World) (q : Option Addr) (ks : List Int) : Prop := ∀ j, (hj : j < ks.length) → ∃ b off, q = some ⟨b, off, none⟩ ∧ b < w.heap.size ∧ w.cell? ⟨b, off + j, none⟩ = some (.int .i64 ks[j])
/-- where the waits stand, if there are any -/
theorem Dsk.waitsAt {w : World} {d : Ptrs} {s : St} (h : Dsk w d s) : ∃ p cap, d.wv = .slice p s.waits.length cap := by
  rcases h.waits.2 with ⟨hv, h0⟩ | ⟨g, cap, cur, hv, _⟩
  · exact ⟨none, 0, by rw [hv, h0]⟩
  · exact ⟨_, cap, hv⟩
theorem Dsk.someAt {w : World} {d : Ptrs} {s : St} (h : Dsk w d s) {p : Option Addr} {cap : Nat} (hv : d.wv = .slice p s.waits.length cap) (hn : 0 < s.waits.length) : ∃ gw, p = some ⟨gw, 0, none⟩ := by
  rcases h.waits.2 with ⟨_, h0⟩ | ⟨g, cap', cur, hv', _⟩
  · omega
  · rw [hv] at hv'; injection hv' with h1; exact ⟨g, h1⟩

set_option maxRecDepth 100000 in
set_option maxHeartbeats 3200000 in
theorem come_A (d : Ptrs) (s : St) (w : World) (h : Dsk w d s) (p : Option Addr) (cap : Nat) (hv : d.wv = .slice p s.waits.length cap) (q : Option Addr) (c : Nat) (ks : List Int)
    (hks : Kept w q ks) (hkm : ks.length ≤ maxLen) (torn a : Int) :
    Calls Try.prog 35 #[.pointer (some ⟨d.D, 0, none⟩), .slice q ks.length c, .int .i64 torn, .int .i64 a] w fun e w' => ComePost s (comeS s ks torn a) w e w' := by
  unfold maxLen at hkm
  have hm := smake2 s.waits.length h.good.few w
  have cc := h.cells
  rw [hv] at cc
  have hfew := h.good.few
  have HH := hid h
  have HV := hid hv
  have HKS := hid hks
  clear h hv hks
  go_enter Try.func35, Try.ntmps35
  go_wp2_with fail
  go_loopw [25] (fun i wr => ∃ k : Nat, k ≤ ks.length ∧ i = .int .i64 k ∧ ∃ o : List ByteArray, keepL s (ks.take k) (none0 s) = some o ∧ o.length = s.waits.length ∧ Outs wr (w.heap.size + 1) w.heap.size o ∧ Below w.heap.size w wr) (fun i _ => ks.length - (intOf i).toNat)
  case atStart => exact ⟨0, by omega, rfl, none0 s, rfl, by simp [none0], outs_start w _ _ (by simp), ((Below.refl _ _).alloc (Nat.le_refl _) _).alloc (by simp) _⟩
  case round =>
    obtain ⟨k, hk, rfl, o, hkeep, hol, hO, hB⟩ := hrel
    have HK := hid hkeep; have HO := hid hO; have HB := hid hB; have HL := hid hol; clear hkeep hO hB hol hm cc
    have hlen := HL.out
    have HD := hid (HH.out.below HB.out)
    have c2 := HD.out.cells.2.1
    rw [HV.out] at c2
    have c1 := HO.out.ptr
    rw [hlen] at c1
    by_cases hlt : k < ks.length
    · obtain ⟨i, hi⟩ : ∃ i, ks[k] = i := ⟨_, rfl⟩
      obtain ⟨b, off, rfl, hbw, hck⟩ := HKS.out k hlt
      have ck : wr.cell? ⟨b, off + k, none⟩ = some (.int .i64 i) := by rw [HB.out.cell (by exact hbw), hck, hi]
      clear hck hbw
      cases hf : freeB o i
      · have FT : Hid (Calls Try.prog 43 #[.int .i64 i, .pointer (some ⟨w.heap.size + 1, 0, none⟩)] wr fun e w' => e = .returned (.bool false) ∧ wr = w') := hid (by rw [← hf]; exact free_ok _ _ o i wr HO.out)
        have HN : Hid (comeS s ks torn a = none) := hid (by unfold comeS; rw [keepL_stop s ks k _ o hlt HK.out (by rw [hi]; exact hf)])
        clear hf hi hlen
        go_wp2_with (go_at_call 43; refine FT.out.mono ?_; rintro e w' ⟨rfl, rfl⟩)
        go_ret2
        rw [HN.out]
        exact ⟨HB.out, _, rfl⟩
      · obtain ⟨j, rfl⟩ := Int.eq_ofNat_of_zero_le (freeB_lt hf).1
        have hj : j < o.length := by have := (freeB_lt hf).2; omega
        have hjw : j < s.waits.length := by omega
        obtain ⟨gw, rfl⟩ := HH.out.someAt HV.out (by omega)
        obtain ⟨t, ht⟩ : ∃ t, s.waits[j].2 = t := ⟨_, rfl⟩
        have FT : Hid (Calls Try.prog 43 #[.int .i64 (j : Int), .pointer (some ⟨w.heap.size + 1, 0, none⟩)] wr fun e w' => e = .returned (.bool true) ∧ wr = w') := hid (by rw [← hf]; exact free_ok _ _ o j wr HO.out)
        have HM : Hid (keepL s (ks.take (k + 1)) (none0 s) = some (o.set j t)) := hid (by
          have := keepL_more s ks k _ o hlt HK.out (by rw [hi]; exact hf)
          rw [hi, Int.toNat_natCast, textAt_of s j hjw, ht] at this; exact this)
        have cw : wr.cell? ⟨gw, j * 2 + 1, none⟩ = some (.string t) := by
          have := (HD.out.wait HV.out j hjw).2
          rw [ht] at this; exact this
        have co := HO.out.cell j hj
        have fo := HO.out.free j
        generalize o[j] = u at co
        clear hf hi hlen ht hj
        go_wp2_with (go_at_call 43; refine FT.out.mono ?_; rintro e w' ⟨rfl, rfl⟩)
        go_still_tail 11, (by kernel_rfl)
        change wpList _ _ _ _ _ wr.drew
        go_wp2_with fail
        go_roundw
        case rel => exact ⟨k + 1, by omega, by go_num, o.set j t, HM.out, by rw [List.length_set]; exact HL.out, HO.out.drew.set (by omega) j t, HB.out.drew.setCell (Nat.le_refl _) _⟩
        case measure => simp [intOf]; omega
    · obtain rfl : k = ks.length := by omega
      have hall : keepL s ks (none0 s) = some o := by have := HK.out; rwa [List.take_length] at this
      by_cases ht1 : torn = -1
      · subst ht1
        have HN : Hid (comeS s ks (-1) a = some o) := hid (by unfold comeS; rw [hall]; rfl)
        clear hall hlen
        go_wp2_with fail
        go_ret2
        rw [HN.out]
        exact ⟨HB.out, w.heap.size, Nat.le_refl _, by rw [HL.out]; rfl, HO.out.row, HL.out⟩
      · have e1 : (torn == -1) = false := by simpa using ht1
        cases hf : freeB o torn
        · have FT : Hid (Calls Try.prog 43 #[.int .i64 torn, .pointer (some ⟨w.heap.size + 1, 0, none⟩)] wr fun e w' => e = .returned (.bool false) ∧ wr = w') := hid (by rw [← hf]; exact free_ok _ _ o torn wr HO.out)
          have HN : Hid (comeS s ks torn a = none) := hid (by unfold comeS; rw [hall]; show (if torn = -1 then _ else _) = _; rw [if_neg ht1, if_neg (by rw [hf]; simp)])
          clear hf hall hlen ht1
          go_wp2_with (go_at_call 43; refine FT.out.mono ?_; rintro e w' ⟨rfl, rfl⟩)
          go_ret2
          rw [HN.out]
          exact ⟨HB.out, _, rfl⟩
        · obtain ⟨j, rfl⟩ := Int.eq_ofNat_of_zero_le (freeB_lt hf).1
          have hj : j < o.length := by have := (freeB_lt hf).2; omega
          have hjw : j < s.waits.length := by omega
          have HJ := hid hj
          obtain ⟨gw, rfl⟩ := HH.out.someAt HV.out (by omega)
          obtain ⟨t, ht⟩ : ∃ t, s.waits[j].2 = t := ⟨_, rfl⟩
          have HT : Hid (t.size = 256) := hid (by rw [← ht]; exact (HH.out.good.wait _ (List.getElem_mem hjw)).2)
          have FT : Hid (Calls Try.prog 43 #[.int .i64 (j : Int), .pointer (some ⟨w.heap.size + 1, 0, none⟩)] wr fun e w' => e = .returned (.bool true) ∧ wr = w') := hid (by rw [← hf]; exact free_ok _ _ o j wr HO.out)
          have cw : wr.cell? ⟨gw, j * 2 + 1, none⟩ = some (.string t) := by
            have := (HD.out.wait HV.out j hjw).2
            rw [ht] at this; exact this
          by_cases ha : 0 ≤ a ∧ a ≤ 256
          · obtain ⟨m, rfl⟩ := Int.eq_ofNat_of_zero_le ha.1
            have HN : Hid (comeS s ks j m = some (o.set j (tornB t m))) := hid (by
              unfold comeS; rw [hall]; show (if (j : Int) = -1 then _ else _) = _
              rw [if_neg ht1, if_pos hf, if_pos ha, Int.toNat_natCast, Int.toNat_natCast, textAt_of s j hjw, ht])
            have HA : Hid (m ≤ 256) := hid (by omega)
            obtain ⟨tt, htt⟩ : ∃ tt, tornB t m = tt := ⟨_, rfl⟩
            have HTT := hid htt
            have FTORN : Hid (∀ w0 : World, Calls Try.prog 44 #[.string t, .int .i64 (m : Int)] w0 fun e w' => e = .returned (.tuple #[.string tt, .int .i64 0]) ∧ Below w0.heap.size w0 w') := hid (fun w0 => by rw [← htt]; exact Pg.torn_yes t m w0 HT.out HA.out)
            clear hf hall hlen ht1 ht ha htt
            go_wp2_with (first
              | (go_at_call 43; refine FT.out.mono ?_; rintro e w' ⟨rfl, rfl⟩)
              | (go_at_call 44; refine (FTORN.out _).mono ?_; rintro e w4 ⟨rfl, hb4⟩; have HO4 := hid (HO.out.below hb4); have c41 := HO4.out.ptr; rw [HL.out] at c41; have co4 := HO4.out.cell j HJ.out; have fo4 := HO4.out.free j; have hO5 := HO4.out.set (by omega) j tt; have HO5 := hid hO5; have c5 := HO5.out.ptr; rw [List.length_set, HL.out] at c5; have HB4 := hid (HB.out.trans (hb4.mono HB.out.size)); clear hb4 hO5))
            go_ret2
            rw [HN.out, HTT.out]
            exact ⟨HB4.out.setCell (Nat.le_refl _) _, w.heap.size, Nat.le_refl _, by rw [List.length_set, HL.out]; rfl, HO5.out.row, by rw [List.length_set]; exact HL.out⟩
          · have HN : Hid (comeS s ks j a = none) := hid (by
              unfold comeS; rw [hall]; show (if (j : Int) = -1 then _ else _) = _
              rw [if_neg ht1, if_pos hf, if_neg ha])
            have HA : Hid (a < 0 ∨ 256 < a) := hid (by omega)
            have c1' := (HO.out.set (by omega) j (⟨#[]⟩ : ByteArray)).ptr
            rw [List.length_set, hlen] at c1'
            have co := HO.out.cell j hj
            have fo := HO.out.free j
            generalize o[j] = u at co
            clear hf hall hlen ht1 ht ha hj
            go_wp2_with (first
              | (go_at_call 43; refine FT.out.mono ?_; rintro e w' ⟨rfl, rfl⟩)
              | (go_at_call 44; refine (Pg.torn_no t a _ (.inr HA.out)).mono ?_; rintro e w4 ⟨rfl, rfl⟩))
            go_ret2
            rw [HN.out]
            exact ⟨HB.out.setCell (Nat.le_refl _) _, _, rfl⟩
end Go.Proofs.Ytjjplkfgihogkaa.Dk
