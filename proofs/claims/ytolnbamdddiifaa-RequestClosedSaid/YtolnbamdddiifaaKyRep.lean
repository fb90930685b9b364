/- Repeat of slices, for one number, and Whole. -/
import Derived.Test.YtolnbamdddiifaaKyWhole
import Derived.Laws.CopyOwn
namespace Go.Proofs.Ytolnbamdddiifaa.Ky
open Go.RowKit
open Go.Lib (hid)

theorem size46 : (Try.prog.info? 47).map (·.size) = some 1 := by kernel_rfl
/-- so many of one text, as cells -/
def csT (m : Nat) (t : Nat) : List Value := List.replicate m (.int .u32 (t : Int))
/-- a row of n texts of which the first k are laid -/
def rowT (n k : Nat) (t : Nat) : List Value := csT k t ++ csT (n - k) 0
theorem csT_length (m : Nat) (t : Nat) : (csT m t).length = m := by simp [csT]
theorem rowT_length (n k : Nat) (t : Nat) (h : k ≤ n) : (rowT n k t).length = n := by simp [rowT, csT]; omega
theorem rowT_more (n k m : Nat) (t : Nat) : splice (rowT n k t) k (csT m t) = rowT n (k + m) t := by
  unfold splice rowT csT
  rw [List.take_append_of_le_length (by simp), List.drop_append, List.length_replicate, List.length_replicate, List.take_of_length_le (by simp)]
  have e1 : k + m - k = m := by omega
  have e2 : (List.replicate k (Value.int .u32 (t : Int))).drop (k + m) = [] := by simp
  rw [e1, e2, List.nil_append, List.drop_replicate, ← List.append_assoc, List.replicate_append_replicate]
  have e3 : n - k - m = n - (k + m) := by omega
  rw [e3]
theorem csT_at (m : Nat) (t : Nat) (j : Nat) (v : Value) (h : (csT m t)[j]? = some v) : j < m ∧ v = .int .u32 (t : Int) := by
  unfold csT at h
  rw [List.getElem?_replicate] at h
  by_cases hj : j < m
  · rw [if_pos hj] at h; exact ⟨hj, by injection h with h; exact h.symm⟩
  · rw [if_neg hj] at h; cases h
theorem csT_one (m : Nat) (t : Nat) : ∀ v ∈ csT m t, v.oneCell' = true := fun v hv => by
  unfold csT at hv
  rw [(List.mem_replicate.1 hv).2]; rfl
theorem rowT_at (n k : Nat) (t : Nat) (j : Nat) (hj : j < k) : (rowT n k t)[j]? = some (.int .u32 (t : Int)) := by
  unfold rowT csT
  rw [List.getElem?_append_left (by simpa using hj)]
  simp [hj]
theorem rowT_full (n : Nat) (t : Nat) : rowT n n t = kl (List.replicate n t) := by
  simp [rowT, csT, kl]
theorem src_row {w : World} {g n k : Nat} {t : Nat} (h : w.heap[g]? = some (.cells (rowT n k t).toArray 47 (0, 0))) (m : Nat) (hm : m ≤ k) :
    ∀ j v, (csT m t)[j]? = some v → w.cell? ((⟨g, 0, none⟩ : Addr).add j) = some v := fun j v hj => by
  obtain ⟨hj, rfl⟩ := csT_at _ _ _ _ hj
  have hadd : (⟨g, 0, none⟩ : Addr).add j = ⟨g, j, none⟩ := by unfold Addr.add; split <;> simp_all
  rw [hadd, cell_of_row _ _ _ _ _ _ h, List.getElem?_toArray]
  exact rowT_at _ _ _ _ (by omega)
theorem smake (n : Nat) (h : n ≤ 6) (t : Nat) (w : World) :
    (Instr.makeSlice 23 (.int .i64 (n : Int)) (.int .i64 (n : Int))).run Try.prog w = .ok (.slice (some ⟨w.heap.size, 0, none⟩) n n) (w.alloc (.cells (rowT n 0 t).toArray 47)) := by
  obtain ⟨i, hi, hz, hs, hb⟩ := info_parts info46
  have := run_makeSlice (P := Try.prog) (w := w) 23 47 i (.int .u32 0) Try.underlying23 hi hz .i64 .i64 n n (by omega) (by omega) (by rw [hs]; omega) (by rw [hb]; omega) (by omega)
  rw [this]
  have e : madeCells (Value.int .u32 0).cells (n * 1) = (rowT n 0 t).toArray := by
    apply Array.ext
    · simp [madeCells, rowT, csT]
    · intro i h1 h2
      simp [madeCells, Value.cells, Nat.mod_one, rowT, csT]
  simp only [Int.toNat_natCast, hs, e]
set_option maxHeartbeats 400000 in
theorem mul64 (n : Nat) (h : n ≤ 6) (w : World) : Calls Try.prog 46 #[.int .u64 1, .int .u64 n] w fun e w' => e = .returned (.tuple #[.int .u64 0, .int .u64 n]) ∧ w = w' := by
  have : n = 0 ∨ n = 1 ∨ n = 2 ∨ n = 3 ∨ n = 4 ∨ n = 5 ∨ n = 6 := by omega
  rcases this with rfl | rfl | rfl | rfl | rfl | rfl | rfl
  all_goals
    go_enter Try.func46, Try.ntmps46
    go_wp2_with fail
    go_ret2
    exact ⟨rfl, rfl⟩
set_option maxHeartbeats 400000 in
theorem mul1 (n : Nat) (h : n ≤ 6) (w : World) : Calls Try.prog 42 #[.int .u64 1, .int .u64 n] w fun e w' => e = .returned (.tuple #[.int .u64 0, .int .u64 n]) ∧ w = w' := by
  have HH := hid (mul64 n h)
  go_enter Try.func42, Try.ntmps42
  go_wp2_with (go_at_call 46; refine (HH.out _).mono ?_; rintro e w' ⟨rfl, rfl⟩)
  go_ret2
  exact ⟨rfl, rfl⟩
set_option maxRecDepth 100000 in
set_option maxHeartbeats 1000000 in
theorem repeat_one (b c n : Nat) (t : Nat) (w : World) (h1 : 1 ≤ n) (h2 : n ≤ 6) (hc : w.cell? ⟨b, 0, none⟩ = some (.int .u32 (t : Int))) (hbw : b < w.heap.size) :
    Calls Try.prog 36 #[.slice (some ⟨b, 0, none⟩) 1 c, .int .i64 n] w fun e w' => ∃ g, e = .returned (.slice (some ⟨g, 0, none⟩) n n) ∧ w'.heap[g]? = some (.cells (kl (List.replicate n t)).toArray 47 (0, 0)) ∧ w.heap.size ≤ g ∧ Below w.heap.size w w' := by
  have hm := smake n h2 t w
  have HC := hid hc; clear hc
  go_enter Try.func36, Try.ntmps36
  go_wp2_with (first
    | (go_at_call 42; refine (mul1 n h2 _).mono ?_; rintro e w' ⟨rfl, rfl⟩)
    | refine wpList_copy_splice rfl (.tmp 31) (.tmp 32) 23 23 rfl 47 Try.underlying23 size46 _ _ _ _ _ _ rfl rfl w.heap.size 0 (rowT n 0 t) 47 (heap_alloc_new _ _) (csT 1 t) ?d1 ?d2 ?d3 (csT_one 1 t) w.heap.size w ((Below.refl w.heap.size w).alloc (Nat.le_refl _) _) (Nat.le_refl _) ?_)
  case d1 => rw [csT_length]; exact (Nat.min_eq_left h1).symm
  case d2 =>
    intro _ j v hj
    obtain ⟨hj, rfl⟩ := csT_at _ _ _ _ hj
    obtain rfl : j = 0 := by omega
    exact HC.out
  case d3 => rw [csT_length, rowT_length _ _ _ (by omega)]; omega
  intro w1 hg1 hb1
  have hg1 := hg1.out
  rw [rowT_more, Nat.zero_add] at hg1
  have HG1 := hid hg1; have HB1 := hid hb1; clear hg1 hb1 hm
  generalize hg : w.heap.size = g at HG1 HB1 hbw ⊢
  go_wp2_with fail
  go_loopw [8] (fun i wr => ∃ k : Nat, 1 ≤ k ∧ k ≤ n ∧ i = .int .i64 k ∧ wr.heap[g]? = some (.cells (rowT n k t).toArray 47 (0, 0)) ∧ Below g w wr) (fun i _ => n - (intOf i).toNat)
  case atStart => exact ⟨1, by omega, by omega, by rw [csT_length], HG1.out, HB1.out⟩
  case round =>
    obtain ⟨k, hk1, hk2, rfl, hgr, hbr⟩ := hrel
    have HGR := hid hgr; have HBR := hid hbr; clear hgr hbr
    by_cases hlt : k < n
    · have HNE : Hid (¬ n = k) := hid (by omega)
      obtain ⟨m, hm⟩ : ∃ m, m = Nat.min k (n - k) := ⟨_, rfl⟩
      have hm1 : 1 ≤ m := by rw [hm]; exact Nat.le_min.2 ⟨hk1, by omega⟩
      have hm2 : m ≤ k := by rw [hm]; exact Nat.min_le_left _ _
      have hm3 : k + m ≤ n := by have : m ≤ n - k := by rw [hm]; exact Nat.min_le_right _ _
                                 omega
      have HM := hid hm; clear hm
      have hw : IntKind.i64.wrap ((k : Int) + (m : Int)) = (k : Int) + (m : Int) := Go.IntWalk.i64_in _ (by omega)
      have HW := hid hw; clear hw
      have hcl := csT_length m t
      go_wp2_with fail
      go_region_law ((refine step_copy_splice (by rfl) (.tmp 41) (.tmp 44) 23 23 (by rfl) 47 Try.underlying23 size46 (if n = k then some ⟨g, 0, none⟩ else some ⟨g, k, none⟩) (some ⟨g, 0, none⟩) (n - k) (n - k) k n (by go_simp) (by go_simp) g k (rowT n k t) 47 HGR.out (csT m t) ((csT_length m t).trans HM.out) (fun _ => ⟨if_neg HNE.out, _, rfl, src_row (w := wr.drew) HGR.out m hm2⟩) (by rw [csT_length, rowT_length _ _ _ hk2]; exact hm3) (csT_one _ t) g w HBR.out.drew (Nat.le_refl _) ?_); intro w4 hg4 hb4)
      all_goals
        have hg4 := hg4.out
        rw [rowT_more] at hg4
        have HG4 := hid hg4; have HB4 := hid hb4; clear hg4 hb4
        go_wp2_with fail
        go_roundw
        case rel => exact ⟨k + m, by omega, by omega, by rw [HW.out]; go_num, HG4.out, HB4.out⟩
        case measure => simp [intOf, HW.out]; omega
    · obtain rfl : k = n := by omega
      go_wp2_with fail
      go_ret
      exact ⟨g, rfl, by rw [← rowT_full]; exact HGR.out, Nat.le_of_eq hg, hg ▸ HBR.out⟩

/-- a new box of two points of the call's own -/
def OwnBox (w : World) (D : Nat) (e : Ending) (w' : World) : Prop :=
  ∃ gl gh, e = .returned (.agg #[.slice (some ⟨gl, 0, none⟩) D D, .slice (some ⟨gh, 0, none⟩) D D]) ∧ Own w' gl (List.replicate D 0) ∧ Own w' gh (List.replicate D 4294967295) ∧ gl ≠ gh ∧ w.heap.size ≤ gl ∧ w.heap.size ≤ gh ∧ Below w.heap.size w w'
set_option maxRecDepth 100000 in
set_option maxHeartbeats 2000000 in
theorem whole_two (D : Nat) (w : World) (hd : 1 ≤ (D : Int) ∧ (D : Int) ≤ 6) : Calls Try.prog 24 #[.int .i64 (D : Int)] w (OwnBox w D) := by
  obtain ⟨oz, hoz⟩ : ∃ o, o = Obj.cells #[Value.slice none 0 0, .slice none 0 0] 25 := ⟨_, rfl⟩
  have HB0 := hid (below_alloc w oz)
  have HZ0 := hid (heap_alloc_new w oz)
  subst hoz
  have HM := hid fun w' => may_ok (D : Int) w'
  have hm : mayB (D : Int) = true := by simp [mayB]; omega
  have HD := hid (show 1 ≤ D ∧ D ≤ 6 by omega)
  have hmk := kmake D (by omega)
  have z0 : Below w.heap.size w (w.alloc (.cells #[Value.slice none 0 0, .slice none 0 0] 25)) := HB0.out
  have s0 : (w.alloc (.cells #[Value.slice none 0 0, .slice none 0 0] 25)).heap.size = w.heap.size + 1 := by simp
  have t1 := three_new w (.cells #[Value.slice none 0 0, .slice none 0 0] 25) (.cells (kcs (List.replicate D 0)) 47) (.cells #[Value.int .u32 4294967295] 47)
  have t2 := three_new w (.cells #[Value.slice none 0 0, .slice none 0 0] 25) (.cells #[Value.int .u32 4294967295] 47) (.cells (kcs (List.replicate D 0)) 47)
  have t2' : ((w.alloc (.cells #[Value.slice none 0 0, .slice none 0 0] 25)).alloc (.cells #[Value.int .u32 4294967295] 47)).heap[w.heap.size]? = some (.cells #[Value.slice none 0 0, .slice none 0 0] 25) := by rw [Below.heap_alloc _ _ _ (by simp)]; exact HZ0.out
  have HR1 := hid (repeat_one (w.heap.size + 1 + 1) 1 D 4294967295 ((((w.alloc (.cells #[Value.slice none 0 0, .slice none 0 0] 25)).alloc (.cells (kcs (List.replicate D 0)) 47)).alloc (.cells #[Value.int .u32 4294967295] 47)).drew) HD.out.1 HD.out.2 (by rw [cell_of_row _ _ _ _ _ _ (show ((((w.alloc (.cells #[Value.slice none 0 0, .slice none 0 0] 25)).alloc (.cells (kcs (List.replicate D 0)) 47)).alloc (.cells #[Value.int .u32 4294967295] 47)).drew).heap[w.heap.size + 1 + 1]? = _ from t1.2.2.1)]; rfl) (by have := t1.2.2.2; simp))
  have HR2 := hid (repeat_one (w.heap.size + 1) 1 D 4294967295 ((((w.alloc (.cells #[Value.slice none 0 0, .slice none 0 0] 25)).alloc (.cells #[Value.int .u32 4294967295] 47)).alloc (.cells (kcs (List.replicate D 0)) 47)).drew) HD.out.1 HD.out.2 (by rw [cell_of_row _ _ _ _ _ _ (show ((((w.alloc (.cells #[Value.slice none 0 0, .slice none 0 0] 25)).alloc (.cells #[Value.int .u32 4294967295] 47)).alloc (.cells (kcs (List.replicate D 0)) 47)).drew).heap[w.heap.size + 1]? = _ from t2.2.1)]; rfl) (by have := t2.2.2.2; simp))
  have HR3 := hid (repeat_one (w.heap.size + 1) 1 D 4294967295 (((w.alloc (.cells #[Value.slice none 0 0, .slice none 0 0] 25)).alloc (.cells #[Value.int .u32 4294967295] 47)).drew) HD.out.1 HD.out.2 (by rw [cell_of_row _ _ _ _ _ _ (show (((w.alloc (.cells #[Value.slice none 0 0, .slice none 0 0] 25)).alloc (.cells #[Value.int .u32 4294967295] 47)).drew).heap[w.heap.size + 1]? = _ by have := heap_alloc_new (w.alloc (.cells #[Value.slice none 0 0, .slice none 0 0] 25)) (.cells #[Value.int .u32 4294967295] 47); rw [s0] at this; exact this)]; rfl) (by simp))
  have HW1 := hid (show Below w.heap.size w ((((w.alloc (.cells #[Value.slice none 0 0, .slice none 0 0] 25)).alloc (.cells (kcs (List.replicate D 0)) 47)).alloc (.cells #[Value.int .u32 4294967295] 47)).drew) ∧ ((((w.alloc (.cells #[Value.slice none 0 0, .slice none 0 0] 25)).alloc (.cells (kcs (List.replicate D 0)) 47)).alloc (.cells #[Value.int .u32 4294967295] 47)).drew).heap[w.heap.size]? = some (.cells #[Value.slice none 0 0, .slice none 0 0] 25) ∧ Own ((((w.alloc (.cells #[Value.slice none 0 0, .slice none 0 0] 25)).alloc (.cells (kcs (List.replicate D 0)) 47)).alloc (.cells #[Value.int .u32 4294967295] 47)).drew) (w.heap.size + 1) (List.replicate D 0) from ⟨((z0.alloc z0.size _).alloc (z0.alloc z0.size _).size _).drew, t1.1, t1.2.1⟩)
  have HW2 := hid (show Below w.heap.size w ((((w.alloc (.cells #[Value.slice none 0 0, .slice none 0 0] 25)).alloc (.cells #[Value.int .u32 4294967295] 47)).alloc (.cells (kcs (List.replicate D 0)) 47)).drew) ∧ ((((w.alloc (.cells #[Value.slice none 0 0, .slice none 0 0] 25)).alloc (.cells #[Value.int .u32 4294967295] 47)).alloc (.cells (kcs (List.replicate D 0)) 47)).drew).heap[w.heap.size]? = some (.cells #[Value.slice none 0 0, .slice none 0 0] 25) ∧ Own ((((w.alloc (.cells #[Value.slice none 0 0, .slice none 0 0] 25)).alloc (.cells #[Value.int .u32 4294967295] 47)).alloc (.cells (kcs (List.replicate D 0)) 47)).drew) (w.heap.size + 1 + 1) (List.replicate D 0) from ⟨((z0.alloc z0.size _).alloc (z0.alloc z0.size _).size _).drew, t2.1, t2.2.2.1⟩)
  have HW3 := hid (show Below w.heap.size w (((w.alloc (.cells #[Value.slice none 0 0, .slice none 0 0] 25)).alloc (.cells #[Value.int .u32 4294967295] 47)).drew) ∧ (((w.alloc (.cells #[Value.slice none 0 0, .slice none 0 0] 25)).alloc (.cells #[Value.int .u32 4294967295] 47)).drew).heap[w.heap.size]? = some (.cells #[Value.slice none 0 0, .slice none 0 0] 25) from ⟨(z0.alloc z0.size _).drew, t2'⟩)
  clear z0 s0 t1 t2 t2'
  rw [hm] at HM
  clear hm hd
  go_enter Try.func24, Try.ntmps24
  go_wp2_with (go_at_call 23; refine (HM.out _).mono ?_; rintro e w' ⟨rfl, rfl⟩)
  clear HM
  go_region_held3 (fun _ => True) (exact trivial) (first
    | (go_at_call 36; (with_reducible refine HR1.out.mono ?_); rintro e w4 ⟨g, rfl, hg, hge, hb⟩; have HG : Hid (Own w4 g (List.replicate D 4294967295)) := hid hg; have HB4 := hid (HW1.out.1.trans (hb.mono HW1.out.1.size)); have HZ4 := hid ((hb.block _ (lt_of HW1.out.2.1)).trans HW1.out.2.1); have HM4 := hid (HW1.out.2.2.below hb); have HGE := hid (Nat.le_trans (show w.heap.size + 1 + 1 + 1 ≤ _ by simp) hge); have z4 := zero_cells HZ4.out; clear hg hge hb)
    | (go_at_call 36; (with_reducible refine HR2.out.mono ?_); rintro e w4 ⟨g, rfl, hg, hge, hb⟩; have HG : Hid (Own w4 g (List.replicate D 4294967295)) := hid hg; have HB4 := hid (HW2.out.1.trans (hb.mono HW2.out.1.size)); have HZ4 := hid ((hb.block _ (lt_of HW2.out.2.1)).trans HW2.out.2.1); have HM4 := hid (HW2.out.2.2.below hb); have HGE := hid (Nat.le_trans (show w.heap.size + 1 + 1 + 1 ≤ _ by simp) hge); have z4 := zero_cells HZ4.out; clear hg hge hb)
    | (go_at_call 36; (with_reducible refine HR3.out.mono ?_); rintro e w4 ⟨g, rfl, hg, hge, hb⟩; have HG : Hid (Own w4 g (List.replicate D 4294967295)) := hid hg; have HB4 := hid (HW3.out.1.trans (hb.mono HW3.out.1.size)); have HZ4 := hid ((hb.block _ (lt_of HW3.out.2)).trans HW3.out.2); have HGE := hid (Nat.le_trans (show w.heap.size + 1 + 1 ≤ _ by simp) hge); have z4 := zero_cells HZ4.out; have hl4 := lt_of HZ4.out; have hn4 := Nat.ne_of_lt hl4; have z5 := zero_cells (V := w4.alloc (.cells (kcs (List.replicate D 0)) 47)) ((Below.heap_alloc _ _ _ hl4).trans HZ4.out); clear hg hge hb)
    | fail)
  · have HS := hid (store_out (lo := List.replicate D 0) (hi := List.replicate D 4294967295) HB4.out (Nat.le_refl _) HZ4.out (HM4.out.pt (rep_fit _ _ (by omega))) (HG.out.pt (rep_fit _ _ (by omega))) (.slice (some ⟨w.heap.size + 1, 0, none⟩) D D) (.slice (some ⟨g, 0, none⟩) D D) (by simp))
    have z2 := HS.out.2.2.2
    go_wp2_with fail
    refine bodyPost_ret (v := .agg #[.slice (some ⟨w.heap.size + 1, 0, none⟩) D D, .slice (some ⟨g, 0, none⟩) D D]) (by simp [results, Try.results24, go_sem, z2]) rfl ?_
    have hge := HGE.out
    exact ⟨_, _, rfl, (HM4.out.far (p := ⟨w.heap.size, 0, none⟩) (by show _ ≠ w.heap.size; omega) _).far (p := ⟨w.heap.size, 1, none⟩) (by show _ ≠ w.heap.size; omega) _, (HG.out.far (p := ⟨w.heap.size, 0, none⟩) (by show _ ≠ w.heap.size; omega) _).far (p := ⟨w.heap.size, 1, none⟩) (by show _ ≠ w.heap.size; omega) _, by omega, by omega, by omega, HS.out.2.2.1⟩
  · have HS := hid (store_out (lo := List.replicate D 0) (hi := List.replicate D 4294967295) HB4.out (Nat.le_refl _) HZ4.out (HM4.out.pt (rep_fit _ _ (by omega))) (HG.out.pt (rep_fit _ _ (by omega))) (.slice (some ⟨w.heap.size + 1 + 1, 0, none⟩) D D) (.slice (some ⟨g, 0, none⟩) D D) (by simp))
    have z2 := HS.out.2.2.2
    go_wp2_with fail
    refine bodyPost_ret (v := .agg #[.slice (some ⟨w.heap.size + 1 + 1, 0, none⟩) D D, .slice (some ⟨g, 0, none⟩) D D]) (by simp [results, Try.results24, go_sem, z2]) rfl ?_
    have hge := HGE.out
    exact ⟨_, _, rfl, (HM4.out.far (p := ⟨w.heap.size, 0, none⟩) (by show _ ≠ w.heap.size; omega) _).far (p := ⟨w.heap.size, 1, none⟩) (by show _ ≠ w.heap.size; omega) _, (HG.out.far (p := ⟨w.heap.size, 0, none⟩) (by show _ ≠ w.heap.size; omega) _).far (p := ⟨w.heap.size, 1, none⟩) (by show _ ≠ w.heap.size; omega) _, by omega, by omega, by omega, HS.out.2.2.1⟩
  · have HS := hid (store_out (lo := []) (hi := List.replicate D 4294967295) (A := none) HB4.out (Nat.le_refl _) HZ4.out (Pt.nil _ _) (HG.out.pt (rep_fit _ _ (by omega))) (.slice (some ⟨w4.heap.size, 0, none⟩) D D) (.slice (some ⟨g, 0, none⟩) D D) (by simp))
    have hsz : ((w4.setCell ⟨w.heap.size, 0, none⟩ (.slice (some ⟨w4.heap.size, 0, none⟩) D D)).setCell ⟨w.heap.size, 1, none⟩ (.slice (some ⟨g, 0, none⟩) D D)).heap.size = w4.heap.size := by rw [World.size_setCell, World.size_setCell]
    have HO : Hid (Own (((w4.setCell ⟨w.heap.size, 0, none⟩ (.slice (some ⟨w4.heap.size, 0, none⟩) D D)).setCell ⟨w.heap.size, 1, none⟩ (.slice (some ⟨g, 0, none⟩) D D)).alloc (.cells (kcs (List.replicate D 0)) 47)) w4.heap.size (List.replicate D 0)) := hid (by have := heap_alloc_new ((w4.setCell ⟨w.heap.size, 0, none⟩ (.slice (some ⟨w4.heap.size, 0, none⟩) D D)).setCell ⟨w.heap.size, 1, none⟩ (.slice (some ⟨g, 0, none⟩) D D)) (.cells (kcs (List.replicate D 0)) 47); rw [hsz] at this; exact this)
    have z2 := HS.out.2.2.2
    have z3 : (((w4.setCell ⟨w.heap.size, 0, none⟩ (.slice (some ⟨w4.heap.size, 0, none⟩) D D)).setCell ⟨w.heap.size, 1, none⟩ (.slice (some ⟨g, 0, none⟩) D D)).alloc (.cells (kcs (List.replicate D 0)) 47)).cell? ⟨w.heap.size, 0, none⟩ = some (.slice (some ⟨w4.heap.size, 0, none⟩) D D) ∧ (((w4.setCell ⟨w.heap.size, 0, none⟩ (.slice (some ⟨w4.heap.size, 0, none⟩) D D)).setCell ⟨w.heap.size, 1, none⟩ (.slice (some ⟨g, 0, none⟩) D D)).alloc (.cells (kcs (List.replicate D 0)) 47)).cell? ⟨w.heap.size, 1, none⟩ = some (.slice (some ⟨g, 0, none⟩) D D) :=
      ⟨(World.cell?_alloc_lt _ _ _ (by show w.heap.size < _; rw [hsz]; exact hl4)).trans z2.1, (World.cell?_alloc_lt _ _ _ (by show w.heap.size < _; rw [hsz]; exact hl4)).trans z2.2⟩
    go_wp2_with fail
    refine bodyPost_ret (v := .agg #[.slice (some ⟨w4.heap.size, 0, none⟩) D D, .slice (some ⟨g, 0, none⟩) D D]) (by simp [results, Try.results24, go_sem, z3]) rfl ?_
    have hge := HGE.out
    have hgl := HG.out.lt
    exact ⟨_, _, rfl, HO.out, ((HG.out.far (p := ⟨w.heap.size, 0, none⟩) (by show _ ≠ w.heap.size; omega) _).far (p := ⟨w.heap.size, 1, none⟩) (by show _ ≠ w.heap.size; omega) _).alloc _, by omega, by omega, by omega, HS.out.2.2.1.alloc HS.out.2.2.1.size _⟩
set_option maxRecDepth 100000 in
set_option maxHeartbeats 2000000 in
theorem whole_ok (dim : Int) (w : World) : Calls Try.prog 24 #[.int .i64 dim] w (OneBox w (wholeLo dim) (wholeHi dim)) := by
  by_cases hd : 1 ≤ dim ∧ dim ≤ 6
  · obtain ⟨D, rfl⟩ : ∃ D : Nat, dim = (D : Int) := ⟨dim.toNat, by omega⟩
    have e1 : wholeLo (D : Int) = List.replicate D 0 := by unfold wholeLo lowW; rw [if_pos hd]; rfl
    have e2 : wholeHi (D : Int) = List.replicate D 4294967295 := by unfold wholeHi highW; rw [if_pos hd]; rfl
    refine (whole_two D w hd).mono fun e w' h => ?_
    obtain ⟨gl, gh, rfl, h1, h2, _, _, _, hb⟩ := h
    rw [e1, e2]
    exact ⟨_, D, _, D, by rw [List.length_replicate, List.length_replicate], h1.pt (rep_fit _ _ (by omega)), h2.pt (rep_fit _ _ (by omega)), hb⟩
  · obtain ⟨oz, hoz⟩ : ∃ o, o = Obj.cells #[Value.slice none 0 0, .slice none 0 0] 25 := ⟨_, rfl⟩
    have HB0 := hid (below_alloc w oz)
    have HZ0 := hid (heap_alloc_new w oz)
    subst hoz
    have HM := hid fun w' => may_ok dim w'
    have hm : mayB dim = false := by simp [mayB]; omega
    have HLo : Hid (wholeLo dim = []) := hid (by unfold wholeLo; rw [if_neg hd])
    have HHi : Hid (wholeHi dim = []) := hid (by unfold wholeHi; rw [if_neg hd])
    rw [hm] at HM
    clear hm hd
    have z := zero_cells HZ0.out
    have HS := hid (store_out (lo := []) (hi := []) (A := none) (A' := none) HB0.out (Nat.le_refl _) HZ0.out (Pt.nil _ _) (Pt.nil _ _) (.slice none 0 0) (.slice none 0 0) (by simp))
    go_enter Try.func24, Try.ntmps24
    go_wp2_with (go_at_call 23; refine (HM.out _).mono ?_; rintro e w' ⟨rfl, rfl⟩)
    have z2 := HS.out.2.2.2
    refine bodyPost_ret (v := .agg #[.slice none 0 0, .slice none 0 0]) (by simp [results, Try.results24, go_sem]) rfl ?_
    rw [HLo.out, HHi.out]
    exact ⟨none, 0, none, 0, rfl, Pt.nil _ _, Pt.nil _ _, by first | exact HS.out.2.2.1 | exact HB0.out⟩
end Go.Proofs.Ytolnbamdddiifaa.Ky
