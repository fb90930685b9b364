/- Repeat of slices, for one int. -/
import Derived.Test.YtpbidpgpehicmaaSlRow
namespace Go.Proofs.Ytpbidpgpehicmaa.Sl
open Go.RowKit
open Go.Lib (hid)

theorem size46 : (Try.prog.info? 3).map (·.size) = some 1 := by kernel_rfl
/-- so many of one text, as cells -/
def csT (m : Nat) (t : Int) : List Value := List.replicate m (.int .i64 t)
/-- a row of n texts of which the first k are laid -/
def rowT (n k : Nat) (t : Int) : List Value := csT k t ++ csT (n - k) 0
theorem csT_length (m : Nat) (t : Int) : (csT m t).length = m := by simp [csT]
theorem rowT_length (n k : Nat) (t : Int) (h : k ≤ n) : (rowT n k t).length = n := by simp [rowT, csT]; omega
theorem rowT_more (n k m : Nat) (t : Int) : splice (rowT n k t) k (csT m t) = rowT n (k + m) t := by
  unfold splice rowT csT
  rw [List.take_append_of_le_length (by simp), List.drop_append, List.length_replicate, List.length_replicate, List.take_of_length_le (by simp)]
  have e1 : k + m - k = m := by omega
  have e2 : (List.replicate k (Value.int .i64 t)).drop (k + m) = [] := by simp
  rw [e1, e2, List.nil_append, List.drop_replicate, ← List.append_assoc, List.replicate_append_replicate]
  have e3 : n - k - m = n - (k + m) := by omega
  rw [e3]
theorem csT_at (m : Nat) (t : Int) (j : Nat) (v : Value) (h : (csT m t)[j]? = some v) : j < m ∧ v = .int .i64 t := by
  unfold csT at h
  rw [List.getElem?_replicate] at h
  by_cases hj : j < m
  · rw [if_pos hj] at h; exact ⟨hj, by injection h with h; exact h.symm⟩
  · rw [if_neg hj] at h; cases h
theorem csT_one (m : Nat) (t : Int) : ∀ v ∈ csT m t, v.oneCell' = true := fun v hv => by
  unfold csT at hv
  rw [(List.mem_replicate.1 hv).2]; rfl
theorem rowT_at (n k : Nat) (t : Int) (j : Nat) (hj : j < k) : (rowT n k t)[j]? = some (.int .i64 t) := by
  unfold rowT csT
  rw [List.getElem?_append_left (by simpa using hj)]
  simp [hj]
theorem rowT_full (n : Nat) (t : Int) : rowT n n t = iv (List.replicate n t) := by
  simp [rowT, csT, iv]
theorem src_row {w : World} {g n k : Nat} {t : Int} (h : w.heap[g]? = some (.cells (rowT n k t).toArray 3 (0, 0))) (m : Nat) (hm : m ≤ k) :
    ∀ j v, (csT m t)[j]? = some v → w.cell? ((⟨g, 0, none⟩ : Addr).add j) = some v := fun j v hj => by
  obtain ⟨hj, rfl⟩ := csT_at _ _ _ _ hj
  have hadd : (⟨g, 0, none⟩ : Addr).add j = ⟨g, j, none⟩ := by unfold Addr.add; split <;> simp_all
  rw [hadd, cell_of_row _ _ _ _ _ _ h, List.getElem?_toArray]
  exact rowT_at _ _ _ _ (by omega)
theorem smake (n : Nat) (h : n ≤ 6) (t : Int) (w : World) :
    (Instr.makeSlice 30 (.int .i64 (n : Int)) (.int .i64 (n : Int))).run Try.prog w = .ok (.slice (some ⟨w.heap.size, 0, none⟩) n n) (w.alloc (.cells (rowT n 0 t).toArray 3)) := by
  obtain ⟨i, hi, hz, hs, hb⟩ := info_parts iinfo
  have := run_makeSlice (P := Try.prog) (w := w) 30 3 i (.int .i64 0) Try.underlying30 hi hz .i64 .i64 n n (by omega) (by omega) (by rw [hs]; omega) (by rw [hb]; omega) (by omega)
  rw [this]
  have e : madeCells (Value.int .i64 0).cells (n * 1) = (rowT n 0 t).toArray := by
    apply Array.ext
    · simp [madeCells, rowT, csT]
    · intro i h1 h2
      simp [madeCells, Value.cells, Nat.mod_one, rowT, csT]
  simp only [Int.toNat_natCast, hs, e]
set_option maxHeartbeats 400000 in
theorem mul64 (n : Nat) (h : n ≤ 6) (w : World) : Calls Try.prog 50 #[.int .u64 1, .int .u64 n] w fun e w' => e = .returned (.tuple #[.int .u64 0, .int .u64 n]) ∧ w = w' := by
  have : n = 0 ∨ n = 1 ∨ n = 2 ∨ n = 3 ∨ n = 4 ∨ n = 5 ∨ n = 6 := by omega
  rcases this with rfl | rfl | rfl | rfl | rfl | rfl | rfl
  all_goals
    go_enter Try.func50, Try.ntmps50
    go_wp2_with fail
    go_ret2
    exact ⟨rfl, rfl⟩
set_option maxHeartbeats 400000 in
theorem mul1 (n : Nat) (h : n ≤ 6) (w : World) : Calls Try.prog 44 #[.int .u64 1, .int .u64 n] w fun e w' => e = .returned (.tuple #[.int .u64 0, .int .u64 n]) ∧ w = w' := by
  have HH := hid (mul64 n h)
  go_enter Try.func44, Try.ntmps44
  go_wp2_with (go_at_call 50; refine (HH.out _).mono ?_; rintro e w' ⟨rfl, rfl⟩)
  go_ret2
  exact ⟨rfl, rfl⟩
set_option maxRecDepth 100000 in
set_option maxHeartbeats 1000000 in
theorem repeat_one (b c n : Nat) (t : Int) (w : World) (h1 : 1 ≤ n) (h2 : n ≤ 6) (hc : w.cell? ⟨b, 0, none⟩ = some (.int .i64 t)) (hbw : b < w.heap.size) :
    Calls Try.prog 31 #[.slice (some ⟨b, 0, none⟩) 1 c, .int .i64 n] w fun e w' => ∃ g, e = .returned (.slice (some ⟨g, 0, none⟩) n n) ∧ w'.heap[g]? = some (.cells (iv (List.replicate n t)).toArray 3 (0, 0)) ∧ w.heap.size ≤ g ∧ Below w.heap.size w w' := by
  have hm := smake n h2 t w
  have HC := hid hc; clear hc
  go_enter Try.func31, Try.ntmps31
  go_wp2_with (first
    | (go_at_call 44; refine (mul1 n h2 _).mono ?_; rintro e w' ⟨rfl, rfl⟩)
    | refine wpList_copy_splice rfl (.tmp 31) (.tmp 32) 30 30 rfl 3 Try.underlying30 size46 _ _ _ _ _ _ rfl rfl w.heap.size 0 (rowT n 0 t) 3 (heap_alloc_new _ _) (csT 1 t) ?d1 ?d2 ?d3 (csT_one 1 t) w.heap.size w ((Below.refl w.heap.size w).alloc (Nat.le_refl _) _) (Nat.le_refl _) ?_)
  case d1 => rw [csT_length]; exact (Nat.min_eq_left h1).symm
  case d2 =>
    intro _ j v hj
    obtain ⟨hj, rfl⟩ := csT_at _ _ _ _ hj
    obtain rfl : j = 0 := by omega
    exact HC.out
  case d3 => rw [csT_length, rowT_length _ _ _ (by omega)]; omega
  intro w1 hg1 hb1
  have hg1 := hg1.out
  rw [rowT_more, Nat.zero_add] at hg1
  have HG1 := hid hg1; have HB1 := hid hb1; clear hg1 hb1 hm
  generalize hg : w.heap.size = g at HG1 HB1 hbw ⊢
  go_wp2_with fail
  go_loopw [8] (fun i wr => ∃ k : Nat, 1 ≤ k ∧ k ≤ n ∧ i = .int .i64 k ∧ wr.heap[g]? = some (.cells (rowT n k t).toArray 3 (0, 0)) ∧ Below g w wr) (fun i _ => n - (intOf i).toNat)
  case atStart => exact ⟨1, by omega, by omega, by rw [csT_length], HG1.out, HB1.out⟩
  case round =>
    obtain ⟨k, hk1, hk2, rfl, hgr, hbr⟩ := hrel
    have HGR := hid hgr; have HBR := hid hbr; clear hgr hbr
    by_cases hlt : k < n
    · have HNE : Hid (¬ n = k) := hid (by omega)
      obtain ⟨m, hm⟩ : ∃ m, m = Nat.min k (n - k) := ⟨_, rfl⟩
      have hm1 : 1 ≤ m := by rw [hm]; exact Nat.le_min.2 ⟨hk1, by omega⟩
      have hm2 : m ≤ k := by rw [hm]; exact Nat.min_le_left _ _
      have hm3 : k + m ≤ n := by have : m ≤ n - k := by rw [hm]; exact Nat.min_le_right _ _
                                 omega
      have HM := hid hm; clear hm
      have hw : IntKind.i64.wrap ((k : Int) + (m : Int)) = (k : Int) + (m : Int) := Go.IntWalk.i64_in _ (by omega)
      have HW := hid hw; clear hw
      have hcl := csT_length m t
      go_wp2_with fail
      go_region_law ((refine step_copy_splice (by rfl) (.tmp 41) (.tmp 44) 30 30 (by rfl) 3 Try.underlying30 size46 (if n = k then some ⟨g, 0, none⟩ else some ⟨g, k, none⟩) (some ⟨g, 0, none⟩) (n - k) (n - k) k n (by go_simp) (by go_simp) g k (rowT n k t) 3 HGR.out (csT m t) ((csT_length m t).trans HM.out) (fun _ => ⟨if_neg HNE.out, _, rfl, src_row (w := wr.drew) HGR.out m hm2⟩) (by rw [csT_length, rowT_length _ _ _ hk2]; exact hm3) (csT_one _ t) g w HBR.out.drew (Nat.le_refl _) ?_); intro w4 hg4 hb4)
      all_goals
        have hg4 := hg4.out
        rw [rowT_more] at hg4
        have HG4 := hid hg4; have HB4 := hid hb4; clear hg4 hb4
        go_wp2_with fail
        go_roundw
        case rel => exact ⟨k + m, by omega, by omega, by rw [HW.out]; go_num, HG4.out, HB4.out⟩
        case measure => simp [intOf, HW.out]; omega
    · obtain rfl : k = n := by omega
      go_wp2_with fail
      go_ret
      exact ⟨g, rfl, by rw [← rowT_full]; exact HGR.out, Nat.le_of_eq hg, hg ▸ HBR.out⟩

end Go.Proofs.Ytpbidpgpehicmaa.Sl
