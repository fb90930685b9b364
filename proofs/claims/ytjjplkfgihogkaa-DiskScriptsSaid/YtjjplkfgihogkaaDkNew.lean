/- Repeat of slices, for one text, and New of disk. -/
import Derived.Test.YtjjplkfgihogkaaDkOf
import Derived.Laws.CopyOwn
namespace Go.Proofs.Ytjjplkfgihogkaa.Dk
open Go.RowKit
open Go.Lib (hid)

theorem info9 : (Try.prog.info? 9).map (fun i => (i.zero, i.size, i.bytes)) = some (some (.string ⟨#[]⟩), 1, 16) := by kernel_rfl
theorem size9 : (Try.prog.info? 9).map (·.size) = some 1 := by kernel_rfl
/-- so many of one text, as cells -/
def csT (m : Nat) (t : ByteArray) : List Value := List.replicate m (.string t)
/-- a row of n texts of which the first k are laid -/
def rowT (n k : Nat) (t : ByteArray) : List Value := csT k t ++ csT (n - k) ⟨#[]⟩
theorem csT_length (m : Nat) (t : ByteArray) : (csT m t).length = m := by simp [csT]
theorem rowT_length (n k : Nat) (t : ByteArray) (h : k ≤ n) : (rowT n k t).length = n := by simp [rowT, csT]; omega
theorem rowT_more (n k m : Nat) (t : ByteArray) : splice (rowT n k t) k (csT m t) = rowT n (k + m) t := by
  unfold splice rowT csT
  rw [List.take_append_of_le_length (by simp), List.drop_append, List.length_replicate, List.length_replicate, List.take_of_length_le (by simp)]
  have e1 : k + m - k = m := by omega
  have e2 : (List.replicate k (Value.string t)).drop (k + m) = [] := by simp
  rw [e1, e2, List.nil_append, List.drop_replicate, ← List.append_assoc, List.replicate_append_replicate]
  have e3 : n - k - m = n - (k + m) := by omega
  rw [e3]
theorem csT_at (m : Nat) (t : ByteArray) (j : Nat) (v : Value) (h : (csT m t)[j]? = some v) : j < m ∧ v = .string t := by
  unfold csT at h
  rw [List.getElem?_replicate] at h
  by_cases hj : j < m
  · rw [if_pos hj] at h; exact ⟨hj, by injection h with h; exact h.symm⟩
  · rw [if_neg hj] at h; cases h
theorem csT_one (m : Nat) (t : ByteArray) : ∀ v ∈ csT m t, v.oneCell' = true := fun v hv => by
  unfold csT at hv
  rw [(List.mem_replicate.1 hv).2]; rfl
theorem rowT_at (n k : Nat) (t : ByteArray) (j : Nat) (hj : j < k) : (rowT n k t)[j]? = some (.string t) := by
  unfold rowT csT
  rw [List.getElem?_append_left (by simpa using hj)]
  simp [hj]
theorem rowT_full (n : Nat) (t : ByteArray) : rowT n n t = sv (List.replicate n t) := by
  simp [rowT, csT, sv]
theorem src_row {w : World} {g n k : Nat} {t : ByteArray} (h : w.heap[g]? = some (.cells (rowT n k t).toArray 9 (0, 0))) (m : Nat) (hm : m ≤ k) :
    ∀ j v, (csT m t)[j]? = some v → w.cell? ((⟨g, 0, none⟩ : Addr).add j) = some v := fun j v hj => by
  obtain ⟨hj, rfl⟩ := csT_at _ _ _ _ hj
  have hadd : (⟨g, 0, none⟩ : Addr).add j = ⟨g, j, none⟩ := by unfold Addr.add; split <;> simp_all
  rw [hadd, cell_of_row _ _ _ _ _ _ h, List.getElem?_toArray]
  exact rowT_at _ _ _ _ (by omega)
theorem smake (n : Nat) (h : n ≤ 1000) (t : ByteArray) (w : World) :
    (Instr.makeSlice 40 (.int .i64 (n : Int)) (.int .i64 (n : Int))).run Try.prog w = .ok (.slice (some ⟨w.heap.size, 0, none⟩) n n) (w.alloc (.cells (rowT n 0 t).toArray 9)) := by
  obtain ⟨i, hi, hz, hs, hb⟩ := info_parts info9
  have := run_makeSlice (P := Try.prog) (w := w) 40 9 i (.string ⟨#[]⟩) Try.underlying40 hi hz .i64 .i64 n n (by omega) (by omega) (by rw [hs]; omega) (by rw [hb]; omega) (by omega)
  rw [this]
  have e : madeCells (Value.string ⟨#[]⟩).cells (n * 1) = (rowT n 0 t).toArray := by
    apply Array.ext
    · simp [madeCells, rowT, csT]
    · intro i h1 h2
      simp [madeCells, Value.cells, Nat.mod_one, rowT, csT]
  simp only [Int.toNat_natCast, hs, e]
theorem mul1 (n : Nat) (h : n ≤ 1000) (w : World) : Calls Try.prog 39 #[.int .u64 1, .int .u64 n] w fun e w' => e = .returned (.tuple #[.int .u64 0, .int .u64 n]) ∧ w = w' := by
  refine (Try.bits_Mul 1 n (by omega) (by omega) w).mono ?_
  rintro e w' ⟨rfl, rfl⟩
  refine ⟨?_, rfl⟩
  rw [Nat.one_mul, Nat.div_eq_of_lt (by omega), Nat.mod_eq_of_lt (by omega)]; rfl

set_option maxRecDepth 100000 in
set_option maxHeartbeats 1000000 in
theorem repeat_one (b c n : Nat) (t : ByteArray) (w : World) (h1 : 1 ≤ n) (h2 : n ≤ 1000) (hc : w.cell? ⟨b, 0, none⟩ = some (.string t)) (hbw : b < w.heap.size) :
    Calls Try.prog 25 #[.slice (some ⟨b, 0, none⟩) 1 c, .int .i64 n] w fun e w' => ∃ g, e = .returned (.slice (some ⟨g, 0, none⟩) n n) ∧ w'.heap[g]? = some (.cells (sv (List.replicate n t)).toArray 9 (0, 0)) ∧ w.heap.size ≤ g ∧ Below w.heap.size w w' := by
  have hm := smake n h2 t w
  have HC := hid hc; clear hc
  go_enter Try.func25, Try.ntmps25
  go_wp2_with (first
    | (go_at_call 39; refine (mul1 n h2 _).mono ?_; rintro e w' ⟨rfl, rfl⟩)
    | refine wpList_copy_splice rfl (.tmp 31) (.tmp 32) 40 40 rfl 9 Try.underlying40 size9 _ _ _ _ _ _ rfl rfl w.heap.size 0 (rowT n 0 t) 9 (heap_alloc_new _ _) (csT 1 t) ?d1 ?d2 ?d3 (csT_one 1 t) w.heap.size w ((Below.refl w.heap.size w).alloc (Nat.le_refl _) _) (Nat.le_refl _) ?_)
  case d1 => rw [csT_length]; exact (Nat.min_eq_left h1).symm
  case d2 =>
    intro _ j v hj
    obtain ⟨hj, rfl⟩ := csT_at _ _ _ _ hj
    obtain rfl : j = 0 := by omega
    exact HC.out
  case d3 => rw [csT_length, rowT_length _ _ _ (by omega)]; omega
  intro w1 hg1 hb1
  have hg1 := hg1.out
  rw [rowT_more, Nat.zero_add] at hg1
  have HG1 := hid hg1; have HB1 := hid hb1; clear hg1 hb1 hm
  generalize hg : w.heap.size = g at HG1 HB1 hbw ⊢
  go_wp2_with fail
  go_loopw [8] (fun i wr => ∃ k : Nat, 1 ≤ k ∧ k ≤ n ∧ i = .int .i64 k ∧ wr.heap[g]? = some (.cells (rowT n k t).toArray 9 (0, 0)) ∧ Below g w wr) (fun i _ => n - (intOf i).toNat)
  case atStart => exact ⟨1, by omega, by omega, by rw [csT_length], HG1.out, HB1.out⟩
  case round =>
    obtain ⟨k, hk1, hk2, rfl, hgr, hbr⟩ := hrel
    have HGR := hid hgr; have HBR := hid hbr; clear hgr hbr
    by_cases hlt : k < n
    · have HNE : Hid (¬ n = k) := hid (by omega)
      obtain ⟨m, hm⟩ : ∃ m, m = Nat.min k (n - k) := ⟨_, rfl⟩
      have hm1 : 1 ≤ m := by rw [hm]; exact Nat.le_min.2 ⟨hk1, by omega⟩
      have hm2 : m ≤ k := by rw [hm]; exact Nat.min_le_left _ _
      have hm3 : k + m ≤ n := by have : m ≤ n - k := by rw [hm]; exact Nat.min_le_right _ _
                                 omega
      have HM := hid hm; clear hm
      have hw : IntKind.i64.wrap ((k : Int) + (m : Int)) = (k : Int) + (m : Int) := Go.IntWalk.i64_in _ (by omega)
      have HW := hid hw; clear hw
      have hcl := csT_length m t
      go_wp2_with fail
      go_region_law ((refine step_copy_splice (by rfl) (.tmp 41) (.tmp 44) 40 40 (by rfl) 9 Try.underlying40 size9 (if n = k then some ⟨g, 0, none⟩ else some ⟨g, k, none⟩) (some ⟨g, 0, none⟩) (n - k) (n - k) k n (by go_simp) (by go_simp) g k (rowT n k t) 9 HGR.out (csT m t) ((csT_length m t).trans HM.out) (fun _ => ⟨if_neg HNE.out, _, rfl, src_row (w := wr.drew) HGR.out m hm2⟩) (by rw [csT_length, rowT_length _ _ _ hk2]; exact hm3) (csT_one _ t) g w HBR.out.drew (Nat.le_refl _) ?_); intro w4 hg4 hb4)
      all_goals
        have hg4 := hg4.out
        rw [rowT_more] at hg4
        have HG4 := hid hg4; have HB4 := hid hb4; clear hg4 hb4
        go_wp2_with fail
        go_roundw
        case rel => exact ⟨k + m, by omega, by omega, by rw [HW.out]; go_num, HG4.out, HB4.out⟩
        case measure => simp [intOf, HW.out]; omega
    · obtain rfl : k = n := by omega
      go_wp2_with fail
      go_ret
      exact ⟨g, rfl, by rw [← rowT_full]; exact HGR.out, Nat.le_of_eq hg, hg ▸ HBR.out⟩

set_option maxHeartbeats 400000 in
theorem new_bad (n : Int) (w : World) (h : n < 1 ∨ 1000 < n) : Calls Try.prog 4 #[.int .i64 n] w fun e w' => e = .returned (.tuple #[.pointer none, .int .i64 1]) ∧ w = w' := by
  by_cases h1 : n < 1
  · go_enter Try.func4, Try.ntmps4
    go_wp2_with fail
    go_ret2
    exact ⟨rfl, rfl⟩
  · have h2 : (1000 : Int) < n := by omega
    go_enter Try.func4, Try.ntmps4
    go_wp2_with fail
    go_ret2
    exact ⟨rfl, rfl⟩
/-- an empty page, and a new disk's pages -/
def blankB : ByteArray := ⟨Pg.blankL.toArray⟩
theorem blankB_size : blankB.size = 256 := by
  show (Pg.blankL.toArray).size = 256
  rw [List.size_toArray]; exact Pg.zs_length 256
theorem blank_t (t : ByteArray) (h : blankB = t) (w : World) : Calls Try.prog 26 #[] w fun e w' => e = .returned (.string t) ∧ Below w.heap.size w w' := by
  subst h; exact Pg.blank_any w
def blanks (n : Nat) : List ByteArray := List.replicate n blankB
theorem blanks_cells {w : World} {g n : Nat} {t : ByteArray} (h : w.heap[g]? = some (.cells (sv (List.replicate n t)).toArray 9 (0, 0))) :
    ∀ j, j < (List.replicate n t).length → w.cell? ⟨g, 0 + j, none⟩ = some (.string ((List.replicate n t).getD j ByteArray.empty)) := fun j hj => by
  rw [cell_of_row _ _ _ _ _ _ h, Nat.zero_add]
  have hj' : j < n := by simpa using hj
  simp [sv, hj', List.getD]
set_option maxHeartbeats 400000 in
theorem new_ok (n : Nat) (w : World) (h1 : 1 ≤ n) (h2 : n ≤ 1000) :
    Calls Try.prog 4 #[.int .i64 n] w fun e w' => ∃ d, e = .returned (.tuple #[.pointer (some ⟨d.D, 0, none⟩), .int .i64 0]) ∧ Dsk w' d (newS (blanks n)) ∧ Below w.heap.size w w' ∧ (∀ k, Foot d k → w.heap.size ≤ k) := by
  obtain ⟨t, ht⟩ : ∃ t, blankB = t := ⟨_, rfl⟩
  have HT := hid ht; clear ht
  have HSZ : Hid (∀ p ∈ List.replicate n t, p.size = 256) := hid fun p hp => by rw [(List.mem_replicate.1 hp).2, ← HT.out]; exact blankB_size
  go_enter Try.func4, Try.ntmps4
  go_wp2_with (first
    | (go_at_call 26; refine (blank_t t HT.out _).mono ?_; rintro e w1 ⟨rfl, hb⟩; have HB := hid hb; clear hb)
    | (go_at_call 25; refine (repeat_one w1.heap.size 1 n t _ h1 h2 (by rw [cell_of_row _ _ _ _ _ _ (heap_alloc_new _ _)]; rfl) (by simp)).mono ?_; rintro e w2 ⟨g, rfl, hg, hge, hb2⟩; have HG := hid hg; have HGE := hid hge; have HB2 := hid hb2; clear hg hge hb2)
    | (go_at_call 24; refine (of_ok g 0 n n (List.replicate n t) _ (by simp) h1 h2 HSZ.out (blanks_cells HG.out)).mono ?_; rintro e w3 ⟨d, rfl, hd, hb3, hf⟩; have HD := hid hd; have HB3 := hid hb3; have HF := hid hf; clear hd hb3 hf))
  go_ret2
  have hs1 : w.heap.size ≤ w1.heap.size := HB.out.size
  have hs2 : w.heap.size ≤ w2.heap.size := by have := HB2.out.size; simp at this; omega
  refine ⟨d, rfl, ?_, ?_, fun k hk => Nat.le_trans hs2 (HF.out k hk)⟩
  · have := HD.out; rw [← HT.out] at this; exact this
  · exact (HB.out.alloc hs1 _).trans ((HB2.out.mono (by simp; omega)).trans (HB3.out.mono hs2))
end Go.Proofs.Ytjjplkfgihogkaa.Dk
