/- New and Copy of free. -/
import Derived.Test.YtefnofipcjjfpaaFrEnc
import Derived.Laws.CopyOwn
namespace Go.Proofs.Ytefnofipcjjfpaa.Fr
open Go.RowKit
open Go.Lib (hid)

theorem eq_of_bitAt {A B : List Bool} (hl : A.length = B.length) (h : ∀ j, j < A.length → bitAt A j = bitAt B j) : A = B := by
  apply List.ext_getElem hl
  intro i h1 h2
  have := h i h1
  simpa [bitAt, h1, h2] using this
/-- so many pages, of which those are taken that are told -/
def mkB (n : Nat) (P : Nat → Bool) : List Bool := (List.range n).map P
theorem mkB_length (n : Nat) (P : Nat → Bool) : (mkB n P).length = n := by simp [mkB]
theorem mkB_at (n : Nat) (P : Nat → Bool) (j : Nat) : bitAt (mkB n P) j = (decide (j < n) && P j) := by
  unfold bitAt mkB
  by_cases h : j < n <;> simp [h]
theorem turnB_length (B : List Bool) (n : Nat) : (turnB B n).length = B.length := by simp [turnB]
theorem turnB_at (B : List Bool) (n : Nat) (hn : n < B.length) (j : Nat) : bitAt (turnB B n) j = if j = n then !bitAt B n else bitAt B j := bitAt_set B n _ hn j
/-- the first k are taken -/
def frontB (n k : Nat) : List Bool := mkB n fun j => decide (j < k)
theorem frontB_length (n k : Nat) : (frontB n k).length = n := mkB_length _ _
theorem frontB_at (n k j : Nat) : bitAt (frontB n k) j = (decide (j < n) && decide (j < k)) := mkB_at _ _ _
theorem frontB_more (n k : Nat) (h : k < n) : turnB (frontB n k) k = frontB n (k + 1) := by
  apply eq_of_bitAt (by rw [turnB_length, frontB_length, frontB_length])
  intro j hj
  rw [turnB_length, frontB_length] at hj
  rw [turnB_at _ _ (by rw [frontB_length]; exact h), frontB_at, frontB_at, frontB_at]
  by_cases e : j = k
  · subst e; simp [hj]
  · rw [if_neg e]
    have : decide (j < k + 1) = decide (j < k) := by by_cases h1 : j < k <;> simp [h1] <;> omega
    rw [this]
theorem word_front (n i : Nat) : word (frontB n 0) i = 0 := by
  have : ∀ k, wordN (fun j => bitAt (frontB n 0) (64 * i + j)) k = 0 := by
    intro k
    induction k with
    | zero => rfl
    | succ k ih => simp only [wordN]; rw [ih, frontB_at]; simp
  exact this 64
theorem nw_front (n k : Nat) : nw (frontB n k) = (n + 63) / 64 := by unfold nw; rw [frontB_length]
theorem wcs_front (n : Nat) : wcs (frontB n 0) = List.replicate ((n + 63) / 64) (.int .u64 0) := by
  unfold wcs
  rw [nw_front, List.eq_replicate_iff]
  refine ⟨by simp, fun v hv => ?_⟩
  obtain ⟨i, _, rfl⟩ := List.mem_map.1 hv
  rw [word_front]; rfl

theorem info55 : (Try.prog.info? 55).map (fun i => (i.zero, i.size, i.bytes)) = some (some (.int .u64 0), 1, 8) := by kernel_rfl
theorem size55 : (Try.prog.info? 55).map (·.size) = some 1 := by kernel_rfl
theorem wmake (n : Nat) (h : n ≤ 16) (w : World) :
    (Instr.makeSlice 47 (.int .i64 (n : Int)) (.int .i64 (n : Int))).run Try.prog w = .ok (.slice (some ⟨w.heap.size, 0, none⟩) n n) (w.alloc (.cells (Array.replicate n (Value.int .u64 0)) 55)) := by
  obtain ⟨i, hi, hz, hs, hb⟩ := info_parts info55
  have := run_makeSlice (P := Try.prog) (w := w) 47 55 i (.int .u64 0) Try.underlying47 hi hz .i64 .i64 n n (by omega) (by omega) (by rw [hs]; omega) (by rw [hb]; omega) (by omega)
  rw [this]
  have e : madeCells (Value.int .u64 0).cells (n * 1) = Array.replicate n (Value.int .u64 0) := by
    apply Array.ext
    · simp [madeCells]
    · intro i h1 h2
      simp [madeCells, Value.cells, Nat.mod_one]
  simp only [Int.toNat_natCast, hs, e]

set_option maxRecDepth 100000 in
set_option maxHeartbeats 1000000 in
theorem new_ok (n f : Nat) (w : World) (h1 : 1 ≤ n) (h2 : n ≤ 1000) (hf : f ≤ n) :
    Calls Try.prog 8 #[.int .i64 (n : Int), .int .i64 (f : Int)] w fun e w' => ∃ d, e = .returned (.tuple #[.pointer (some ⟨d.M, 0, none⟩), .int .i64 0]) ∧ Mp w' d (frontB n f) ∧ Below w.heap.size w w' ∧ w.heap.size ≤ d.M ∧ w.heap.size ≤ d.W := by
  obtain ⟨m, hm⟩ : ∃ m, (n + 63) / 64 = m := ⟨_, rfl⟩
  have e0 : ((n : Int) + 64 - 1) / 64 = (m : Int) := by omega
  have hmk := wmake m (by omega) w
  have HM : Hid (Mp ((w.alloc (.cells (Array.replicate m (Value.int .u64 0)) 55)).alloc (.cells #[.int .i64 (n : Int), .slice (some ⟨w.heap.size, 0, none⟩) m m] 49)) ⟨w.heap.size + 1, w.heap.size⟩ (frontB n 0)) := hid (by
    refine ⟨?_, ?_, by show w.heap.size + 1 ≠ w.heap.size; omega, by rw [frontB_length]; exact h1, by rw [frontB_length]; exact h2⟩
    · rw [frontB_length, nw_front, hm]
      have := heap_alloc_new (w.alloc (.cells (Array.replicate m (Value.int .u64 0)) 55)) (.cells #[.int .i64 (n : Int), .slice (some ⟨w.heap.size, 0, none⟩) m m] 49)
      simpa using this
    · rw [wcs_front, hm, Below.heap_alloc _ _ _ (by simp), heap_alloc_new]; simp)
  have HB : Hid (Below w.heap.size w ((w.alloc (.cells (Array.replicate m (Value.int .u64 0)) 55)).alloc (.cells #[.int .i64 (n : Int), .slice (some ⟨w.heap.size, 0, none⟩) m m] 49))) := hid (((Below.refl _ _).alloc (Nat.le_refl _) _).alloc (by simp) _)
  have e1 : decide ((n : Int) < 1) = false := by simp; omega
  have e2 : decide (1000 < (n : Int)) = false := by simp; omega
  have e3 : decide ((f : Int) < 0) = false := by simp
  have e4 : decide (n < f) = false := by simp; omega
  have HF := hid (And.intro h2 hf)
  have hf2 : f ≤ 1000 := by omega
  clear hm h1 hf
  go_enter Try.func8, Try.ntmps8
  go_wp2_with fail
  clear e1 e2 e3 e4 e0 hmk
  generalize (w.alloc (.cells (Array.replicate m (Value.int .u64 0)) 55)).alloc (.cells #[.int .i64 (n : Int), .slice (some ⟨w.heap.size, 0, none⟩) m m] 49) = w1 at HM HB ⊢
  go_loopw [7, 32] (fun _ i wr => ∃ k : Nat, k ≤ f ∧ i = .int .i64 k ∧ Mp wr ⟨w.heap.size + 1, w.heap.size⟩ (frontB n k) ∧ Below w.heap.size w wr) (fun _ i _ => f - (intOf i).toNat)
  case atStart => exact ⟨0, by omega, rfl, HM.out, HB.out⟩
  case round =>
    obtain ⟨k, hk, rfl, hr, hb⟩ := hrel
    have HK := hid hr; have HB := hid hb; clear hr hb
    by_cases hlt : k < f
    · have HL : Hid (k < (frontB n k).length) := hid (by have := HF.out.2; rw [frontB_length]; omega)
      have HN : Hid (turnB (frontB n k) k = frontB n (k + 1)) := hid (frontB_more n k (by have := HF.out.2; omega))
      go_wp2_with (go_at_call 26; refine (turn_ok ⟨w.heap.size + 1, w.heap.size⟩ (frontB n k) k _ HK.out HL.out).mono ?_; rintro e w2 ⟨rfl, hm, ho⟩; have HM2 := hid hm; have HO := hid ho; clear hm ho)
      go_roundw
      case rel => exact ⟨k + 1, by omega, by go_num, by rw [← HN.out]; exact HM2.out, HB.out.trans (HO.out.to_below HB.out.size (Nat.le_refl _))⟩
      case measure => simp [intOf]; omega
    · obtain rfl : k = f := by omega
      go_wp2_with fail
      go_ret2
      exact ⟨⟨w.heap.size + 1, w.heap.size⟩, rfl, HK.out, HB.out, Nat.le_succ _, Nat.le_refl _⟩
set_option maxHeartbeats 1000000 in
theorem new_bad (n f : Int) (w : World) (h : n < 1 ∨ 1000 < n ∨ f < 0 ∨ n < f) :
    Calls Try.prog 8 #[.int .i64 n, .int .i64 f] w fun e w' => e = .returned (.tuple #[.pointer none, .int .i64 1]) ∧ w = w' := by
  by_cases h1 : n < 1
  · clear h
    go_enter Try.func8, Try.ntmps8
    go_wp2_with fail
    go_ret2
    exact ⟨rfl, rfl⟩
  · by_cases h2 : 1000 < n
    · clear h
      go_enter Try.func8, Try.ntmps8
      go_wp2_with fail
      go_ret2
      exact ⟨rfl, rfl⟩
    · by_cases h3 : f < 0
      · clear h
        go_enter Try.func8, Try.ntmps8
        go_wp2_with fail
        go_ret2
        exact ⟨rfl, rfl⟩
      · have h4 : n < f := by omega
        clear h
        go_enter Try.func8, Try.ntmps8
        go_wp2_with fail
        go_ret2
        exact ⟨rfl, rfl⟩
theorem splice_all (cur cs : List Value) (h : cs.length = cur.length) : splice cur 0 cs = cs := by
  unfold splice; simp [h]
theorem wcs_one (B : List Bool) : ∀ v ∈ wcs B, v.oneCell' = true := fun v hv => by
  obtain ⟨i, _, rfl⟩ := List.mem_map.1 hv; rfl
set_option maxRecDepth 100000 in
set_option maxHeartbeats 1000000 in
theorem copy_ok (d : Ptrs) (B : List Bool) (w : World) (h : Mp w d B) :
    Calls Try.prog 11 #[.pointer (some ⟨d.M, 0, none⟩)] w fun e w' => ∃ d', e = .returned (.pointer (some ⟨d'.M, 0, none⟩)) ∧ Mp w' d' B ∧ Below w.heap.size w w' ∧ w.heap.size ≤ d'.M ∧ w.heap.size ≤ d'.W := by
  have hn1 := h.n1
  have h2 := h.n2
  have hnw : nw B ≤ 16 := by unfold nw; omega
  have hmk := wmake (nw B) hnw w
  have c := h.cells
  have hb1 : Below w.heap.size w (w.alloc (.cells (Array.replicate (nw B) (Value.int .u64 0)) 55)) := (Below.refl _ _).alloc (Nat.le_refl _) _
  have c1 := (h.below hb1).cells
  have HB1 := hid hb1; clear hb1
  have H := hid h; clear h
  have hlen := wcs_length B
  have hcur : (List.replicate (nw B) (Value.int .u64 0)).length = nw B := by simp
  have HLEN := hid hlen; have HCUR := hid hcur; clear hlen hcur
  have HG : Hid ((w.alloc (.cells (Array.replicate (nw B) (Value.int .u64 0)) 55)).heap[w.heap.size]? = some (.cells (List.replicate (nw B) (Value.int .u64 0)).toArray 55 (0, 0))) := hid (by rw [heap_alloc_new]; simp)
  go_enter Try.func11, Try.ntmps11
  go_wp2_with (refine wpList_copy_splice rfl (.tmp 12) (.tmp 16) 47 47 rfl 55 Try.underlying47 size55 _ _ _ _ _ _ rfl rfl w.heap.size 0 (List.replicate (nw B) (Value.int .u64 0)) 55 HG.out (wcs B) ?d1 ?d2 ?d3 (wcs_one B) w.heap.size w HB1.out (Nat.le_refl _) ?_)
  case d1 => rw [HLEN.out]; exact (Nat.min_self _).symm
  case d2 =>
    intro _ j v hj
    rw [cell_of_row _ _ _ _ _ _ (H.out.below HB1.out).words, List.getElem?_toArray]; exact hj
  case d3 => rw [HLEN.out, HCUR.out]; omega
  intro w1 hg1 hb2
  have hg1 := hg1.out
  rw [splice_all _ _ (by rw [HLEN.out, HCUR.out])] at hg1
  have hM := H.out.below hb2
  have c2 := hM.cells
  have HG1 := hid hg1; have HB2 := hid hb2; clear hg1 hb2 hM c c1 hmk
  go_wp2_with fail
  go_ret
  refine ⟨⟨w1.heap.size, w.heap.size⟩, rfl, ⟨?_, ?_, ?_, hn1, h2⟩, HB2.out.alloc HB2.out.size _, HB2.out.size, Nat.le_refl _⟩
  · exact heap_alloc_new _ _
  · have hl : w.heap.size < w1.heap.size := (Array.getElem?_eq_some_iff.1 HG1.out).1
    show (w1.alloc _).heap[w.heap.size]? = _
    rw [Below.heap_alloc w1 _ _ hl]; exact HG1.out
  · have hl : w.heap.size < w1.heap.size := (Array.getElem?_eq_some_iff.1 HG1.out).1
    show w1.heap.size ≠ w.heap.size
    omega
set_option maxHeartbeats 400000 in
theorem copy_nil (w : World) :
    Calls Try.prog 11 #[.pointer none] w fun e w' => e = .returned (.pointer none) ∧ w = w' := by
  go_enter Try.func11, Try.ntmps11
  go_wp2_with fail
  go_ret
  exact ⟨rfl, rfl⟩
end Go.Proofs.Ytefnofipcjjfpaa.Fr
