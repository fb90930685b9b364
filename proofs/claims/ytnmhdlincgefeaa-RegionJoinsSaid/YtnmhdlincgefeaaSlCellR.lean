/- The document's Cell: a place's numbers. -/
import Derived.Test.YtnmhdlincgefeaaSlRMake
import Derived.Test.YtnmhdlincgefeaaSlUniR
namespace Go.Proofs.Ytnmhdlincgefeaa.Sl
open Go.RowKit
open Go.Lib (hid)

theorem smakeW (n : Nat) (h : n ≤ 6) (w : World) :
    (Instr.makeSlice 22 (.int .i64 (n : Int)) (.int .i64 (n : Int))).run Try.prog w = .ok (.slice (some ⟨w.heap.size, 0, none⟩) n n) (w.alloc (.cells (iv (List.replicate n 0)).toArray 3)) := by
  obtain ⟨i, hi, hz, hs, hb⟩ := info_parts iinfo
  have := run_makeSlice (P := Try.prog) (w := w) 22 3 i (.int .i64 0) Try.underlying22 hi hz .i64 .i64 n n (by omega) (by omega) (by rw [hs]; omega) (by rw [hb]; omega) (by omega)
  rw [this]
  have e : madeCells (Value.int .i64 0).cells (n * 1) = (iv (List.replicate n 0)).toArray := by
    apply Array.ext
    · simp [madeCells, iv]
    · intro i h1 h2
      simp [madeCells, Value.cells, Nat.mod_one, iv]
  simp only [Int.toNat_natCast, hs, e]
theorem nat64 (q : Nat) (h : q ≤ 1000000) : wrap64 (q : Int) = (q : Int) := Go.IntWalk.wrap64_in _ (by omega)
theorem fill_back (k x : Nat) (T : List Int) : (List.replicate (k + 1) (0 : Int) ++ T).set k x = List.replicate k 0 ++ (x : Int) :: T := by
  rw [List.replicate_succ', List.append_assoc, List.set_append_right _ _ (by simp)]
  simp
set_option maxRecDepth 100000 in
set_option maxHeartbeats 2000000 in
theorem rcell_ok (S : List Nat) (n0 : Nat) (p : Option Addr) (c : Nat) (w : World) (h : CellsAt w p (iv (zs S))) (hS : ∀ s ∈ S, 0 < s) (hs : S.length ≤ 6) (hn : n0 ≤ 1000000) :
    Calls Try.prog 29 #[.slice p S.length c, .int .i64 (n0 : Int)] w fun e w' => e = .returned (.slice (some ⟨w.heap.size, 0, none⟩) S.length S.length) ∧ Row w' w.heap.size (zs (cellL S n0)) ∧ Below w.heap.size w w' := by
  obtain ⟨n, hnl⟩ : ∃ n, S.length = n := ⟨_, rfl⟩
  have HN := hid hnl
  have HP := hid hS
  have HR := hid h
  have HZ := hid hn
  rw [hnl] at hs ⊢
  have HS := hid hs
  have hm := smakeW n hs w
  obtain ⟨V, hV⟩ : ∃ V, w.alloc (.cells (iv (List.replicate n 0)).toArray 3) = V := ⟨_, rfl⟩
  have HB := hid (show Below w.heap.size w V by rw [← hV]; exact below_alloc _ _)
  have HG := hid (show Row V w.heap.size (List.replicate n 0) from ⟨[], by rw [← hV, List.append_nil]; exact heap_alloc_new _ _⟩)
  clear h hS hs hn hnl
  go_enter Try.func29, Try.ntmps29
  go_wp2_with fail
  go_loopw [1, 6] (fun x i wr => ∃ K : Nat, ∃ j : Int, K ≤ n ∧ j + 1 = (K : Int) ∧ i = .int .i64 j ∧ x = .int .i64 ((n0 / prodL (S.drop K) : Nat) : Int) ∧ Row wr w.heap.size (List.replicate K 0 ++ zs (cellL (S.drop K) n0)) ∧ Below w.heap.size w wr) (fun _ i _ => (intOf i + 1).toNat)
  case atStart =>
    refine ⟨n, _, Nat.le_refl _, ?_, rfl, ?_, ?_, HB.out⟩
    · have := HS.out; have := Go.IntWalk.wrap64_in ((n : Int) - 1) (by omega); omega
    · rw [← HN.out, List.drop_length]; simp [prodL]
    · rw [← HN.out, List.drop_length]; simpa [cellL, zs, HN.out] using HG.out
  case round =>
    obtain ⟨K, j, hK, hj, rfl, rfl, hr, hb⟩ := hrel
    have HRW := hid hr; have HBW := hid hb
    clear hr hb
    cases K with
    | zero =>
      obtain rfl : j = -1 := by omega
      go_wp2_with fail
      go_ret
      exact ⟨rfl, by simpa using HRW.out, HBW.out⟩
    | succ k =>
      obtain rfl : j = (k : Int) := by omega
      have hk : k < S.length := by have := HN.out; omega
      obtain ⟨b1, o1, rfl, lt1, c1⟩ := HR.out k (by rw [iv_length, zs_len]; exact hk)
      have d1 : wr.cell? ⟨b1, o1 + k, none⟩ = some (.int .i64 (S[k] : Int)) := by have := (HBW.out.cell (p := ⟨b1, o1 + k, none⟩) lt1).trans c1; simp [iv, zs] at this; exact this
      have hi : k < (List.replicate (k + 1) (0 : Int) ++ zs (cellL (S.drop (k + 1)) n0)).length := by simp; omega
      have d2 := HRW.out.cell k hi
      have f2 := HRW.out.frozen k
      have hsk := HP.out S[k] (List.getElem_mem hk)
      generalize (List.replicate (k + 1) (0 : Int) ++ zs (cellL (S.drop (k + 1)) n0))[k] = v0 at d2
      have ez : ((S[k] : Int) == 0) = false := by rw [beq_eq_false_iff_ne]; omega
      have hset := HRW.out.set k hi (((n0 / prodL (S.drop (k + 1))) % S[k] : Nat) : Int)
      rw [fill_back] at hset
      have hcd := cellL_drop S n0 k hk
      have hpd := prodL_drop S k hk
      have HQ := hid (show n0 / prodL (S.drop (k + 1)) / S[k] = n0 / prodL (S.drop k) by rw [hpd, Nat.mul_comm, Nat.div_div_eq_div_mul])
      have HSET := hid (show Row (wr.setCell ⟨w.heap.size, k, none⟩ (.int .i64 (((n0 / prodL (S.drop (k + 1))) % S[k] : Nat) : Int))) w.heap.size (List.replicate k 0 ++ zs (cellL (S.drop k) n0)) by rw [hcd]; exact hset)
      have HLE := hid (show n0 / prodL (S.drop k) ≤ 1000000 from Nat.le_trans (Nat.div_le_self _ _) HZ.out)
      clear hset hcd hpd hi
      generalize S[k] = s at d1 ez hsk HQ HSET
      generalize n0 / prodL (S.drop (k + 1)) = m at HQ HSET
      have HK := hid (Go.IntWalk.wrap64_in ((k : Int) - 1) (by have := HS.out; omega))
      have HD := hid (show wrap64 ((m : Int) / (s : Int)) = ((n0 / prodL (S.drop k) : Nat) : Int) by
        rw [← Int.natCast_ediv, HQ.out]; exact nat64 _ HLE.out)
      clear ez
      have ez : ((s : Int) == 0) = false := by rw [beq_eq_false_iff_ne]; omega
      go_wp2_with fail
      go_roundw
      case rel => exact ⟨k, _, by omega, by rw [HK.out]; omega, rfl, by rw [HD.out], by rw [← Int.natCast_emod]; exact HSET.out, HBW.out.setCell (p := ⟨w.heap.size, k, none⟩) (Nat.le_refl _) _⟩
      case measure => simp [intOf, HK.out]
end Go.Proofs.Ytnmhdlincgefeaa.Sl
