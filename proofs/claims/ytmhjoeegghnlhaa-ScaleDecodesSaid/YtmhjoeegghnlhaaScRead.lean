/- What is read of a coordinate. -/
import Derived.Test.YtmhjoeegghnlhaaScMay
namespace Go.Proofs.Ytmhjoeegghnlhaa.Sc
open Go.RowKit
open Go.Lib (hid)
open Go.Proofs.Ytmhjoeegghnlhaa.Ky Go.Proofs.Ytmhjoeegghnlhaa.Bk
open Go.Proofs.Ytmhjoeegghnlhaa

theorem info_u32 : (Try.prog.info? 30).map (fun i => (i.zero, i.size, i.bytes)) = some (some (.int .u32 0), 1, 4) := by kernel_rfl
theorem umake (n : Nat) (h : n ≤ 255) (w : World) :
    (Instr.makeSlice 31 (.int .u8 (n : Int)) (.int .u8 (n : Int))).run Try.prog w = .ok (.slice (some ⟨w.heap.size, 0, none⟩) n n) (w.alloc (.cells (Ky.kl (List.replicate n 0)).toArray 30)) := by
  obtain ⟨i, hi, hz, hs, hb⟩ := info_parts info_u32
  have := run_makeSlice (P := Try.prog) (w := w) 31 30 i (.int .u32 0) Try.underlying31 hi hz .u8 .u8 n n (by omega) (by omega) (by rw [hs]; omega) (by rw [hb]; omega) (by omega)
  rw [this]
  have e : madeCells (Value.int .u32 0).cells (n * 1) = (Ky.kl (List.replicate n 0)).toArray := by
    apply Array.ext
    · simp [madeCells, Ky.kl]
    · intro i h1 h2
      simp [madeCells, Value.cells, Nat.mod_one, Ky.kl]
  simp only [Int.toNat_natCast, hs, e]
/-- the numbers that stand behind the first byte -/
def rdF (s : ByteArray) (E i : Nat) : Nat := Fd.num (Fd.getAt (s.extract 0 E).data.toList (1 + 4 * i) 4)
set_option maxRecDepth 100000 in
set_option maxHeartbeats 1000000 in
theorem read_none (s : ByteArray) (w : World) (h0 : s.size = 0) :
    Calls Try.prog 55 #[.string s] w fun e w' => e = .returned (.tuple #[.slice none 0 0, .string ⟨#[]⟩, .bool false]) ∧ Below w.heap.size w w' := by
  have e0 : decide ((s.size : Int) < 1) = true := by simp; omega
  clear h0
  go_enter Try.func55, Try.ntmps55
  go_wp2_with fail
  refine bodyPost_ret (v := .tuple #[.slice none 0 0, .string ⟨#[]⟩, .bool false]) (by simp [results, Try.results55, go_sem]) rfl ?_
  exact ⟨rfl, Below.refl _ _⟩
set_option maxRecDepth 100000 in
set_option maxHeartbeats 2000000 in
theorem read_cut (s : ByteArray) (K : Nat) (w : World) (h0 : 0 < s.size) (hK : s[0].toNat = K) (hs : s.size < 1 + 4 * K) :
    Calls Try.prog 55 #[.string s] w fun e w' => e = .returned (.tuple #[.slice none 0 0, .string ⟨#[]⟩, .bool false]) ∧ Below w.heap.size w w' := by
  have e0 : decide ((s.size : Int) < 1) = false := by simp; omega
  have z1 : (0 : Int) < (s.size : Int) := by omega
  have hK255 : K ≤ 255 := by have := s[0].toNat_lt; omega
  obtain ⟨M, hM⟩ : ∃ M, 4 * K = M := ⟨_, rfl⟩
  obtain ⟨E, hE⟩ : ∃ E, 1 + M = E := ⟨_, rfl⟩
  have s1 : IntKind.i64.wrap (4 * (K : Int)) = (M : Int) := by rw [Go.IntWalk.i64_in _ (by omega)]; omega
  have s2 : IntKind.i64.wrap (1 + (M : Int)) = (E : Int) := by rw [Go.IntWalk.i64_in _ (by omega)]; omega
  have hm := umake K hK255
  have HB := hid (below_alloc w (.cells (Ky.kl (List.replicate K 0)).toArray 30))
  have e1 : decide ((s.size : Int) < (E : Int)) = true := by simp; omega
  have e1' : decide (s.size < E) = true := by simp; omega
  clear hs hM hE hK255
  go_enter Try.func55, Try.ntmps55
  go_wp2_with fail
  refine bodyPost_ret (v := .tuple #[.slice none 0 0, .string ⟨#[]⟩, .bool false]) (by simp [results, Try.results55, go_sem]) rfl ?_
  exact ⟨rfl, HB.out⟩
set_option maxRecDepth 100000 in
set_option maxHeartbeats 4000000 in
theorem read_yes (s : ByteArray) (K E : Nat) (w : World) (hms : s.size ≤ 9223372036854775807) (h0 : 0 < s.size) (hK : s[0].toNat = K) (hE : 1 + 4 * K = E) (hs : E ≤ s.size) :
    Calls Try.prog 55 #[.string s] w fun e w' => e = .returned (.tuple #[.slice (some ⟨w.heap.size, 0, none⟩) K K, .string (s.extract E s.size), .bool true]) ∧ Own w' w.heap.size ((List.range K).map (rdF s E)) ∧ Below w.heap.size w w' := by
  have e0 : decide ((s.size : Int) < 1) = false := by simp; omega
  have z1 : (0 : Int) < (s.size : Int) := by omega
  have hK255 : K ≤ 255 := by have := s[0].toNat_lt; omega
  obtain ⟨M, hM⟩ : ∃ M, 4 * K = M := ⟨_, rfl⟩
  have s1 : IntKind.i64.wrap (4 * (K : Int)) = (M : Int) := by rw [Go.IntWalk.i64_in _ (by omega)]; omega
  have s2 : IntKind.i64.wrap (1 + (M : Int)) = (E : Int) := by rw [Go.IntWalk.i64_in _ (by omega)]; omega
  have hm := umake K hK255
  obtain ⟨W, hW⟩ : ∃ W, w.alloc (.cells (Ky.kl (List.replicate K 0)).toArray 30) = W := ⟨_, rfl⟩
  have HB := hid (show Below w.heap.size w W by rw [← hW]; exact below_alloc _ _)
  have HO := hid (show Own W w.heap.size (List.replicate K 0) by rw [← hW]; exact heap_alloc_new _ _)
  have e1 : decide ((s.size : Int) < (E : Int)) = false := by simp; omega
  have e1' : decide (s.size < E) = false := by simp; omega
  have z2 : (E : Int) ≤ (s.size : Int) := by omega
  have z3 : (0 : Int) ≤ (E : Int) := by omega
  have hsz : (s.extract 0 E).size = E := by rw [ByteArray.size_extract]; omega
  have HOF := hid (Fd.of_ok (s.extract 0 E) W (by rw [hsz]; omega))
  have HL := hid (show (s.extract 0 E).data.toList.length = E by rw [← hsz]; simp)
  have HE := hid (And.intro hE (And.intro hK255 hs))
  clear hsz hK255 hE hM hs
  go_enter Try.func55, Try.ntmps55
  go_wp2_with fail
  refine HOF.out.mono ?_
  rintro e w2 ⟨rfl, ha, hb2⟩
  have HB2 := hid (HB.out.trans (hb2.mono HB.out.size))
  have HO2 := hid (HO.out.below hb2)
  have HA2 := hid ha
  have HWS := hid HO.out.lt
  clear ha hb2 HOF hm s1 s2 z1 e0 e1 e1' hW
  obtain ⟨L, hL⟩ : ∃ L, (s.extract 0 E).data.toList = L := ⟨_, rfl⟩
  obtain ⟨F, hF0⟩ : ∃ F, F = rdF s E := ⟨_, rfl⟩
  have HF := hid (show ∀ i, F i = Fd.num (Fd.getAt L (1 + 4 * i) 4) from fun i => by rw [hF0]; unfold rdF; rw [hL])
  have HFE := hid hF0
  rw [hL] at HA2 HL
  clear hL hF0
  go_wp2_with fail
  go_loopw [33] (fun s5 wr => ∃ i : Nat, s5 = .int .i64 i ∧ i ≤ K ∧ Own wr w.heap.size (preF F K i 0) ∧ Fd.Area 120 wr (W.heap.size + 1) W.heap.size L ∧ Below w.heap.size w wr) (fun s5 _ => K - (intOf s5).toNat)
  case atStart => exact ⟨0, rfl, Nat.zero_le _, by rw [preF_zero]; exact HO2.out, HA2.out, HB2.out⟩
  case round =>
    obtain ⟨i, rfl, hi, ho, ha, hb⟩ := hrel
    have HO5 := hid ho; have HA5 := hid ha; have HB5 := hid hb
    clear ho ha hb HA2 HO2 HB2
    by_cases hlt : i < K
    · obtain ⟨hE, hK255, hEs⟩ := HE.out
      obtain ⟨m, hm⟩ : ∃ m, 4 * i = m := ⟨_, rfl⟩
      obtain ⟨k, hk⟩ : ∃ k, 1 + m = k := ⟨_, rfl⟩
      have s1 : IntKind.i64.wrap (4 * (i : Int)) = (m : Int) := by rw [Go.IntWalk.i64_in _ (by omega)]; omega
      have s2 : IntKind.i64.wrap (1 + (m : Int)) = (k : Int) := by rw [Go.IntWalk.i64_in _ (by omega)]; omega
      have s3 : IntKind.i64.wrap ((i : Int) + 1) = ((i + 1 : Nat) : Int) := Go.IntWalk.i64_in _ (by omega)
      have hF := HF.out i
      rw [hm, hk] at hF
      have HG := hid (show Calls Try.prog 74 #[.pointer (some ⟨W.heap.size + 1, 0, none⟩), .int .i64 (k : Int), .int .i64 4] wr fun e w' => e = .returned (.tuple #[.int .u32 (F i : Int), .int .i64 0]) ∧ wr = w' by
        have h := Fd.get_ok (W.heap.size + 1) W.heap.size L k 4 wr HA5.out (by omega) (by rw [HL.out]; omega)
        rw [← hF] at h
        exact h)
      have u1 := HO5.out.cell i (by rw [preF_len]; exact hlt)
      have u2 := HO5.out.frozen i
      have HN1 := hid (show Own (wr.setCell ⟨w.heap.size, i, none⟩ (.int .u32 (F i : Int))) w.heap.size (preF F K (i + 1) 0) by rw [← preF_next]; exact HO5.out.set i _)
      have HN2 := hid (show Below w.heap.size w (wr.setCell ⟨w.heap.size, i, none⟩ (.int .u32 (F i : Int))) from HB5.out.setCell (p := ⟨w.heap.size, i, none⟩) (Nat.le_refl _) _)
      have HN3 := hid (show Fd.Area 120 (wr.setCell ⟨w.heap.size, i, none⟩ (.int .u32 (F i : Int))) (W.heap.size + 1) W.heap.size L from
        ⟨(Below.heap_setCell _ ⟨w.heap.size, i, none⟩ _ _ (by show W.heap.size + 1 ≠ w.heap.size; have := HWS.out; omega)).trans HA5.out.ptr, (Below.heap_setCell _ ⟨w.heap.size, i, none⟩ _ _ (by show W.heap.size ≠ w.heap.size; have := HWS.out; omega)).trans HA5.out.row, HA5.out.ne, HA5.out.len⟩)
      generalize (preF F K i 0)[i]'_ = o2 at u1
      generalize F i = x at HG HN1 HN2 HN3
      have HI := hid hlt
      have e1 : decide ((i : Int) < (K : Int)) = true := by simpa using hlt
      have e1' : decide (i < K) = true := by simpa using hlt
      have q1 : (0 : Int) ≤ (i : Int) := by omega
      have q2 : (i : Int) < (K : Int) := by omega
      clear hE hK255 hEs hm hk hF hi hlt
      go_wp2_with fail
      refine HG.out.mono ?_
      rintro e w3 ⟨rfl, rfl⟩
      go_wp2_with fail
      go_roundw
      case rel => exact ⟨i + 1, rfl, HI.out, HN1.out, HN3.out, HN2.out⟩
      case measure => simp [intOf]; have := HI.out; omega
    · obtain rfl : i = K := by omega
      have e1 : decide ((i : Int) < (i : Int)) = false := by simp
      have e1' : decide (i < i) = false := by simp
      have HR := hid (show Own wr w.heap.size ((List.range i).map F) by rw [← preF_all F i 0]; exact HO5.out)
      have HD := hid fun m => below_drewN HB5.out m
      clear hlt hi
      go_wp2_with fail
      go_quiet (fail)
      go_wp2_with fail
      refine bodyPost_ret (v := .tuple #[.slice (some ⟨w.heap.size, 0, none⟩) i i, .string (s.extract E s.size), .bool true]) (by simp [results, Try.results55, go_sem]) rfl ?_
      exact ⟨rfl, by rw [← HFE.out]; exact HR.out.drewN _, HD.out _⟩
end Go.Proofs.Ytmhjoeegghnlhaa.Sc
