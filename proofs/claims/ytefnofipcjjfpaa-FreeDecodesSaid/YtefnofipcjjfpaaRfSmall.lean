/- The reference's calls of free: Is, Left, Take, Mark, Give. -/
import Derived.Test.YtefnofipcjjfpaaRfBase
namespace Go.Proofs.Ytefnofipcjjfpaa.Fr
open Go.RowKit
open Go.Lib (hid)

set_option maxHeartbeats 400000 in
theorem refNew_bad (n f : Int) (w : World) (h : n < 1 ∨ 1000 < n ∨ f < 0 ∨ n < f) :
    Calls Try.prog 9 #[.int .i64 n, .int .i64 f] w fun e w' => e = .returned (.tuple #[.pointer none, .int .i64 1]) ∧ w = w' := by
  by_cases h1 : n < 1
  · clear h
    go_enter Try.func9, Try.ntmps9
    go_wp2_with fail
    go_ret2
    exact ⟨rfl, rfl⟩
  · by_cases h2 : 1000 < n
    · clear h
      go_enter Try.func9, Try.ntmps9
      go_wp2_with fail
      go_ret2
      exact ⟨rfl, rfl⟩
    · by_cases h3 : f < 0
      · clear h
        go_enter Try.func9, Try.ntmps9
        go_wp2_with fail
        go_ret2
        exact ⟨rfl, rfl⟩
      · have h4 : n < f := by omega
        clear h
        go_enter Try.func9, Try.ntmps9
        go_wp2_with fail
        go_ret2
        exact ⟨rfl, rfl⟩
set_option maxHeartbeats 400000 in
theorem refIs_in (r : RPtrs) (B : List Bool) (n : Nat) (b : Bool) (w : World) (h : Rf w r B) (hn : n < B.length) (hb : bitAt B n = b) :
    Calls Try.prog 22 #[.pointer (some ⟨r.M, 0, none⟩), .int .i64 (n : Int)] w fun e w' => e = .returned (.bool b) ∧ w = w' := by
  have c := h.cells
  have cp := h.page n hn
  have h2 := h.n2
  rw [hb] at cp
  have hni : (n : Int) < (B.length : Int) := by omega
  clear h hb
  go_enter Try.func22, Try.ntmps22
  go_wp2_with fail
  go_ret
  exact ⟨rfl, rfl⟩
set_option maxHeartbeats 400000 in
theorem refIs_out (r : RPtrs) (B : List Bool) (n : Int) (w : World) (h : Rf w r B) (hn : n < 0 ∨ B.length ≤ n) :
    Calls Try.prog 22 #[.pointer (some ⟨r.M, 0, none⟩), .int .i64 n] w fun e w' => e = .returned (.bool false) ∧ w = w' := by
  have c := h.cells
  have h2 := h.n2
  clear h
  by_cases h0 : n < 0
  · have e1 : decide (0 ≤ n) = false := by simpa using h0
    clear hn h0
    go_enter Try.func22, Try.ntmps22
    go_wp2_with fail
    go_ret
    exact ⟨rfl, rfl⟩
  · have e1 : decide (0 ≤ n) = true := by simp; omega
    have e2 : decide (n < (B.length : Int)) = false := by simp; omega
    clear hn h0
    go_enter Try.func22, Try.ntmps22
    go_wp2_with fail
    go_ret
    exact ⟨rfl, rfl⟩
set_option maxHeartbeats 1000000 in
theorem refMark_ok (r : RPtrs) (B : List Bool) (n : Nat) (w : World) (h : Rf w r B) (hn : n < B.length) (hb : bitAt B n = false) :
    Calls Try.prog 15 #[.pointer (some ⟨r.M, 0, none⟩), .int .i64 (n : Int)] w fun e w' => e = .returned (.int .i64 0) ∧ Rf w' r (turnB B n) ∧ Only r.W w w' := by
  have c := h.cells
  have cp := h.page n hn
  have f := h.wfree n
  have h2 := h.n2
  have hni : (n : Int) < (B.length : Int) := by omega
  have e1 : decide ((n : Int) < 0) = false := by simp
  have e2 : decide ((B.length : Int) ≤ (n : Int)) = false := by simp; omega
  have HS := hid (h.set n true)
  rw [← turnB_set B n true (by rw [hb]; rfl)] at HS
  rw [hb] at cp
  have HO := hid ((Only.refl r.W w).setCell n (.bool true)); clear h hb
  go_enter Try.func15, Try.ntmps15
  go_wp2_with fail
  go_ret
  exact ⟨rfl, HS.out, HO.out⟩
set_option maxHeartbeats 1000000 in
theorem refMark_taken (r : RPtrs) (B : List Bool) (n : Nat) (w : World) (h : Rf w r B) (hn : n < B.length) (hb : bitAt B n = true) :
    Calls Try.prog 15 #[.pointer (some ⟨r.M, 0, none⟩), .int .i64 (n : Int)] w fun e w' => e = .returned (.int .i64 1) ∧ w = w' := by
  have c := h.cells
  have cp := h.page n hn
  have h2 := h.n2
  have hni : (n : Int) < (B.length : Int) := by omega
  have e1 : decide ((n : Int) < 0) = false := by simp
  have e2 : decide ((B.length : Int) ≤ (n : Int)) = false := by simp; omega
  rw [hb] at cp
  clear h hb
  go_enter Try.func15, Try.ntmps15
  go_wp2_with fail
  go_ret
  exact ⟨rfl, rfl⟩
set_option maxHeartbeats 1000000 in
theorem refMark_out (r : RPtrs) (B : List Bool) (n : Int) (w : World) (h : Rf w r B) (hn : n < 0 ∨ B.length ≤ n) :
    Calls Try.prog 15 #[.pointer (some ⟨r.M, 0, none⟩), .int .i64 n] w fun e w' => e = .returned (.int .i64 1) ∧ w = w' := by
  have c := h.cells
  have h2 := h.n2
  clear h
  by_cases h0 : n < 0
  · have e1 : decide (n < 0) = true := by simpa using h0
    clear hn h0
    go_enter Try.func15, Try.ntmps15
    go_wp2_with fail
    go_ret
    exact ⟨rfl, rfl⟩
  · have e1 : decide (n < 0) = false := by simpa using h0
    have e2 : decide ((B.length : Int) ≤ n) = true := by simp; omega
    clear hn h0
    go_enter Try.func15, Try.ntmps15
    go_wp2_with fail
    go_ret
    exact ⟨rfl, rfl⟩
set_option maxHeartbeats 1000000 in
theorem refGive_ok (r : RPtrs) (B : List Bool) (n : Nat) (w : World) (h : Rf w r B) (hn : n < B.length) (hb : bitAt B n = true) :
    Calls Try.prog 17 #[.pointer (some ⟨r.M, 0, none⟩), .int .i64 (n : Int)] w fun e w' => e = .returned (.int .i64 0) ∧ Rf w' r (turnB B n) ∧ Only r.W w w' := by
  have c := h.cells
  have cp := h.page n hn
  have f := h.wfree n
  have h2 := h.n2
  have HS := hid (h.set n false)
  rw [← turnB_set B n false (by rw [hb]; rfl)] at HS
  have HI := hid (refIs_in r B n true w h hn hb)
  rw [hb] at cp
  have HO := hid ((Only.refl r.W w).setCell n (.bool false)); clear h hb
  go_enter Try.func17, Try.ntmps17
  go_wp2_with (go_at_call 22; refine HI.out.mono ?_; rintro e w' ⟨rfl, rfl⟩)
  go_ret
  exact ⟨rfl, HS.out, HO.out⟩
set_option maxHeartbeats 1000000 in
theorem refGive_free (r : RPtrs) (B : List Bool) (n : Nat) (w : World) (h : Rf w r B) (hn : n < B.length) (hb : bitAt B n = false) :
    Calls Try.prog 17 #[.pointer (some ⟨r.M, 0, none⟩), .int .i64 (n : Int)] w fun e w' => e = .returned (.int .i64 1) ∧ w = w' := by
  have HI := hid (refIs_in r B n false w h hn hb)
  clear h hb
  go_enter Try.func17, Try.ntmps17
  go_wp2_with (go_at_call 22; refine HI.out.mono ?_; rintro e w' ⟨rfl, rfl⟩)
  go_ret
  exact ⟨rfl, rfl⟩
set_option maxHeartbeats 1000000 in
theorem refGive_out (r : RPtrs) (B : List Bool) (n : Int) (w : World) (h : Rf w r B) (hn : n < 0 ∨ B.length ≤ n) :
    Calls Try.prog 17 #[.pointer (some ⟨r.M, 0, none⟩), .int .i64 n] w fun e w' => e = .returned (.int .i64 1) ∧ w = w' := by
  have HI := hid (refIs_out r B n w h hn)
  clear h hn
  go_enter Try.func17, Try.ntmps17
  go_wp2_with (go_at_call 22; refine HI.out.mono ?_; rintro e w' ⟨rfl, rfl⟩)
  go_ret
  exact ⟨rfl, rfl⟩
theorem before_more (B : List Bool) (k : Nat) (h : ∀ j, j < k → bitAt B j = true) (hb : bitAt B k = true) : ∀ j, j < k + 1 → bitAt B j = true := fun j hj => by
  by_cases e : j = k
  · rw [e]; exact hb
  · exact h j (by omega)
set_option maxRecDepth 100000 in
set_option maxHeartbeats 1000000 in
theorem refTake_ok (r : RPtrs) (B : List Bool) (w : World) (h : Rf w r B) (ht : takeN B < B.length) :
    Calls Try.prog 13 #[.pointer (some ⟨r.M, 0, none⟩)] w fun e w' => e = .returned (.tuple #[.int .i64 (takeN B : Int), .int .i64 0]) ∧ Rf w' r (turnB B (takeN B)) ∧ Only r.W w w' := by
  have c := h.cells
  have h2 := h.n2
  have H := hid h; have HT := hid ht; clear h ht
  go_enter Try.func13, Try.ntmps13
  go_wp2_with fail
  go_loopw [4] (fun i wr => ∃ k : Nat, k ≤ takeN B ∧ i = .int .i64 k ∧ (∀ j, j < k → bitAt B j = true) ∧ wr = w) (fun i _ => takeN B - (intOf i).toNat)
  case atStart => exact ⟨0, by omega, rfl, fun j hj => by omega, rfl⟩
  case round =>
    obtain ⟨k, hk, rfl, hall, rfl⟩ := hrel
    have HA := hid hall; clear hall
    have hkl : k < B.length := by have := HT.out; omega
    have cp := H.out.page k hkl
    have f := H.out.wfree k
    by_cases he : takeN B = k
    · have hb : bitAt B k = false := by rw [← he]; exact takeN_there B HT.out
      have HS := hid (H.out.set k true)
      rw [← turnB_set B k true (by rw [hb]; rfl)] at HS
      rw [hb] at cp
      have HO := hid ((Only.refl r.W wr).setCell k (.bool true))
      have HE := hid he
      clear he hb hk HT
      go_wp2_with fail
      go_ret2
      exact ⟨by rw [HE.out]; rfl, by rw [HE.out]; exact HS.out, HO.out⟩
    · have hb : bitAt B k = true := takeN_before B k (by omega)
      have HM := hid (before_more B k HA.out hb)
      rw [hb] at cp
      have hk2 : k + 1 ≤ takeN B := by omega
      clear he hb
      go_wp2_with fail
      go_roundw
      case rel => exact ⟨k + 1, hk2, by go_num, HM.out, trivial⟩
      case measure => simp [intOf]; omega
set_option maxRecDepth 100000 in
set_option maxHeartbeats 1000000 in
theorem refTake_full (r : RPtrs) (B : List Bool) (w : World) (h : Rf w r B) (ht : takeN B = B.length) :
    Calls Try.prog 13 #[.pointer (some ⟨r.M, 0, none⟩)] w fun e w' => e = .returned (.tuple #[.int .i64 0, .int .i64 2]) ∧ w = w' := by
  have c := h.cells
  have h2 := h.n2
  have H := hid h; have HT := hid ht; clear h ht
  go_enter Try.func13, Try.ntmps13
  go_wp2_with fail
  go_loopw [4] (fun i wr => ∃ k : Nat, k ≤ B.length ∧ i = .int .i64 k ∧ wr = w) (fun i _ => B.length - (intOf i).toNat)
  case atStart => exact ⟨0, by omega, rfl, rfl⟩
  case round =>
    obtain ⟨k, hk, rfl, rfl⟩ := hrel
    by_cases hkl : k < B.length
    · have cp := H.out.page k hkl
      have hb : bitAt B k = true := takeN_before B k (by rw [HT.out]; exact hkl)
      rw [hb] at cp
      clear hb
      go_wp2_with fail
      go_roundw
      case rel => exact ⟨k + 1, by omega, by go_num, trivial⟩
      case measure => simp [intOf]; omega
    · obtain rfl : k = B.length := by omega
      go_wp2_with fail
      go_ret2
      exact ⟨rfl, rfl⟩
set_option maxRecDepth 100000 in
set_option maxHeartbeats 1000000 in
theorem refLeft_ok (r : RPtrs) (B : List Bool) (w : World) (h : Rf w r B) :
    Calls Try.prog 20 #[.pointer (some ⟨r.M, 0, none⟩)] w fun e w' => e = .returned (.int .i64 (leftN B : Int)) ∧ w = w' := by
  have c := h.cells
  have h2 := h.n2
  have H := hid h; clear h
  go_enter Try.func20, Try.ntmps20
  go_wp2_with fail
  go_loopw [3, 4] (fun l i wr => ∃ (k : Nat) (x : Nat), k ≤ B.length ∧ i = .int .i64 k ∧ l = .int .i64 (x : Int) ∧ x + ones (bitAt B) k = k ∧ wr = w) (fun _ i _ => B.length - (intOf i).toNat)
  case atStart => exact ⟨0, 0, by omega, rfl, rfl, rfl, rfl⟩
  case round =>
    obtain ⟨k, x, hk, rfl, rfl, hx, rfl⟩ := hrel
    have HX := hid hx
    have hxk : x ≤ k := by omega
    clear hx
    by_cases hkl : k < B.length
    · have cp := H.out.page k hkl
      cases hb : bitAt B k with
      | true =>
        have HM : Hid (x + ones (bitAt B) (k + 1) = k + 1) := hid (by have := HX.out; simp only [ones, hb]; simp; omega)
        rw [hb] at cp
        clear hb
        go_wp2_with fail
        go_roundw
        case rel => exact ⟨k + 1, x, by omega, by go_num, by go_num, HM.out, trivial⟩
        case measure => simp [intOf]; omega
      | false =>
        have HM : Hid (x + 1 + ones (bitAt B) (k + 1) = k + 1) := hid (by have := HX.out; simp only [ones, hb]; simp; omega)
        rw [hb] at cp
        clear hb
        go_wp2_with fail
        go_roundw
        case rel => exact ⟨k + 1, x + 1, by omega, by go_num, by go_num, HM.out, trivial⟩
        case measure => simp [intOf]; omega
    · obtain rfl : k = B.length := by omega
      have HE : Hid (leftN B = x) := hid (by have := HX.out; unfold leftN; omega)
      go_wp2_with fail
      go_ret
      exact ⟨by rw [HE.out]; rfl, rfl⟩
end Go.Proofs.Ytefnofipcjjfpaa.Fr
