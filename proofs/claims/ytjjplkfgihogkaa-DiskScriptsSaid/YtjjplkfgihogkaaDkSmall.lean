/- The small calls of disk: what each returns, and what the disk is behind it. -/
import Derived.Test.YtjjplkfgihogkaaDkBase
namespace Go.Proofs.Ytjjplkfgihogkaa.Dk
open Go.RowKit
open Go.Lib (hid)

set_option maxHeartbeats 400000 in
theorem size_ok (d : Ptrs) (s : St) (w : World) (h : Dsk w d s) :
    Calls Try.prog 23 #[.pointer (some ⟨d.D, 0, none⟩)] w fun e w' => e = .returned (.int .i64 (s.pages.length : Int)) ∧ w = w' := by
  have c := h.cells
  have hg := h.good.n2
  have HS := hid h; clear h
  go_enter Try.func23, Try.ntmps23
  go_wp2_with fail
  go_ret
  exact ⟨rfl, rfl⟩
set_option maxHeartbeats 400000 in
theorem size_nil (w : World) :
    Calls Try.prog 23 #[.pointer none] w fun e w' => e = .returned (.int .i64 0) ∧ w = w' := by
  go_enter Try.func23, Try.ntmps23
  go_wp2_with fail
  go_ret
  exact ⟨rfl, rfl⟩
set_option maxHeartbeats 400000 in
theorem has_ok (d : Ptrs) (s : St) (n : Int) (w : World) (h : Dsk w d s) :
    Calls Try.prog 28 #[.pointer (some ⟨d.D, 0, none⟩), .int .i64 n] w fun e w' => e = .returned (.bool (decide (0 ≤ n ∧ n < s.pages.length))) ∧ w = w' := by
  have HS := hid h; clear h
  by_cases h0 : 0 ≤ n
  · by_cases h1 : n < s.pages.length
    · have e1 : decide (n < (s.pages.length : Int)) = true := by simpa using h1
      have e2 : decide (0 ≤ n ∧ n < (s.pages.length : Int)) = true := by simp; omega
      rw [e2]
      clear e2
      go_enter Try.func28, Try.ntmps28
      go_wp2_with (go_at_call 23; refine (size_ok d s _ HS.out).mono ?_; rintro e w' ⟨rfl, rfl⟩)
      go_ret
      exact ⟨rfl, rfl⟩
    · have e1 : decide (n < (s.pages.length : Int)) = false := by simpa using h1
      have e2 : decide (0 ≤ n ∧ n < (s.pages.length : Int)) = false := by simp; omega
      rw [e2]
      clear e2 h1
      go_enter Try.func28, Try.ntmps28
      go_wp2_with (go_at_call 23; refine (size_ok d s _ HS.out).mono ?_; rintro e w' ⟨rfl, rfl⟩)
      go_ret
      exact ⟨rfl, rfl⟩
  · have e1 : decide (0 ≤ n) = false := by simpa using h0
    have e2 : decide (0 ≤ n ∧ n < (s.pages.length : Int)) = false := by simp; omega
    rw [e2]
    clear e2 h0
    go_enter Try.func28, Try.ntmps28
    go_wp2_with fail
    go_ret
    exact ⟨rfl, rfl⟩
set_option maxHeartbeats 400000 in
theorem has_nil (n : Int) (w : World) :
    Calls Try.prog 28 #[.pointer none, .int .i64 n] w fun e w' => e = .returned (.bool false) ∧ w = w' := by
  by_cases h0 : 0 ≤ n
  · have e1 : decide (n < 0) = false := by simp; omega
    go_enter Try.func28, Try.ntmps28
    go_wp2_with (go_at_call 23; refine (size_nil _).mono ?_; rintro e w' ⟨rfl, rfl⟩)
    go_ret
    exact ⟨rfl, rfl⟩
  · have e1 : decide (0 ≤ n) = false := by simpa using h0
    clear h0
    go_enter Try.func28, Try.ntmps28
    go_wp2_with fail
    go_ret
    exact ⟨rfl, rfl⟩
set_option maxHeartbeats 400000 in
theorem dead_ok (d : Ptrs) (s : St) (w : World) (h : Dsk w d s) :
    Calls Try.prog 29 #[.pointer (some ⟨d.D, 0, none⟩)] w fun e w' => e = .returned (.bool (s.fuse == 0)) ∧ w = w' := by
  have c := h.cells
  have HS := hid h; clear h
  go_enter Try.func29, Try.ntmps29
  go_wp2_with fail
  go_ret
  exact ⟨rfl, rfl⟩
/-- a step of the fuse -/
def burnI (f : Int) : Int := if 0 < f then f - 1 else f
def burnS (s : St) : St := { s with fuse := burnI s.fuse }
theorem burn_good {s : St} (h : Good s) : Good (burnS s) := by
  refine ⟨h.n1, h.n2, h.sizes, h.wait, h.few, ?_, h.reads, h.writes, h.flushes⟩
  have := h.fuse
  show -1 ≤ burnI s.fuse ∧ burnI s.fuse ≤ _
  unfold burnI; split <;> omega
set_option maxHeartbeats 400000 in
theorem burn_ok (d : Ptrs) (s : St) (w : World) (h : Dsk w d s) :
    Calls Try.prog 31 #[.pointer (some ⟨d.D, 0, none⟩)] w fun e w' => e = .returned (.tuple #[]) ∧ Dsk w' d (burnS s) ∧ Only d w w' := by
  have c := h.cells
  have f := h.free 2
  have hg := h.good.fuse
  by_cases hf : 0 < s.fuse
  · have hd : Dsk (w.setCell ⟨d.D, 2, none⟩ (.int .i64 (s.fuse - 1))) d (burnS s) :=
      h.store 2 _ (burnS s) rfl rfl (burn_good h.good) (by simp [burnS, burnI, hf])
    have HS := hid (And.intro hd ((Only.refl d w).store 2 (.int .i64 (s.fuse - 1)))); clear h hd
    go_enter Try.func31, Try.ntmps31
    go_wp2_with fail
    refine bodyPost_end (v := .tuple #[]) (by simp [results, Try.results31, go_sem]) rfl ⟨rfl, ?_⟩
    exact HS.out
  · have e : burnS s = s := by unfold burnS burnI; rw [if_neg hf]
    have HS := hid h; clear h
    rw [e]
    go_enter Try.func31, Try.ntmps31
    go_wp2_with fail
    refine bodyPost_end (v := .tuple #[]) (by simp [results, Try.results31, go_sem]) rfl ⟨rfl, ?_⟩
    exact ⟨HS.out, Only.refl _ _⟩
set_option maxHeartbeats 400000 in
theorem own_ok (t : ByteArray) (w : World) (h : t.size ≤ 1000000) :
    Calls Try.prog 30 #[.string t] w fun e w' => e = .returned (.string t) ∧ Below w.heap.size w w' := by
  have h2 : t.size ≤ 281474976710656 := by omega
  have H := hid h2; clear h h2
  go_enter Try.func30, Try.ntmps30
  go_wp2_with (first
    | (go_at_call 52; refine (Try.stringslite_Clone t _ H.out).mono ?_; rintro e w' ⟨rfl, hb⟩; have HB := hid hb; clear hb)
    | go_in)
  go_ret
  exact ⟨rfl, HB.out⟩

set_option maxHeartbeats 400000 in
theorem counts_ok (d : Ptrs) (s : St) (w : World) (h : Dsk w d s) :
    Calls Try.prog 17 #[.pointer (some ⟨d.D, 0, none⟩)] w fun e w' => e = .returned (.tuple #[.int .i64 s.reads, .int .i64 s.writes, .int .i64 s.flushes]) ∧ ∃ n, w' = w.drewN n := by
  have c := h.cells
  have HS := hid h; clear h
  go_enter Try.func17, Try.ntmps17
  go_wp2_with fail
  go_quiet (fail)
  go_wp2_with fail
  refine bodyPost_ret (v := .tuple #[.int .i64 s.reads, .int .i64 s.writes, .int .i64 s.flushes]) (by simp [results, Try.results17, go_sem]) rfl ⟨rfl, ?_⟩
  exact ⟨_, rfl⟩
set_option maxHeartbeats 400000 in
theorem counts_nil (w : World) :
    Calls Try.prog 17 #[.pointer none] w fun e w' => e = .returned (.tuple #[.int .i64 0, .int .i64 0, .int .i64 0]) ∧ w = w' := by
  go_enter Try.func17, Try.ntmps17
  go_wp2_with fail
  refine bodyPost_ret (v := .tuple #[.int .i64 0, .int .i64 0, .int .i64 0]) (by simp [results, Try.results17, go_sem]) rfl ⟨rfl, ?_⟩
  exact rfl
/-- the fuse is made so many steps -/
def fuseS (s : St) (n : Int) : St := { s with fuse := max n (-1) }
theorem fuse_good {s : St} (h : Good s) (n : Int) (hn : n ≤ 9223372036854775807) : Good (fuseS s n) := by
  refine ⟨h.n1, h.n2, h.sizes, h.wait, h.few, ?_, h.reads, h.writes, h.flushes⟩
  show -1 ≤ max n (-1) ∧ max n (-1) ≤ _
  omega
set_option maxHeartbeats 400000 in
theorem fuse_ok (d : Ptrs) (s : St) (n : Int) (w : World) (h : Dsk w d s) (hn : n ≤ 9223372036854775807) :
    Calls Try.prog 14 #[.pointer (some ⟨d.D, 0, none⟩), .int .i64 n] w fun e w' => e = .returned (.tuple #[]) ∧ Dsk w' d (fuseS s n) ∧ Only d w w' := by
  have c := h.cells
  have f := h.free 2
  have hd : Dsk (w.setCell ⟨d.D, 2, none⟩ (.int .i64 (max n (-1)))) d (fuseS s n) := h.store 2 _ (fuseS s n) rfl rfl (fuse_good h.good n hn) (by simp [fuseS])
  have HS := hid (And.intro hd ((Only.refl d w).store 2 (.int .i64 (max n (-1))))); clear h hd
  go_enter Try.func14, Try.ntmps14
  go_wp2_with fail
  refine bodyPost_end (v := .tuple #[]) (by simp [results, Try.results14, go_sem]) rfl ⟨rfl, ?_⟩
  exact HS.out
set_option maxHeartbeats 400000 in
theorem fuse_nil (n : Int) (w : World) :
    Calls Try.prog 14 #[.pointer none, .int .i64 n] w fun e w' => e = .returned (.tuple #[]) ∧ w = w' := by
  go_enter Try.func14, Try.ntmps14
  go_wp2_with fail
  refine bodyPost_end (v := .tuple #[]) (by simp [results, Try.results14, go_sem]) rfl ⟨rfl, ?_⟩
  exact rfl

set_option maxHeartbeats 400000 in
theorem image_ok (d : Ptrs) (s : St) (w : World) (h : Dsk w d s) :
    Calls Try.prog 19 #[.pointer (some ⟨d.D, 0, none⟩)] w fun e w' => ∃ v, e = .returned v ∧ w'.ownsRow w.heap.size 9 1 v s.pages.length (sv s.pages) ∧ Below w.heap.size w w' := by
  have c := h.cells
  have hn := h.good.n2
  have HP : Hid (∀ j, j < s.pages.length → w.cell? ⟨d.P, 0 + j, none⟩ = some (.string (s.pages.getD j ByteArray.empty))) := hid fun j hj => by
    rw [Nat.zero_add, h.page j hj]; simp [hj]
  have HS := hid h; clear h
  go_enter Try.func19, Try.ntmps19
  go_wp2_with (go_at_call 38; refine (Try.slices_Clone_string d.P 0 s.pages.length d.cp s.pages _ (Nat.le_refl _) (by omega) HP.out).mono ?_; rintro e w1 ⟨v, rfl, ho, _, hb⟩; have HO := hid ho; have HB := hid hb; clear ho hb)
  go_ret
  exact ⟨v, rfl, by have := HO.out; rwa [List.take_length] at this, HB.out⟩
set_option maxHeartbeats 400000 in
theorem image_nil (w : World) :
    Calls Try.prog 19 #[.pointer none] w fun e w' => e = .returned (.slice none 0 0) ∧ w = w' := by
  go_enter Try.func19, Try.ntmps19
  go_wp2_with fail
  go_ret
  exact ⟨rfl, rfl⟩

/-- behind clear and a cut, nothing waits -/
def noWaits (s : St) : St := { s with waits := [] }
theorem noWaits_good {s : St} (h : Good s) : Good (noWaits s) :=
  ⟨h.n1, h.n2, h.sizes, (fun _ hx => (List.not_mem_nil hx).elim), (Nat.zero_le _), h.fuse, h.reads, h.writes, h.flushes⟩
end Go.Proofs.Ytjjplkfgihogkaa.Dk
