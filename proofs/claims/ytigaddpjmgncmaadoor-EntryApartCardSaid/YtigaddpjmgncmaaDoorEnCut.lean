/- cut of entry: does a text end ahead of what its kind has? The package's table stands in block 0. -/
import Derived.Test.YtigaddpjmgncmaaDoorEnCheck
namespace Go.Proofs.YtigaddpjmgncmaaDoor.En
open Go.RowKit
open Go.Lib (hid)
/-- the package's table, as it is laid -/
structure Lst (w : World) : Prop where
  c0 : w.cell? ⟨0, 0, none⟩ = some (.int .i64 0)
  c1 : w.cell? ⟨0, 1, none⟩ = some (.int .i64 10)
  c2 : w.cell? ⟨0, 2, none⟩ = some (.int .i64 13)
  c3 : w.cell? ⟨0, 3, none⟩ = some (.int .i64 7)
theorem full (s : ByteArray) (h : 0 < s.size) : s.toList.isEmpty = false := by
  rw [ByteArray.toList_eq]
  cases hl : s.data.toList with
  | nil =>
    have h2 : s.data.toList.length = s.size := by simp
    rw [hl] at h2; simp at h2; omega
  | cons => rfl
set_option maxHeartbeats 1000000 in
theorem cut_nil (w : World) : Calls Tryd.prog 29 #[.string ⟨#[]⟩] w fun e w' => e = .returned (.bool true) ∧ w' = w := by
  go_enter Tryd.func29, Tryd.ntmps29
  go_wp2_with fail
  go_ret
  exact ⟨rfl, rfl⟩
set_option maxHeartbeats 1000000 in
theorem cut_k (s : ByteArray) (k n : Nat) (w : World) (h : 0 < s.size) (hk : s[0].toNat = k) (h4 : k < 4) (hc : w.cell? ⟨0, k, none⟩ = some (.int .i64 (n : Int))) :
    Calls Tryd.prog 29 #[.string s] w fun e w' => e = .returned (.bool (decide (s.size < n))) ∧ w' = w := by
  have e0 := full s h
  have e1 : wrap64 (s[0].toNat : Int) = (k : Int) := by rw [hk]; unfold wrap64; omega
  have e2 : decide ((k : Int) < 4) = true := by simp; omega
  have e3 : (k : Int) < 4 := by omega
  have e4 : (0 : Int) ≤ (k : Int) := by omega
  clear hk
  go_enter Tryd.func29, Tryd.ntmps29
  go_wp2_with fail
  go_ret
  exact ⟨by simp, rfl⟩
set_option maxHeartbeats 1000000 in
theorem cut_far (s : ByteArray) (w : World) (h : 0 < s.size) (h4 : 4 ≤ s[0].toNat) :
    Calls Tryd.prog 29 #[.string s] w fun e w' => e = .returned (.bool false) ∧ w' = w := by
  have e0 := full s h
  obtain ⟨k, hk⟩ : ∃ k, s[0].toNat = k := ⟨_, rfl⟩
  have hk2 : k < 256 := by rw [← hk]; exact s[0].toNat_lt
  have e1 : wrap64 (s[0].toNat : Int) = (k : Int) := by rw [hk]; unfold wrap64; omega
  have e2 : decide ((k : Int) < 4) = false := by simp; omega
  clear hk h4
  go_enter Tryd.func29, Tryd.ntmps29
  go_wp2_with fail
  go_ret
  exact ⟨rfl, rfl⟩
end Go.Proofs.YtigaddpjmgncmaaDoor.En
