/- The reader record by record, and the reference's Narrow. -/
import Derived.Test.YtkjcbfdplhcjpaaBkREnc
import Derived.Test.YtkjcbfdplhcjpaaBkBack
namespace Go.Proofs.Ytkjcbfdplhcjpaa.Bk
open Go.RowKit
open Go.Lib (hid)
open Go.Proofs.Ytkjcbfdplhcjpaa.Ky

theorem nx_fit (s : List UInt8) (a n : Nat) (b : Bool) (h : a + n ≤ s.length) : nx s (a, b) n = (Fd.getAt s a n, (a + n, b)) := by unfold nx; rw [if_pos h]
theorem nx_cut (s : List UInt8) (a n : Nat) (b : Bool) (h : ¬ a + n ≤ s.length) : (nx s (a, b) n).2.2 = true := by unfold nx; rw [if_neg h]
theorem nx_stick (s : List UInt8) (st : RS) (n : Nat) (h : st.2 = true) : (nx s st n).2.2 = true := by
  unfold nx; split
  · exact h
  · rfl
theorem keyS_stick (s : List UInt8) (d : Nat) (st : RS) (h : st.2 = true) : (keyS s d st).2.2 = true := by
  induction d with
  | zero => exact h
  | succ d ih => exact nx_stick s _ 4 ih
theorem recS_stick (s : List UInt8) (d : Nat) (st : RS) (h : st.2 = true) : (recS s d st).2.2 = true := nx_stick s _ _ (nx_stick s _ 1 (keyS_stick s d st h))
theorem recsS_stick (s : List UInt8) (d n m : Nat) (st : RS) (h : (recsS s d n st).2.2 = true) (hm : n ≤ m) : (recsS s d m st).2.2 = true := by
  induction m with
  | zero => have : n = 0 := by omega
            subst this; exact h
  | succ m ih =>
    by_cases e : n = m + 1
    · subst e; exact h
    · exact recS_stick s d _ (ih (by omega))
/-- the coordinates that stand at a place -/
def keyAt (s : List UInt8) (a j : Nat) : List Nat := (List.range j).map fun i => Fd.num (Fd.getAt s (a + 4 * i) 4)
theorem keyAt_succ (s : List UInt8) (a j : Nat) : keyAt s a (j + 1) = keyAt s a j ++ [Fd.num (Fd.getAt s (a + 4 * j) 4)] := by unfold keyAt; rw [List.range_succ, List.map_append]; rfl
theorem keyAt_len (s : List UInt8) (a j : Nat) : (keyAt s a j).length = j := by simp [keyAt]
theorem keyS_fits (s : List UInt8) (a d : Nat) (b : Bool) (h : a + 4 * d ≤ s.length) : keyS s d (a, b) = (keyAt s a d, (a + 4 * d, b)) := by
  induction d with
  | zero => rfl
  | succ d ih =>
    unfold keyS
    rw [ih (by omega)]
    show (keyAt s a d ++ [(nm s (a + 4 * d, b) 4).1], (nm s (a + 4 * d, b) 4).2) = _
    unfold nm
    rw [nx_fit s (a + 4 * d) 4 b (by omega), keyAt_succ]
    rfl
theorem keyS_cuts (s : List UInt8) (a d : Nat) (b : Bool) (h : ¬ a + 4 * d ≤ s.length) (ha : a ≤ s.length) : (keyS s d (a, b)).2.2 = true := by
  induction d with
  | zero => omega
  | succ d ih =>
    by_cases h2 : a + 4 * d ≤ s.length
    · unfold keyS
      rw [keyS_fits s a d b h2]
      exact nx_cut s (a + 4 * d) 4 b (by omega)
    · exact nx_stick s _ 4 (ih h2)
/-- a record that is cut ahead of its data, in its data, and one that is whole -/
theorem recS_cut1 (s : List UInt8) (a d : Nat) (b : Bool) (ha : a ≤ s.length) (h : ¬ a + 4 * d + 1 ≤ s.length) : (recS s d (a, b)).2.2 = true := by
  by_cases h2 : a + 4 * d ≤ s.length
  · unfold recS
    rw [keyS_fits s a d b h2]
    exact nx_stick s _ _ (nx_cut s (a + 4 * d) 1 b h)
  · exact nx_stick s _ _ (nx_stick s _ 1 (keyS_cuts s a d b h2 ha))
theorem nm_one (s : List UInt8) (a : Nat) (b : Bool) (h : a + 1 ≤ s.length) : nm s (a, b) 1 = ((s[a]'(by omega)).toNat, (a + 1, b)) := by
  unfold nm
  rw [nx_fit s a 1 b h]
  have e : Fd.getAt s a 1 = [s[a]'(by omega)] := by unfold Fd.getAt; rw [List.drop_eq_getElem_cons (by omega)]; rfl
  rw [e]
  simp [Fd.num]
theorem recS_cut2 (s : List UInt8) (a d : Nat) (b : Bool) (h : a + 4 * d + 1 ≤ s.length) (h2 : ¬ a + 4 * d + 1 + (s[a + 4 * d]'(by omega)).toNat ≤ s.length) : (recS s d (a, b)).2.2 = true := by
  unfold recS
  rw [keyS_fits s a d b (by omega)]
  show (nx s (nm s (a + 4 * d, b) 1).2 (nm s (a + 4 * d, b) 1).1).2.2 = true
  rw [nm_one s (a + 4 * d) b h]
  exact nx_cut s _ _ b h2
theorem recS_whole (s : List UInt8) (a d : Nat) (b : Bool) (h : a + 4 * d + 1 ≤ s.length) (h2 : a + 4 * d + 1 + (s[a + 4 * d]'(by omega)).toNat ≤ s.length) :
    recS s d (a, b) = ((keyAt s a d, ⟨(Fd.getAt s (a + 4 * d + 1) (s[a + 4 * d]'(by omega)).toNat).toArray⟩), (a + 4 * d + 1 + (s[a + 4 * d]'(by omega)).toNat, b)) := by
  unfold recS
  rw [keyS_fits s a d b (by omega)]
  show (((keyAt s a d, (⟨(nx s (nm s (a + 4 * d, b) 1).2 (nm s (a + 4 * d, b) 1).1).1.toArray⟩ : ByteArray)) : Rec), (nx s (nm s (a + 4 * d, b) 1).2 (nm s (a + 4 * d, b) 1).1).2) = _
  rw [nm_one s (a + 4 * d) b h]
  simp only
  rw [nx_fit s _ _ b h2]
theorem take_snoc (s : ByteArray) (k : Nat) (h : k < s.size) : s.data.toList.take (k + 1) = s.data.toList.take k ++ [s[k]] := by
  rw [List.take_succ_eq_append_getElem (by simpa using h)]; rfl
set_option maxHeartbeats 400000 in
theorem narrow_any (s : ByteArray) (w : World) (hs : s.size ≤ 4) :
    Calls Try.prog 80 #[.string s] w fun e w' => e = .returned (.int .i64 (Fd.num s.data.toList : Int)) ∧ w = w' := by
  go_enter Try.func80, Try.ntmps80
  go_wp2_with fail
  go_loop [3, 4] (fun x i => ∃ k m : Nat, k ≤ s.size ∧ m < 4294967296 ∧ m = Fd.num (s.data.toList.take k) ∧ i = .int .i64 k ∧ x = .int .i64 (m : Int)) (fun _ i => s.size - (intOf i).toNat)
  case atStart => exact ⟨0, 0, by omega, by omega, by simp [Fd.num], rfl, rfl⟩
  case round =>
    obtain ⟨k, m, hk, hm, hmv, rfl, rfl⟩ := hrel
    have HM := hid hmv; clear hmv
    by_cases hlt : k < s.size
    · have hb := (s[k]).toNat_lt
      go_wp2_with fail
      go_round
      case rel =>
        have hsn : s.data.toList.take (k + 1) = s.data.toList.take k ++ [s[k]] := take_snoc s k hlt
        have hv : Fd.num (s.data.toList.take (k + 1)) = 256 * m + (s[k]).toNat := by rw [hsn, Fd.num_snoc, HM.out]
        have hl := Fd.num_lt (s.data.toList.take (k + 1))
        have hlen : (s.data.toList.take (k + 1)).length ≤ 4 := by simp; omega
        have h4 : Fd.num (s.data.toList.take (k + 1)) < 4294967296 := Nat.lt_of_lt_of_le hl (Nat.pow_le_pow_right (by decide) hlen)
        exact ⟨k + 1, 256 * m + (s[k]).toNat, by omega, by omega, hv.symm, by go_num, by go_num⟩
      case measure => simp [intOf]; omega
    · obtain rfl : k = s.size := by omega
      go_wp2_with fail
      go_ret
      refine ⟨?_, rfl⟩
      have := HM.out
      rw [List.take_of_length_le (by simp)] at this
      rw [this]; rfl
end Go.Proofs.Ytkjcbfdplhcjpaa.Bk
