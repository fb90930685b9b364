/- What is read of a disk, and what a crash that keeps all leaves. -/
import Derived.Test.YtlkejjclmamlaaaDkLk
namespace Go.Proofs.Ytlkejjclmamlaaa.Dk

/-- what is read of a disk: its pages, behind all that waits -/
def viewS (s : St) : List ByteArray := applyW s.pages s.waits
theorem view_write (s : St) (n : Nat) (t : ByteArray) : viewS (writeS s n t) = (viewS s).set n t := by
  unfold viewS
  show applyW s.pages (s.waits ++ [(n, t)]) = _
  rw [applyW_snoc]
theorem view_flush (s : St) : viewS (flushS s) = viewS s ∧ (flushS s).pages = viewS s ∧ (flushS s).waits = [] := by
  have e : (flushS s).pages = viewS s := by
    show applyW s.pages (s.waits.take s.waits.length) = _
    rw [List.take_length]; rfl
  refine ⟨?_, e, rfl⟩
  show applyW (flushS s).pages [] = _
  rw [e]; rfl
theorem view_read (s : St) : viewS (readS s) = viewS s := rfl
theorem view_new (l : List ByteArray) : viewS (newS l) = l := rfl
theorem view_length (s : St) : (viewS s).length = s.pages.length := applyW_length _ _
/-- the texts of the first n writes, the others still none -/
def firstT (s : St) (n : Nat) : List ByteArray := (s.waits.map (·.2)).take n ++ List.replicate (s.waits.length - n) emptyB
theorem firstT_length (s : St) (n : Nat) (h : n ≤ s.waits.length) : (firstT s n).length = s.waits.length := by simp [firstT]; omega
theorem firstT_zero (s : St) : firstT s 0 = none0 s := by simp [firstT, none0]
theorem firstT_set (s : St) (n : Nat) (h : n < s.waits.length) : (firstT s n).set n (textAt s n) = firstT s (n + 1) := by
  unfold firstT textAt
  have hl : n < (s.waits.map (·.2)).length := by simpa using h
  have ht : ((s.waits.map (·.2)).take n).length = n := by simp; omega
  rw [List.set_append, if_neg (by omega), ht, Nat.sub_self, List.take_succ_eq_append_getElem hl]
  obtain ⟨d, hd⟩ : ∃ d, s.waits.length - n = d + 1 := ⟨s.waits.length - n - 1, by omega⟩
  have : s.waits.length - (n + 1) = d := by omega
  rw [hd, this, List.replicate_succ, List.set_cons_zero]
  simp [h]
theorem firstT_free (s : St) (n : Nat) (h : n < s.waits.length) : freeB (firstT s n) (n : Int) = true := by
  unfold freeB
  rw [firstT_length s n (by omega)]
  have e : (firstT s n).getD n emptyB = emptyB := by
    unfold firstT
    have ht : ((s.waits.map (·.2)).take n).length = n := by simp; omega
    rw [List.getD_eq_getElem?_getD, List.getElem?_append_right (by omega), ht, Nat.sub_self, List.getElem?_replicate]
    split <;> rfl
  rw [Int.toNat_natCast, e, emptyB_nil]
  simp [h]
/-- so many numbers, from 0 on -/
def upTo (n : Nat) : List Int := (List.range n).map fun (i : Nat) => (i : Int)
theorem upTo_snoc (n : Nat) : upTo n ++ [(n : Int)] = upTo (n + 1) := by simp [upTo, List.range_succ]
theorem upTo_length (n : Nat) : (upTo n).length = n := by simp [upTo]
theorem keep_upTo (s : St) (n : Nat) (h : n ≤ s.waits.length) : keepL s (upTo n) (none0 s) = some (firstT s n) := by
  induction n with
  | zero => rw [firstT_zero]; rfl
  | succ n ih =>
    rw [← upTo_snoc, keepL_app, ih (by omega)]
    show keepL s [(n : Int)] (firstT s n) = _
    unfold keepL
    rw [if_pos (firstT_free s n (by omega)), Int.toNat_natCast, firstT_set s n (by omega)]
    rfl
/-- a crash that keeps all that waits -/
theorem come_all (s : St) : comeS s (upTo s.waits.length) (-1) 0 = some (firstT s s.waits.length) := by
  unfold comeS
  rw [keep_upTo s _ (Nat.le_refl _)]
  rfl
theorem firstT_all (s : St) (k : Nat) (h : k < s.waits.length) : (firstT s s.waits.length).getD k emptyB = (s.waits[k]).2 := by
  unfold firstT
  rw [Nat.sub_self, List.replicate_zero, List.append_nil, List.take_of_length_le (by simp)]
  simp [List.getD_eq_getElem?_getD, h]
theorem crashP_view (s : St) (hs : ∀ x ∈ s.waits, x.2.size = 256) (k : Nat) (h : k ≤ s.waits.length) : crashP s (firstT s s.waits.length) k = applyW s.pages (s.waits.take k) := by
  induction k with
  | zero => rfl
  | succ k ih =>
    unfold crashP
    have hk : k < s.waits.length := by omega
    rw [firstT_all s k hk, ih (by omega), List.take_succ_eq_append_getElem hk, applyW_snoc]
    have hn : (s.waits[k]).2.toList.isEmpty = false := by
      have hz := hs _ (List.getElem_mem hk)
      cases e : (s.waits[k]).2.toList.isEmpty with
      | false => rfl
      | true =>
        rw [List.isEmpty_iff, ByteArray.toList_eq] at e
        have : (s.waits[k]).2.size = 0 := by
          show (s.waits[k]).2.data.size = 0
          rw [← Array.length_toList, e]; rfl
        omega
    rw [if_neg (by rw [hn]; simp)]
    simp [List.getD_eq_getElem?_getD, hk]
/-- a crash that keeps all is as a flush -/
theorem crash_all_pages (s : St) (hs : ∀ x ∈ s.waits, x.2.size = 256) : (crashS s (firstT s s.waits.length)).pages = viewS s := by
  show crashP s _ s.waits.length = _
  rw [crashP_view s hs _ (Nat.le_refl _), List.take_length]; rfl
end Go.Proofs.Ytlkejjclmamlaaa.Dk
