/- The reader of bucket: next, number, record. -/
import Derived.Test.YtolnbamdddiifaaBkEnc2
import Derived.Test.YtolnbamdddiifaaKyZip
namespace Go.Proofs.Ytolnbamdddiifaa.Bk
open Go.RowKit
open Go.Lib (hid)
open Go.Proofs.Ytolnbamdddiifaa.Ky
open Go.Proofs.Ytolnbamdddiifaa

/-- a reader's place, and whether too little was left -/
abbrev RS := Nat × Bool
def nx (s : List UInt8) (st : RS) (n : Nat) : List UInt8 × RS := if st.1 + n ≤ s.length then (Fd.getAt s st.1 n, (st.1 + n, st.2)) else ([], (st.1, true))
def nm (s : List UInt8) (st : RS) (n : Nat) : Nat × RS := (Fd.num (nx s st n).1, (nx s st n).2)
def keyS (s : List UInt8) : Nat → RS → List Nat × RS
  | 0, st => ([], st)
  | d + 1, st => ((keyS s d st).1 ++ [(nm s (keyS s d st).2 4).1], (nm s (keyS s d st).2 4).2)
def recS (s : List UInt8) (dim : Nat) (st : RS) : Rec × RS :=
  (((keyS s dim st).1, ⟨(nx s (nm s (keyS s dim st).2 1).2 (nm s (keyS s dim st).2 1).1).1.toArray⟩), (nx s (nm s (keyS s dim st).2 1).2 (nm s (keyS s dim st).2 1).1).2)
def recsS (s : List UInt8) (dim : Nat) : Nat → RS → List Rec × RS
  | 0, st => ([], st)
  | n + 1, st => ((recsS s dim n st).1 ++ [(recS s dim (recsS s dim n st).2).1], (recS s dim (recsS s dim n st).2).2)
theorem nx_len (s : List UInt8) (st : RS) (n : Nat) : (nx s st n).1.length ≤ n ∧ ((nx s st n).1.length = n ∨ (nx s st n).1 = []) := by
  unfold nx
  split
  · rw [Fd.getAt_length _ _ _ (by assumption)]; exact ⟨Nat.le_refl _, .inl rfl⟩
  · exact ⟨Nat.zero_le _, .inr rfl⟩
theorem nx_at (s : List UInt8) (st : RS) (n : Nat) (h : st.1 ≤ s.length) : (nx s st n).2.1 ≤ s.length := by
  unfold nx; split
  · assumption
  · exact h
theorem nm_at (s : List UInt8) (st : RS) (n : Nat) (h : st.1 ≤ s.length) : (nm s st n).2.1 ≤ s.length := nx_at s st n h
theorem keyS_len (s : List UInt8) (d : Nat) (st : RS) : (keyS s d st).1.length = d := by
  induction d with
  | zero => rfl
  | succ d ih => simp [keyS, ih]
theorem keyS_at (s : List UInt8) (d : Nat) (st : RS) (h : st.1 ≤ s.length) : (keyS s d st).2.1 ≤ s.length := by
  induction d with
  | zero => exact h
  | succ d ih => exact nm_at s _ _ ih
theorem nm_lt (s : List UInt8) (st : RS) (n : Nat) (_ : n = 1 ∨ n = 4) : (nm s st n).1 < 256 ^ n := by
  have h1 := Fd.num_lt (nx s st n).1
  have h2 := (nx_len s st n).1
  show Fd.num (nx s st n).1 < _
  exact Nat.lt_of_lt_of_le h1 (Nat.pow_le_pow_right (by omega) h2)
theorem keyS_fit (s : List UInt8) (d : Nat) (st : RS) : ∀ x ∈ (keyS s d st).1, x < 4294967296 := by
  induction d with
  | zero => intro x hx; simp [keyS] at hx
  | succ d ih =>
    intro x hx
    rcases List.mem_append.1 hx with h | h
    · exact ih x h
    · simp at h; subst h; exact nm_lt s _ 4 (.inr rfl)
theorem recS_at (s : List UInt8) (dim : Nat) (st : RS) (h : st.1 ≤ s.length) : (recS s dim st).2.1 ≤ s.length := nx_at s _ _ (nm_at s _ _ (keyS_at s dim st h))
theorem recsS_at (s : List UInt8) (dim n : Nat) (st : RS) (h : st.1 ≤ s.length) : (recsS s dim n st).2.1 ≤ s.length := by
  induction n with
  | zero => exact h
  | succ n ih => exact recS_at s dim _ ih
theorem recsS_len (s : List UInt8) (dim n : Nat) (st : RS) : (recsS s dim n st).1.length = n := by
  induction n with
  | zero => rfl
  | succ n ih => simp [recsS, ih]
theorem recsS_take (s : List UInt8) (dim n k : Nat) (st : RS) (h : k ≤ n) : (recsS s dim n st).1.take k = (recsS s dim k st).1 := by
  induction n with
  | zero => have : k = 0 := by omega
            subst this; rfl
  | succ n ih =>
    by_cases e : k = n + 1
    · subst e; rw [List.take_of_length_le (by rw [recsS_len]; omega)]
    · show ((recsS s dim n st).1 ++ _).take k = _
      rw [List.take_append_of_le_length (by rw [recsS_len]; omega)]
      exact ih (by omega)
theorem recsS_get (s : List UInt8) (dim n k : Nat) (st : RS) (h : k < n) : (recsS s dim n st).1[k]'(by rw [recsS_len]; exact h) = (recS s dim (recsS s dim k st).2).1 := by
  have h1 := recsS_take s dim n (k + 1) st (by omega)
  have h2 : (recsS s dim (k + 1) st).1 = (recsS s dim k st).1 ++ [(recS s dim (recsS s dim k st).2).1] := rfl
  have h3 : (recsS s dim n st).1[k]? = some (recS s dim (recsS s dim k st).2).1 := by
    have : ((recsS s dim n st).1.take (k + 1))[k]? = some (recS s dim (recsS s dim k st).2).1 := by
      rw [h1, h2, List.getElem?_append_right (by rw [recsS_len]; exact Nat.le_refl _), recsS_len, Nat.sub_self]; rfl
    rwa [List.getElem?_take_of_lt (by omega)] at this
  exact (List.getElem?_eq_some_iff.1 h3).2
theorem recS_data (s : List UInt8) (dim : Nat) (st : RS) : (recS s dim st).1.2.size ≤ 255 := by
  show (nx s _ _).1.toArray.size ≤ 255
  rw [List.size_toArray]
  have h1 := (nx_len s (nm s (keyS s dim st).2 1).2 (nm s (keyS s dim st).2 1).1).1
  have h2 := nm_lt s (keyS s dim st).2 1 (.inl rfl)
  omega
theorem recsS_big (s : List UInt8) (dim n : Nat) (st : RS) (hd : dim ≤ 6) (hn : n ≤ 255) : bigR (recsS s dim n st).1 := by
  refine ⟨by rw [recsS_len]; omega, fun r hr => ?_⟩
  obtain ⟨k, hk, rfl⟩ := List.getElem_of_mem hr
  rw [recsS_len] at hk
  rw [recsS_get s dim n k st hk]
  have := recS_data s dim (recsS s dim k st).2
  have h2 := keyS_len s dim (recsS s dim k st).2
  exact ⟨by show (keyS s dim _).1.length ≤ 1000; omega, by omega⟩
theorem Wu.set {N R : Nat} {w : World} (hN : N ≤ R) (i : Nat) (v : Value) : Wu N R R w (w.setCell ⟨R, i, none⟩ v) :=
  ⟨(Below.refl _ _).setCell (p := ⟨R, i, none⟩) hN v, by rw [World.size_setCell]; exact Nat.le_refl _, fun k _ hD => heap_setCell_other _ _ _ _ (fun e => hD (.inl e))⟩
theorem Wu.drewN {N G B : Nat} {w w' : World} (h : Wu N G B w w') (n : Nat) : Wu N G B w (w'.drewN n) := ⟨⟨h.below.os, h.below.tape, h.below.output, h.below.size, h.below.block⟩, h.keep.size, h.keep.block⟩
theorem extract_get (t : ByteArray) (a n : Nat) : t.extract a (a + n) = ⟨(Fd.getAt t.data.toList a n).toArray⟩ := by
  apply ByteArray.ext
  apply Array.ext'
  simp [Fd.getAt, ByteArray.data_extract, List.extract_eq_take_drop]
theorem nx_get (s : List UInt8) (st : RS) (n : Nat) : Fd.num (Fd.getAt (nx s st n).1 0 (nx s st n).1.length) = (nm s st n).1 := by rw [Fd.getAt_all]; rfl
theorem num_none : Fd.num [] = 0 := rfl
/-- the first j coordinates, the others still 0 -/
def zk (s : List UInt8) (d j : Nat) (st : RS) : List Nat := (keyS s j st).1 ++ List.replicate (d - j) 0
theorem zk_set (s : List UInt8) (d j : Nat) (st : RS) (h : j < d) : (zk s d j st).set j (nm s (keyS s j st).2 4).1 = zk s d (j + 1) st := by
  unfold zk
  obtain ⟨m, hm⟩ : ∃ m, d - j = m + 1 := ⟨d - j - 1, by omega⟩
  rw [hm, List.set_append, if_neg (by rw [keyS_len]; omega), keyS_len, Nat.sub_self, List.replicate_succ, List.set_cons_zero, show d - (j + 1) = m by omega]
  simp [keyS]
theorem zk_len (s : List UInt8) (d j : Nat) (st : RS) (h : j ≤ d) : (zk s d j st).length = d := by unfold zk; rw [List.length_append, keyS_len, List.length_replicate]; omega
theorem Wu.far {N R : Nat} {w wr : World} (h : Wu N R R w wr) {g : Nat} (hg : w.heap.size ≤ g) (hN : N ≤ g) (i : Nat) (v : Value) : Wu N R R w (wr.setCell ⟨g, i, none⟩ v) :=
  ⟨h.below.setCell (p := ⟨g, i, none⟩) hN v, by rw [World.size_setCell]; exact h.keep.size, fun k hk hD => by rw [heap_setCell_other _ _ _ _ (show k ≠ g by omega)]; exact h.keep.block k hk hD⟩
theorem own_ptd {w : World} {g N : Nat} {l : List Nat} (h : Own w g l) (hf : ∀ x ∈ l, x < 4294967296) (hg : N ≤ g) : PtD (Lt N) w (some ⟨g, 0, none⟩) l :=
  ⟨fun j hj => ⟨g, 0, rfl, h.lt, by unfold Lt; omega, by rw [Nat.zero_add]; exact h.cell j hj⟩, fun j hj => hf _ (List.getElem_mem hj)⟩
theorem own_keep {D : Nat → Prop} {w w' : World} {g : Nat} {l : List Nat} (h : Own w g l) (hk : Keep D w w') (hg : ¬ D g) : Own w' g l := (hk.block g h.lt hg).trans h
end Go.Proofs.Ytolnbamdddiifaa.Bk
