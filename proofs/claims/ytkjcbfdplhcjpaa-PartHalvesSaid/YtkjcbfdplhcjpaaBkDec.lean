/- The reader of bucket: next, number, record. -/
import Derived.Test.YtkjcbfdplhcjpaaBkEnc2
import Derived.Test.YtkjcbfdplhcjpaaKyZip
namespace Go.Proofs.Ytkjcbfdplhcjpaa.Bk
open Go.RowKit
open Go.Lib (hid)
open Go.Proofs.Ytkjcbfdplhcjpaa.Ky
open Go.Proofs.Ytkjcbfdplhcjpaa

/-- a reader's place, and whether too little was left -/
abbrev RS := Nat × Bool
def nx (s : List UInt8) (st : RS) (n : Nat) : List UInt8 × RS := if st.1 + n ≤ s.length then (Fd.getAt s st.1 n, (st.1 + n, st.2)) else ([], (st.1, true))
def nm (s : List UInt8) (st : RS) (n : Nat) : Nat × RS := (Fd.num (nx s st n).1, (nx s st n).2)
def keyS (s : List UInt8) : Nat → RS → List Nat × RS
  | 0, st => ([], st)
  | d + 1, st => ((keyS s d st).1 ++ [(nm s (keyS s d st).2 4).1], (nm s (keyS s d st).2 4).2)
def recS (s : List UInt8) (dim : Nat) (st : RS) : Rec × RS :=
  (((keyS s dim st).1, ⟨(nx s (nm s (keyS s dim st).2 1).2 (nm s (keyS s dim st).2 1).1).1.toArray⟩), (nx s (nm s (keyS s dim st).2 1).2 (nm s (keyS s dim st).2 1).1).2)
def recsS (s : List UInt8) (dim : Nat) : Nat → RS → List Rec × RS
  | 0, st => ([], st)
  | n + 1, st => ((recsS s dim n st).1 ++ [(recS s dim (recsS s dim n st).2).1], (recS s dim (recsS s dim n st).2).2)
theorem nx_len (s : List UInt8) (st : RS) (n : Nat) : (nx s st n).1.length ≤ n ∧ ((nx s st n).1.length = n ∨ (nx s st n).1 = []) := by
  unfold nx
  split
  · rw [Fd.getAt_length _ _ _ (by assumption)]; exact ⟨Nat.le_refl _, .inl rfl⟩
  · exact ⟨Nat.zero_le _, .inr rfl⟩
theorem nx_at (s : List UInt8) (st : RS) (n : Nat) (h : st.1 ≤ s.length) : (nx s st n).2.1 ≤ s.length := by
  unfold nx; split
  · assumption
  · exact h
theorem nm_at (s : List UInt8) (st : RS) (n : Nat) (h : st.1 ≤ s.length) : (nm s st n).2.1 ≤ s.length := nx_at s st n h
theorem keyS_len (s : List UInt8) (d : Nat) (st : RS) : (keyS s d st).1.length = d := by
  induction d with
  | zero => rfl
  | succ d ih => simp [keyS, ih]
theorem keyS_at (s : List UInt8) (d : Nat) (st : RS) (h : st.1 ≤ s.length) : (keyS s d st).2.1 ≤ s.length := by
  induction d with
  | zero => exact h
  | succ d ih => exact nm_at s _ _ ih
theorem nm_lt (s : List UInt8) (st : RS) (n : Nat) (_ : n = 1 ∨ n = 4) : (nm s st n).1 < 256 ^ n := by
  have h1 := Fd.num_lt (nx s st n).1
  have h2 := (nx_len s st n).1
  show Fd.num (nx s st n).1 < _
  exact Nat.lt_of_lt_of_le h1 (Nat.pow_le_pow_right (by omega) h2)
theorem keyS_fit (s : List UInt8) (d : Nat) (st : RS) : ∀ x ∈ (keyS s d st).1, x < 4294967296 := by
  induction d with
  | zero => intro x hx; simp [keyS] at hx
  | succ d ih =>
    intro x hx
    rcases List.mem_append.1 hx with h | h
    · exact ih x h
    · simp at h; subst h; exact nm_lt s _ 4 (.inr rfl)
theorem recS_at (s : List UInt8) (dim : Nat) (st : RS) (h : st.1 ≤ s.length) : (recS s dim st).2.1 ≤ s.length := nx_at s _ _ (nm_at s _ _ (keyS_at s dim st h))
theorem recsS_at (s : List UInt8) (dim n : Nat) (st : RS) (h : st.1 ≤ s.length) : (recsS s dim n st).2.1 ≤ s.length := by
  induction n with
  | zero => exact h
  | succ n ih => exact recS_at s dim _ ih
theorem recsS_len (s : List UInt8) (dim n : Nat) (st : RS) : (recsS s dim n st).1.length = n := by
  induction n with
  | zero => rfl
  | succ n ih => simp [recsS, ih]
theorem recsS_take (s : List UInt8) (dim n k : Nat) (st : RS) (h : k ≤ n) : (recsS s dim n st).1.take k = (recsS s dim k st).1 := by
  induction n with
  | zero => have : k = 0 := by omega
            subst this; rfl
  | succ n ih =>
    by_cases e : k = n + 1
    · subst e; rw [List.take_of_length_le (by rw [recsS_len]; omega)]
    · show ((recsS s dim n st).1 ++ _).take k = _
      rw [List.take_append_of_le_length (by rw [recsS_len]; omega)]
      exact ih (by omega)
theorem recsS_get (s : List UInt8) (dim n k : Nat) (st : RS) (h : k < n) : (recsS s dim n st).1[k]'(by rw [recsS_len]; exact h) = (recS s dim (recsS s dim k st).2).1 := by
  have h1 := recsS_take s dim n (k + 1) st (by omega)
  have h2 : (recsS s dim (k + 1) st).1 = (recsS s dim k st).1 ++ [(recS s dim (recsS s dim k st).2).1] := rfl
  have h3 : (recsS s dim n st).1[k]? = some (recS s dim (recsS s dim k st).2).1 := by
    have : ((recsS s dim n st).1.take (k + 1))[k]? = some (recS s dim (recsS s dim k st).2).1 := by
      rw [h1, h2, List.getElem?_append_right (by rw [recsS_len]; exact Nat.le_refl _), recsS_len, Nat.sub_self]; rfl
    rwa [List.getElem?_take_of_lt (by omega)] at this
  exact (List.getElem?_eq_some_iff.1 h3).2
theorem recS_data (s : List UInt8) (dim : Nat) (st : RS) : (recS s dim st).1.2.size ≤ 255 := by
  show (nx s _ _).1.toArray.size ≤ 255
  rw [List.size_toArray]
  have h1 := (nx_len s (nm s (keyS s dim st).2 1).2 (nm s (keyS s dim st).2 1).1).1
  have h2 := nm_lt s (keyS s dim st).2 1 (.inl rfl)
  omega
theorem recsS_big (s : List UInt8) (dim n : Nat) (st : RS) (hd : dim ≤ 6) (hn : n ≤ 255) : bigR (recsS s dim n st).1 := by
  refine ⟨by rw [recsS_len]; omega, fun r hr => ?_⟩
  obtain ⟨k, hk, rfl⟩ := List.getElem_of_mem hr
  rw [recsS_len] at hk
  rw [recsS_get s dim n k st hk]
  have := recS_data s dim (recsS s dim k st).2
  have h2 := keyS_len s dim (recsS s dim k st).2
  exact ⟨by show (keyS s dim _).1.length ≤ 1000; omega, by omega⟩
/-- a reader at R -/
structure Rd (w : World) (R : Nat) (t : ByteArray) (st : RS) : Prop where
  box : w.heap[R]? = some (.cells #[.string t, .int .i64 (st.1 : Int), .bool st.2] 110 (0, 0))
  le : st.1 ≤ t.size
  small : t.size ≤ 1000000
theorem Rd.lt {w : World} {R : Nat} {t : ByteArray} {st : RS} (h : Rd w R t st) : R < w.heap.size := (Array.getElem?_eq_some_iff.1 h.box).1
theorem Rd.below {w w' : World} {R : Nat} {t : ByteArray} {st : RS} (h : Rd w R t st) (hb : Below w.heap.size w w') : Rd w' R t st := ⟨(hb.block _ h.lt).trans h.box, h.le, h.small⟩
theorem Rd.cells {w : World} {R : Nat} {t : ByteArray} {st : RS} (h : Rd w R t st) : w.cell? ⟨R, 0, none⟩ = some (.string t) ∧ w.cell? ⟨R, 1, none⟩ = some (.int .i64 (st.1 : Int)) ∧ w.cell? ⟨R, 2, none⟩ = some (.bool st.2) ∧ w.frozen? ⟨R, 1, none⟩ = false ∧ w.frozen? ⟨R, 2, none⟩ = false :=
  ⟨by rw [cell_of_row _ _ _ _ _ _ h.box]; rfl, by rw [cell_of_row _ _ _ _ _ _ h.box]; rfl, by rw [cell_of_row _ _ _ _ _ _ h.box]; rfl, frozen_of_row _ _ _ _ _ h.box, frozen_of_row _ _ _ _ _ h.box⟩
theorem Wu.set {N R : Nat} {w : World} (hN : N ≤ R) (i : Nat) (v : Value) : Wu N R R w (w.setCell ⟨R, i, none⟩ v) :=
  ⟨(Below.refl _ _).setCell (p := ⟨R, i, none⟩) hN v, by rw [World.size_setCell]; exact Nat.le_refl _, fun k _ hD => heap_setCell_other _ _ _ _ (fun e => hD (.inl e))⟩
theorem Wu.drewN {N G B : Nat} {w w' : World} (h : Wu N G B w w') (n : Nat) : Wu N G B w (w'.drewN n) := ⟨⟨h.below.os, h.below.tape, h.below.output, h.below.size, h.below.block⟩, h.keep.size, h.keep.block⟩
theorem Rd.go {w : World} {R : Nat} {t : ByteArray} {st : RS} (h : Rd w R t st) (n : Nat) (hn : st.1 + n ≤ t.size) : Rd (w.setCell ⟨R, 1, none⟩ (.int .i64 ((st.1 : Int) + (n : Int)))) R t (st.1 + n, st.2) :=
  ⟨by rw [heap_setCell_same _ _ _ _ _ _ h.box]; simp, hn, h.small⟩
theorem Rd.stop {w : World} {R : Nat} {t : ByteArray} {st : RS} (h : Rd w R t st) : Rd (w.setCell ⟨R, 2, none⟩ (.bool true)) R t (st.1, true) :=
  ⟨by rw [heap_setCell_same _ _ _ _ _ _ h.box]; simp, h.le, h.small⟩
theorem Rd.drewN {w : World} {R : Nat} {t : ByteArray} {st : RS} (h : Rd w R t st) (n : Nat) : Rd (w.drewN n) R t st := ⟨h.box, h.le, h.small⟩
theorem extract_get (t : ByteArray) (a n : Nat) : t.extract a (a + n) = ⟨(Fd.getAt t.data.toList a n).toArray⟩ := by
  apply ByteArray.ext
  apply Array.ext'
  simp [Fd.getAt, ByteArray.data_extract, List.extract_eq_take_drop]
set_option maxRecDepth 100000 in
set_option maxHeartbeats 2000000 in
theorem next_ok (n : Nat) (w : World) {N R : Nat} {t : ByteArray} {st : RS} (h : Rd w R t st) (hN : N ≤ R) (hn : n ≤ 1000000) :
    Calls Try.prog 118 #[.pointer (some ⟨R, 0, none⟩), .int .i64 (n : Int)] w fun e w' => e = .returned (.string ⟨(nx t.data.toList st n).1.toArray⟩) ∧ Rd w' R t (nx t.data.toList st n).2 ∧ Wu N R R w w' := by
  have hs := h.small
  have hle := h.le
  obtain ⟨c0, c1, c2, f1, f2⟩ := h.cells
  have HR := hid h
  by_cases hf : st.1 + n ≤ t.size
  · have hx : nx t.data.toList st n = (Fd.getAt t.data.toList st.1 n, (st.1 + n, st.2)) := by unfold nx; rw [if_pos (by rw [Fd.size_list]; exact hf)]
    rw [hx]
    have e1 : decide ((t.size : Int) - (st.1 : Int) < (n : Int)) = false := by simp; omega
    have HEX := hid (extract_get t st.1 n)
    have HGO := hid fun (m : Nat) => (h.drewN m).go n hf
    have hsl : ∀ wx : World, (Instr.slice 9 (.string t) (some (.int .i64 (st.1 : Int))) (some (.int .i64 ((st.1 : Int) + (n : Int)))) none).run Try.prog wx = .ok (.string ⟨(Fd.getAt t.data.toList st.1 n).toArray⟩) wx := fun wx => by
      have h1 := run_slice_string_if (P := Try.prog) wx 9 t .i64 .i64 (st.1 : Int) ((st.1 : Int) + (n : Int)) Try.underlying9
      rw [if_pos (by omega), if_pos (by omega)] at h1
      rw [h1, ← extract_get]
      congr 3
    obtain ⟨a, b⟩ := st
    simp only at *
    clear hx h
    go_enter Try.func118, Try.ntmps118
    go_wp2_with fail
    go_quiet (fail)
    go_wp2_with fail
    have es : (a : Int) + (n : Int) - (n : Int) = (a : Int) := by omega
    have ew : IntKind.i64.wrap (a : Int) = (a : Int) := Go.IntWalk.i64_in _ (by omega)
    go_quiet (fail)
    go_wp2_with fail
    go_ret
    exact ⟨rfl, (HGO.out _).drewN _, (((Wu.refl N R R w).drewN _).trans (Wu.set hN 1 _)).drewN _⟩
  · have hx : nx t.data.toList st n = ([], (st.1, true)) := by unfold nx; rw [if_neg (by rw [Fd.size_list]; exact hf)]
    rw [hx]
    have e1 : decide ((t.size : Int) - (st.1 : Int) < (n : Int)) = true := by simp; omega
    obtain ⟨a, b⟩ := st
    simp only at *
    clear hx h
    go_enter Try.func118, Try.ntmps118
    go_wp2_with fail
    go_quiet (fail)
    go_wp2_with fail
    go_ret
    exact ⟨rfl, (HR.out.drewN _).stop, ((Wu.refl N R R w).drewN _).trans (Wu.set hN 2 _)⟩
theorem nx_get (s : List UInt8) (st : RS) (n : Nat) : Fd.num (Fd.getAt (nx s st n).1 0 (nx s st n).1.length) = (nm s st n).1 := by rw [Fd.getAt_all]; rfl
theorem num_none : Fd.num [] = 0 := rfl
set_option maxRecDepth 100000 in
set_option maxHeartbeats 2000000 in
theorem rnumber_ok (n : Nat) (w : World) {N R : Nat} {t : ByteArray} {st : RS} (h : Rd w R t st) (hN : N ≤ R) (hn : n = 1 ∨ n = 4) :
    Calls Try.prog 105 #[.pointer (some ⟨R, 0, none⟩), .int .i64 (n : Int)] w fun e w' => e = .returned (.int .u32 ((nm t.data.toList st n).1 : Int)) ∧ Rd w' R t (nm t.data.toList st n).2 ∧ Wu N R R w w' := by
  have HNX := hid (next_ok n w h hN (by omega))
  have hl := nx_len t.data.toList st n
  have hx : (nm t.data.toList st n).2 = (nx t.data.toList st n).2 := rfl
  have hv : (nm t.data.toList st n).1 = Fd.num (nx t.data.toList st n).1 := rfl
  rw [hx, hv]
  clear hx hv
  generalize (nx t.data.toList st n).1 = x at *
  generalize (nx t.data.toList st n).2 = st2 at *
  have hR := h.lt
  have HOF := hid fun (w' : World) => Fd.of_ok ⟨x.toArray⟩ w' (by show x.toArray.size ≤ 4096; rw [List.size_toArray]; omega)
  have HG := hid fun (w' : World) (A B : Nat) (ha : Fd.Area 138 w' A B x) => (show Calls Try.prog 119 #[.pointer (some ⟨A, 0, none⟩), .int .i64 0, .int .i64 (n : Int)] w' fun e w2 => ∃ er : Int, e = .returned (.tuple #[.int .u32 (Fd.num x : Int), .int .i64 er]) ∧ w' = w2 by
    rcases hl.2 with he | he
    · have h1 := Fd.get_ok A B x 0 n w' ha (by omega) (by omega)
      rw [show Fd.getAt x 0 n = x by rw [← he]; exact Fd.getAt_all x] at h1
      exact h1.mono fun e w2 ⟨e1, e2⟩ => ⟨0, e1, e2⟩
    · subst he
      rw [num_none]
      exact (Fd.get_bad _ 0 (n : Int) w' (Fd.number_no A B [] 0 (n : Int) w' ha (by unfold Fd.isRange; simp; omega) (by omega) (by omega))).mono fun e w2 ⟨e1, e2⟩ => ⟨1, e1, e2⟩)
  clear hl
  generalize Fd.num x = v at HG
  go_enter Try.func105, Try.ntmps105
  go_wp2_with (first
    | (go_at_call 118; refine HNX.out.mono ?_; rintro e w2 ⟨rfl, h1, h2⟩; have H2 := hid h1; have U2 := hid h2; clear h1 h2)
    | (go_at_call 117; refine (HOF.out _).mono ?_; rintro e w3 ⟨rfl, ha, hb⟩; have H3 := hid (H2.out.below hb); have U3 := hid (U2.out.trans (Wu.of_below (G := R) (B := R) hb (Nat.le_trans hN (Nat.le_of_lt H2.out.lt)))); have HAR := hid ha; clear ha hb)
    | (go_at_call 119; refine (HG.out _ _ _ HAR.out).mono ?_; rintro e w4 ⟨er, rfl, rfl⟩)
    | fail)
  go_ret
  exact ⟨rfl, H3.out, U3.out⟩
theorem Rd.keep {w w' : World} {R : Nat} {t : ByteArray} {st : RS} (h : Rd w R t st) {i g : Nat} {v : Value} (hw : w' = w.setCell ⟨g, i, none⟩ v) (hg : R ≠ g) : Rd w' R t st :=
  ⟨by rw [hw, heap_setCell_other _ _ _ _ hg]; exact h.box, h.le, h.small⟩
/-- the first j coordinates, the others still 0 -/
def zk (s : List UInt8) (d j : Nat) (st : RS) : List Nat := (keyS s j st).1 ++ List.replicate (d - j) 0
theorem zk_set (s : List UInt8) (d j : Nat) (st : RS) (h : j < d) : (zk s d j st).set j (nm s (keyS s j st).2 4).1 = zk s d (j + 1) st := by
  unfold zk
  obtain ⟨m, hm⟩ : ∃ m, d - j = m + 1 := ⟨d - j - 1, by omega⟩
  rw [hm, List.set_append, if_neg (by rw [keyS_len]; omega), keyS_len, Nat.sub_self, List.replicate_succ, List.set_cons_zero, show d - (j + 1) = m by omega]
  simp [keyS]
theorem zk_len (s : List UInt8) (d j : Nat) (st : RS) (h : j ≤ d) : (zk s d j st).length = d := by unfold zk; rw [List.length_append, keyS_len, List.length_replicate]; omega
theorem Wu.far {N R : Nat} {w wr : World} (h : Wu N R R w wr) {g : Nat} (hg : w.heap.size ≤ g) (hN : N ≤ g) (i : Nat) (v : Value) : Wu N R R w (wr.setCell ⟨g, i, none⟩ v) :=
  ⟨h.below.setCell (p := ⟨g, i, none⟩) hN v, by rw [World.size_setCell]; exact h.keep.size, fun k hk hD => by rw [heap_setCell_other _ _ _ _ (show k ≠ g by omega)]; exact h.keep.block k hk hD⟩
theorem own_ptd {w : World} {g N : Nat} {l : List Nat} (h : Own w g l) (hf : ∀ x ∈ l, x < 4294967296) (hg : N ≤ g) : PtD (Lt N) w (some ⟨g, 0, none⟩) l :=
  ⟨fun j hj => ⟨g, 0, rfl, h.lt, by unfold Lt; omega, by rw [Nat.zero_add]; exact h.cell j hj⟩, fun j hj => hf _ (List.getElem_mem hj)⟩
theorem own_keep {D : Nat → Prop} {w w' : World} {g : Nat} {l : List Nat} (h : Own w g l) (hk : Keep D w w') (hg : ¬ D g) : Own w' g l := (hk.block g h.lt hg).trans h
set_option maxRecDepth 100000 in
set_option maxHeartbeats 4000000 in
theorem rrecord_ok (d : Nat) (w : World) {N R : Nat} {t : ByteArray} {st : RS} (h : Rd w R t st) (hN : N ≤ R) (hd : d ≤ 6) (r : Rec × RS) (hr : recS t.data.toList d st = r) :
    Calls Try.prog 106 #[.pointer (some ⟨R, 0, none⟩), .int .i64 (d : Int)] w fun e w' => ∃ g c, e = .returned (.agg #[.slice (some ⟨g, 0, none⟩) r.1.1.length c, .string r.1.2]) ∧ Rd w' R t r.2 ∧ PtD (Lt w.heap.size) w' (some ⟨g, 0, none⟩) r.1.1 ∧ Wu N R R w w' := by
  have hR := h.lt
  obtain ⟨o0, ho0⟩ : ∃ o, o = Obj.cells #[Value.slice none 0 0, .string ⟨#[]⟩] 33 := ⟨_, rfl⟩
  have hmk := kmake d (by omega) (w.alloc o0)
  obtain ⟨W, hW⟩ : ∃ W, W = (w.alloc o0).alloc (.cells (kcs (List.replicate d 0)) 66) := ⟨_, rfl⟩
  have hB : Below w.heap.size w W := by rw [hW]; exact (below_alloc w o0).alloc (below_alloc w o0).size _
  have hZ : W.heap[w.heap.size]? = some (.cells #[Value.slice none 0 0, .string ⟨#[]⟩] 33) := by rw [hW, (two_new w o0 _).1, ho0]
  have hO : Own W (w.heap.size + 1) (List.replicate d 0) := by rw [hW]; exact (two_new w o0 _).2.1
  have hS : W.heap.size = w.heap.size + 2 := by rw [hW]; exact (two_new w o0 _).2.2
  have HREC := hid hr
  have HR0 := hid (h.below hB)
  have HU0 := hid (Wu.of_below (N := N) (G := R) (B := R) hB (by omega))
  have HZ := hid hZ; have HO := hid hO; have HS := hid hS
  clear h hB hZ hO hS hr
  go_enter Try.func106, Try.ntmps106
  subst ho0
  go_wp2_with fail
  rw [← hW]
  clear hW hmk
  have HUF := hid fun (wr : World) (i : Nat) (v : Value) (h : Wu N R R w wr) => h.far (Nat.le_succ w.heap.size) (by omega) i v
  go_loopw [12] (fun i wr => ∃ j : Nat, j ≤ d ∧ i = .int .i64 j ∧ Rd wr R t (keyS t.data.toList j st).2 ∧ Own wr (w.heap.size + 1) (zk t.data.toList d j st) ∧ wr.heap[w.heap.size]? = some (.cells #[Value.slice none 0 0, .string ⟨#[]⟩] 33) ∧ Wu N R R w wr) (fun i _ => d - (intOf i).toNat)
  case atStart => exact ⟨0, by omega, rfl, HR0.out, HO.out, HZ.out, HU0.out⟩
  case round =>
    obtain ⟨j, hj, rfl, hr, ho, hz, hu⟩ := hrel
    have HR := hid hr; have HOW := hid ho; have HZR := hid hz; have HU := hid hu; clear hr ho hz hu HR0 HO HZ HU0
    have hzl := zk_len t.data.toList d j st hj
    by_cases hlt : j < d
    · have HNM := hid (rnumber_ok 4 wr HR.out hN (.inr rfl))
      have HZS := hid (zk_set t.data.toList d j st hlt)
      have HKS := hid (show (nm t.data.toList (keyS t.data.toList j st).2 4).2 = (keyS t.data.toList (j + 1) st).2 from rfl)
      rw [HKS.out] at HNM
      have HZL := hid hzl
      clear hzl
      generalize (nm t.data.toList (keyS t.data.toList j st).2 4).1 = v at HNM HZS
      go_wp2_with (go_at_call 105; refine HNM.out.mono ?_; rintro e w2 ⟨rfl, h1, h2⟩; have HR2 := hid h1; have HO2 := hid (own_keep HOW.out h2.keep (by unfold K2; omega)); have HZ2 := hid ((h2.keep.block w.heap.size (by have := HOW.out.lt; omega) (by unfold K2; omega)).trans HZR.out); have HU2 := hid (HU.out.trans h2); have d1 := HO2.out.cell j (by have := HZL.out; omega); have d2 := HO2.out.frozen j; clear h1 h2)
      have HO3 := hid (HO2.out.set j v)
      rw [HZS.out] at HO3
      have HR3 := hid (HR2.out.keep (i := j) (g := w.heap.size + 1) (v := .int .u32 (v : Int)) rfl (by omega))
      have HZ3 := hid (show (w2.setCell ⟨w.heap.size + 1, j, none⟩ (.int .u32 (v : Int))).heap[w.heap.size]? = some (.cells #[Value.slice none 0 0, .string ⟨#[]⟩] 33) by rw [heap_setCell_other _ _ _ _ (show w.heap.size ≠ w.heap.size + 1 by omega)]; exact HZ2.out)
      have HU3 := hid (HUF.out w2 j (.int .u32 (v : Int)) HU2.out)
      go_roundw
      case rel => exact ⟨j + 1, by omega, by go_num, HR3.out, HO3.out, HZ3.out, HU3.out⟩
      case measure => simp [intOf]; omega
    · obtain rfl : j = d := by omega
      have HOK := hid (show Own wr (w.heap.size + 1) (keyS t.data.toList j st).1 by have := HOW.out; unfold zk at this; rwa [Nat.sub_self, List.replicate_zero, List.append_nil] at this)
      have HNM := hid (rnumber_ok 1 wr HR.out hN (.inl rfl))
      have HFT := hid (keyS_fit t.data.toList j st)
      have HKL := hid (keyS_len t.data.toList j st)
      have hm := nm_lt t.data.toList (keyS t.data.toList j st).2 1 (.inl rfl)
      have HREC2 := hid (show r = (((keyS t.data.toList j st).1, ⟨(nx t.data.toList (nm t.data.toList (keyS t.data.toList j st).2 1).2 (nm t.data.toList (keyS t.data.toList j st).2 1).1).1.toArray⟩), (nx t.data.toList (nm t.data.toList (keyS t.data.toList j st).2 1).2 (nm t.data.toList (keyS t.data.toList j st).2 1).1).2) from HREC.out.symm)
      clear hzl hlt HREC HOW
      generalize (keyS t.data.toList j st).1 = K at *
      generalize (nm t.data.toList (keyS t.data.toList j st).2 1).2 = st2 at *
      generalize (nm t.data.toList (keyS t.data.toList j st).2 1).1 = m at *
      have hxl := (nx_len t.data.toList st2 m).1
      have HNX := hid fun (w' : World) (h : Rd w' R t st2) => next_ok m w' h hN (by omega)
      generalize (nx t.data.toList st2 m).1 = x at *
      generalize (nx t.data.toList st2 m).2 = st3 at *
      have HCL := hid fun (w' : World) => strClone_ok ⟨x.toArray⟩ w' (by show x.toArray.size ≤ 1000000; rw [List.size_toArray]; omega)
      generalize (⟨x.toArray⟩ : ByteArray) = T at *
      clear hxl
      go_wp2_with (first
        | (go_at_call 105; refine HNM.out.mono ?_; rintro e w2 ⟨rfl, h1, h2⟩; have HR2 := hid h1; have HU2 := hid h2; clear h1 h2)
        | (go_at_call 118; refine (HNX.out _ HR2.out).mono ?_; rintro e w3 ⟨rfl, h1, h2⟩; have HR3 := hid h1; have HU3 := hid (HU2.out.trans h2); clear h1 h2)
        | (go_at_call 94; refine (HCL.out _).mono ?_; rintro e w4 ⟨rfl, hb⟩; have HR4 := hid (HR3.out.below hb); have HU4 := hid (HU3.out.trans (Wu.of_below (G := R) (B := R) hb (Nat.le_trans hN (Nat.le_of_lt HR3.out.lt)))); have HO4 := hid (own_keep HOK.out HU4.out.keep (by unfold K2; omega)); have HZ4 := hid ((HU4.out.keep.block w.heap.size (by have := HOK.out.lt; omega) (by unfold K2; omega)).trans HZR.out); have z4 := two_cells HZ4.out; clear hb)
        | fail)
      have y := two_cells (two_set HZ4.out (.slice (some ⟨w.heap.size + 1, 0, none⟩) j j) (.string T))
      have HO5 := hid ((HO4.out.far (p := ⟨w.heap.size, 0, none⟩) (by show w.heap.size + 1 ≠ w.heap.size; omega) (.slice (some ⟨w.heap.size + 1, 0, none⟩) j j)).far (p := ⟨w.heap.size, 1, none⟩) (by show w.heap.size + 1 ≠ w.heap.size; omega) (.string T))
      have HR5 := hid ((HR4.out.keep (i := 0) (g := w.heap.size) (v := .slice (some ⟨w.heap.size + 1, 0, none⟩) j j) rfl (by omega)).keep (i := 1) (g := w.heap.size) (v := .string T) rfl (by omega))
      have HU5 := hid ((HU.out.trans HU4.out).far (Nat.le_refl _) (by omega) 0 (.slice (some ⟨w.heap.size + 1, 0, none⟩) j j) |>.far (Nat.le_refl _) (by omega) 1 (.string T))
      clear z4
      refine bodyPost_ret (v := .agg #[.slice (some ⟨w.heap.size + 1, 0, none⟩) j j, .string T]) (by simp [results, Try.results106, go_sem, y]) rfl ?_
      rw [HREC2.out]
      refine ⟨w.heap.size + 1, j, ?_, HR5.out, own_ptd HO5.out HFT.out (by omega), HU5.out⟩
      rw [HKL.out]
end Go.Proofs.Ytkjcbfdplhcjpaa.Bk
