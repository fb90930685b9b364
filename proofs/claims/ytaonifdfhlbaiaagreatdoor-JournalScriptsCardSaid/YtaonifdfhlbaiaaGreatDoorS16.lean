/- Merged out of DkLk, DkView, JnPl, JnRc. -/
import Derived.Test.YtaonifdfhlbaiaaGreatDoorS06
import Derived.Test.YtaonifdfhlbaiaaGreatDoorS15
import Derived.Test.YtaonifdfhlbaiaaGreatDoorS07
/- Two disks, or a disk and blocks of others: each call's contract, by what stays. -/
namespace Go.Proofs.YtaonifdfhlbaiaaGreatDoor.Dk
open Go.RowKit
open Go.Lib (hid)

/-- a disk at D that is new since w, nothing that was there at w has turned, and the blocks K are none of its own -/
structure Lk (w wr : World) (K : Nat → Prop) (D : Nat) (s : St) : Prop where
  ex : ∃ d : Ptrs, d.D = D ∧ Dsk wr d s ∧ (∀ k, Foot d k → w.heap.size ≤ k) ∧ ∀ k, K k → ¬ Foot d k
  below : Below w.heap.size w wr
  lt : ∀ k, K k → k < wr.heap.size
/-- the blocks K are as they were -/
def Stay (K : Nat → Prop) (wr w' : World) : Prop := ∀ k, K k → w'.heap[k]? = wr.heap[k]?
section
variable {w wr w' : World} {K : Nat → Prop} {D : Nat} {s : St}
theorem Lk.lv (h : Lk w wr K D s) : Lv w wr D s := by
  obtain ⟨d, h1, h2, h3, _⟩ := h.ex
  exact ⟨⟨d, h1, h2, h3⟩, h.below⟩
theorem Lv.lk (h : Lv w wr D s) : Lk w wr (fun _ => False) D s := by
  obtain ⟨d, h1, h2, h3⟩ := h.ex
  exact ⟨⟨d, h1, h2, h3, fun k hk => hk.elim⟩, h.below, fun k hk => hk.elim⟩
theorem Lk.good (h : Lk w wr K D s) : Good s := h.lv.good
theorem Lk.next (h : Lk w wr K D s) (hb : Below wr.heap.size wr w') : Lk w w' K D s ∧ Stay K wr w' := by
  obtain ⟨d, h1, h2, h3, h4⟩ := h.ex
  exact ⟨⟨⟨d, h1, h2.below hb, h3, h4⟩, h.below.trans (hb.mono h.below.size), fun k hk => Nat.lt_of_lt_of_le (h.lt k hk) hb.size⟩, fun k hk => hb.block k (h.lt k hk)⟩
theorem Lk.drew (h : Lk w wr K D s) : Lk w wr.drew K D s := by
  obtain ⟨d, h1, h2, h3, h4⟩ := h.ex
  exact ⟨⟨d, h1, h2.drew, h3, h4⟩, h.below.drew, h.lt⟩
theorem Lk.drewN (h : Lk w wr K D s) (n : Nat) : Lk w (wr.drewN n) K D s := by
  obtain ⟨d, h1, h2, h3, h4⟩ := h.ex
  exact ⟨⟨d, h1, h2.drewN n, h3, h4⟩, ⟨h.below.os, h.below.tape, h.below.output, h.below.size, h.below.block⟩, h.lt⟩
/-- others' blocks have come, or new ones -/
theorem Lk.more {K' : Nat → Prop} (h : Lk w wr K D s) (hb : Below wr.heap.size wr w') (hK : ∀ k, K' k → K k ∨ wr.heap.size ≤ k) (hl : ∀ k, K' k → k < w'.heap.size) : Lk w w' K' D s := by
  obtain ⟨d, h1, h2, h3, h4⟩ := h.ex
  refine ⟨⟨d, h1, h2.below hb, h3, fun k hk hf => ?_⟩, h.below.trans (hb.mono h.below.size), hl⟩
  rcases hK k hk with h5 | h5
  · exact h4 k h5 hf
  · have := h2.lt k hf; omega
/-- others' blocks alone have turned -/
theorem Lk.other (h : Lk w wr K D s) (h1 : w'.os = wr.os) (h2 : w'.tape = wr.tape) (h3 : w'.output = wr.output) (h4 : wr.heap.size ≤ w'.heap.size) (hK : ∀ k, k < wr.heap.size → ¬ K k → w'.heap[k]? = wr.heap[k]?) (hge : ∀ k, K k → w.heap.size ≤ k) : Lk w w' K D s := by
  obtain ⟨d, g1, g2, g3, g4⟩ := h.ex
  refine ⟨⟨d, g1, g2.kept fun k hk => hK k (g2.lt k hk) (fun hk' => g4 k hk' hk), g3, g4⟩, h.below.trans ⟨h1, h2, h3, h4, fun k hk => hK k (by have := h.below.size; omega) (fun hk' => by have := hge k hk'; omega)⟩, fun k hk => Nat.lt_of_lt_of_le (h.lt k hk) h4⟩
theorem Lk.step {d : Ptrs} (d' : Ptrs) {s' : St} (hf : ∀ k, Foot d k → w.heap.size ≤ k) (hK : ∀ k, K k → ¬ Foot d k) (hl : ∀ k, K k → k < wr.heap.size) (hb : Below w.heap.size w wr) (hd : Dsk w' d' s') (ho : Only d wr w') (hfr : From d d' wr) (hDD : d'.D = d.D) : Lk w w' K d.D s' ∧ Stay K wr w' :=
  ⟨⟨⟨d', hDD, hd, fun k hk => by
    rcases hfr k hk with h | h
    · exact hf k h
    · have := hb.size; omega, fun k hk hk' => by
    rcases hfr k hk' with h | h
    · exact hK k hk h
    · have := hl k hk; omega⟩, hb.trans (ho.to_below hb.size hf), fun k hk => Nat.lt_of_lt_of_le (hl k hk) ho.size⟩, fun k hk => ho.block k (hl k hk) (hK k hk)⟩
end
theorem lk_write (n : Nat) (t : ByteArray) {w wr : World} {K : Nat → Prop} {D : Nat} {s : St} (h : Lk w wr K D s) (hn : n < s.pages.length) (ht : t.size = 256) (hfz : s.fuse ≠ 0) (hf : s.waits.length < 1000000) (hw : s.writes < 1000000) :
    Calls Tryz.prog 16 #[.pointer (some ⟨D, 0, none⟩), .int .i64 (n : Int), .string t] wr fun e w' => e = .returned (.int .i64 0) ∧ Lk w w' K D (writeS s n t) ∧ Stay K wr w' := by
  obtain ⟨d, rfl, hd, hfo, hK⟩ := h.ex
  exact (write_ok d s n t wr hd hn ht hfz hf hw).mono fun _ _ ⟨h1, v, h2, h3, h4⟩ => ⟨h1, Lk.step { d with wv := v } hfo hK h.lt h.below h2 h3 h4 rfl⟩
theorem lk_write_bad (n : Int) (t : ByteArray) {w wr : World} {K : Nat → Prop} {D : Nat} {s : St} (h : Lk w wr K D s) (hb : n < 0 ∨ s.pages.length ≤ n ∨ t.size ≠ 256 ∨ s.fuse = 0) :
    Calls Tryz.prog 16 #[.pointer (some ⟨D, 0, none⟩), .int .i64 n, .string t] wr fun e w' => e = .returned (.int .i64 1) ∧ wr = w' := lv_write_bad n t h.lv hb
theorem lk_flush {w wr : World} {K : Nat → Prop} {D : Nat} {s : St} (h : Lk w wr K D s) (hfz : s.fuse ≠ 0) (hfl : s.flushes < 1000000) :
    Calls Tryz.prog 35 #[.pointer (some ⟨D, 0, none⟩)] wr fun e w' => e = .returned (.int .i64 (s.waits.length : Int)) ∧ Lk w w' K D (flushS s) ∧ Stay K wr w' := by
  obtain ⟨d, rfl, hd, hfo, hK⟩ := h.ex
  exact (flush_ok d s wr hd hfz hfl).mono fun _ _ ⟨h1, v, h2, h3, h4⟩ => ⟨h1, Lk.step { d with wv := v } hfo hK h.lt h.below h2 h3 h4 rfl⟩
theorem lk_read (i : Nat) (t : ByteArray) {w wr : World} {K : Nat → Prop} {D : Nat} {s : St} (h : Lk w wr K D s) (hi : i < s.pages.length) (hr : s.reads < 1000000) (ht : (applyW s.pages s.waits)[i]? = some t) :
    Calls Tryz.prog 65 #[.pointer (some ⟨D, 0, none⟩), .int .i64 (i : Int)] wr fun e w' => e = .returned (.tuple #[.string t, .int .i64 0]) ∧ Lk w w' K D (readS s) ∧ Stay K wr w' := by
  obtain ⟨d, rfl, hd, hfo, hK⟩ := h.ex
  refine (read_ok d s i wr hd hi hr).mono fun _ _ ⟨t', h1, h2, h3, h4⟩ => ?_
  rw [ht] at h2
  cases h2
  exact ⟨h1, Lk.step d hfo hK h.lt h.below h3 h4 (From.refl _ _) rfl⟩
theorem lk_crash (q : Option Addr) (c : Nat) (ks : List Int) (torn a : Int) (o : List ByteArray) {w wr : World} {K : Nat → Prop} {D : Nat} {s : St} (h : Lk w wr K D s) (hks : Dk.Kept wr q ks) (hkm : ks.length ≤ maxLen) (hc : comeS s ks torn a = some o) :
    Calls Tryz.prog 18 #[.pointer (some ⟨D, 0, none⟩), .slice q ks.length c, .int .i64 torn, .int .i64 a] wr fun e w' => e = .returned (.int .i64 0) ∧ Lk w w' K D (crashS s o) ∧ Stay K wr w' := by
  obtain ⟨d, rfl, hd, hfo, hK⟩ := h.ex
  exact (crash_ok d s wr hd q c ks hks hkm torn a o hc).mono fun _ _ ⟨h1, v, h2, h3, h4⟩ => ⟨h1, Lk.step { d with wv := v } hfo hK h.lt h.below h2 h3 h4 rfl⟩
/-- two disks, apart from one another, both new since w, and blocks K that are neither's -/
structure L2 (w wr : World) (K : Nat → Prop) (A : Nat) (s : St) (B : Nat) (t : St) : Prop where
  ex : ∃ a b : Ptrs, a.D = A ∧ b.D = B ∧ Dsk wr a s ∧ Dsk wr b t ∧ (∀ k, Foot a k → w.heap.size ≤ k) ∧ (∀ k, Foot b k → w.heap.size ≤ k) ∧ (∀ k, Foot a k → ¬ Foot b k) ∧ (∀ k, K k → ¬ Foot a k) ∧ ∀ k, K k → ¬ Foot b k
  below : Below w.heap.size w wr
  lt : ∀ k, K k → k < wr.heap.size
section
variable {w wr w' : World} {K : Nat → Prop} {A B : Nat} {s t : St}
theorem L2.symm (h : L2 w wr K A s B t) : L2 w wr K B t A s := by
  obtain ⟨a, b, h1, h2, h3, h4, h5, h6, h7, h8, h9⟩ := h.ex
  exact ⟨⟨b, a, h2, h1, h4, h3, h6, h5, fun k hk hk' => h7 k hk' hk, h9, h8⟩, h.below, h.lt⟩
theorem L2.next (h : L2 w wr K A s B t) (hb : Below wr.heap.size wr w') : L2 w w' K A s B t ∧ Stay K wr w' := by
  obtain ⟨a, b, h1, h2, h3, h4, h5, h6, h7, h8, h9⟩ := h.ex
  exact ⟨⟨⟨a, b, h1, h2, h3.below hb, h4.below hb, h5, h6, h7, h8, h9⟩, h.below.trans (hb.mono h.below.size), fun k hk => Nat.lt_of_lt_of_le (h.lt k hk) hb.size⟩, fun k hk => hb.block k (h.lt k hk)⟩
theorem L2.first (h : L2 w wr K A s B t) : Lk w wr K A s := by
  obtain ⟨a, b, h1, h2, h3, h4, h5, h6, h7, h8, h9⟩ := h.ex
  exact ⟨⟨a, h1, h3, h5, h8⟩, h.below, h.lt⟩
/-- a call of the first disk: 'a' turns, the second one stays -/
theorem L2.call {f : FuncId} {args : Array Value} {R : Ending → Prop} {s' : St} (h : L2 w wr K A s B t)
    (hc : ∀ a : Ptrs, a.D = A → Dsk wr a s → Calls Tryz.prog f args wr fun e w' => R e ∧ ∃ a' : Ptrs, a'.D = a.D ∧ Dsk w' a' s' ∧ Only a wr w' ∧ From a a' wr) :
    Calls Tryz.prog f args wr fun e w' => R e ∧ L2 w w' K A s' B t ∧ Stay K wr w' := by
  obtain ⟨a, b, h1, h2, h3, h4, h5, h6, h7, h8, h9⟩ := h.ex
  refine (hc a h1 h3).mono fun e w' ⟨r, a', g1, g2, g3, g4⟩ => ⟨r, ⟨⟨a', b, g1.trans h1, h2, g2, h4.other g3 (fun k hk hk' => h7 k hk' hk), fun k hk => ?_, h6, fun k hk hk' => ?_, fun k hk hk' => ?_, h9⟩,
    h.below.trans (g3.to_below h.below.size h5), fun k hk => Nat.lt_of_lt_of_le (h.lt k hk) g3.size⟩, fun k hk => g3.block k (h.lt k hk) (h8 k hk)⟩
  · rcases g4 k hk with h | h'
    · exact h5 k h
    · have := h.below.size; omega
  · rcases g4 k hk with h | h
    · exact h7 k h hk'
    · have := h4.lt k hk'; omega
  · rcases g4 k hk' with h' | h'
    · exact h8 k hk h'
    · have := h.lt k hk; omega
/-- a second disk, new -/
theorem l2_new (n : Nat) {w wr : World} {A : Nat} {s : St} (h : Lv w wr A s) (h1 : 1 ≤ n) (h2 : n ≤ 1000) :
    Calls Tryz.prog 5 #[.int .i64 (n : Int)] wr fun e w' => ∃ B, e = .returned (.tuple #[.pointer (some ⟨B, 0, none⟩), .int .i64 0]) ∧ L2 w w' (fun _ => False) A s B (newS (blanks n)) := by
  obtain ⟨a, rfl, ha, hfa⟩ := h.ex
  refine (new_ok n wr h1 h2).mono fun e w' ⟨d, g1, g2, g3, g4⟩ => ⟨d.D, g1, ⟨⟨a, d, rfl, rfl, ha.below g3, g2, hfa, fun k hk => Nat.le_trans h.below.size (g4 k hk), fun k hk hk' => ?_, fun k hk => hk.elim, fun k hk => hk.elim⟩, h.below.trans (g3.mono h.below.size), fun k hk => hk.elim⟩⟩
  have := ha.lt k hk
  have := g4 k hk'
  omega
end
theorem l2_write (n : Nat) (p : ByteArray) {w wr : World} {K : Nat → Prop} {A B : Nat} {s t : St} (h : L2 w wr K A s B t) (hn : n < s.pages.length) (ht : p.size = 256) (hfz : s.fuse ≠ 0) (hf : s.waits.length < 1000000) (hw : s.writes < 1000000) :
    Calls Tryz.prog 16 #[.pointer (some ⟨A, 0, none⟩), .int .i64 (n : Int), .string p] wr fun e w' => e = .returned (.int .i64 0) ∧ L2 w w' K A (writeS s n p) B t ∧ Stay K wr w' :=
  h.call (R := fun e => e = .returned (.int .i64 0)) fun a ha hd => by
    subst ha
    exact (write_ok a s n p wr hd hn ht hfz hf hw).mono fun _ _ ⟨h1, v, h2, h3, h4⟩ => ⟨h1, { a with wv := v }, rfl, h2, h3, h4⟩
theorem l2_flush {w wr : World} {K : Nat → Prop} {A B : Nat} {s t : St} (h : L2 w wr K A s B t) (hfz : s.fuse ≠ 0) (hfl : s.flushes < 1000000) :
    Calls Tryz.prog 35 #[.pointer (some ⟨A, 0, none⟩)] wr fun e w' => e = .returned (.int .i64 (s.waits.length : Int)) ∧ L2 w w' K A (flushS s) B t ∧ Stay K wr w' :=
  h.call (R := fun e => e = .returned (.int .i64 (s.waits.length : Int))) fun a ha hd => by
    subst ha
    exact (flush_ok a s wr hd hfz hfl).mono fun _ _ ⟨h1, v, h2, h3, h4⟩ => ⟨h1, { a with wv := v }, rfl, h2, h3, h4⟩
theorem l2_crash (q : Option Addr) (c : Nat) (ks : List Int) (torn x : Int) (o : List ByteArray) {w wr : World} {K : Nat → Prop} {A B : Nat} {s t : St} (h : L2 w wr K A s B t) (hks : Dk.Kept wr q ks) (hkm : ks.length ≤ maxLen) (hc : comeS s ks torn x = some o) :
    Calls Tryz.prog 18 #[.pointer (some ⟨A, 0, none⟩), .slice q ks.length c, .int .i64 torn, .int .i64 x] wr fun e w' => e = .returned (.int .i64 0) ∧ L2 w w' K A (crashS s o) B t ∧ Stay K wr w' :=
  h.call (R := fun e => e = .returned (.int .i64 0)) fun a ha hd => by
    subst ha
    exact (crash_ok a s wr hd q c ks hks hkm torn x o hc).mono fun _ _ ⟨h1, v, h2, h3, h4⟩ => ⟨h1, { a with wv := v }, rfl, h2, h3, h4⟩
end Go.Proofs.YtaonifdfhlbaiaaGreatDoor.Dk

/- What is read of a disk, and what a crash that keeps all leaves. -/
namespace Go.Proofs.YtaonifdfhlbaiaaGreatDoor.Dk

/-- what is read of a disk: its pages, behind all that waits -/
def viewS (s : St) : List ByteArray := applyW s.pages s.waits
theorem view_write (s : St) (n : Nat) (t : ByteArray) : viewS (writeS s n t) = (viewS s).set n t := by
  unfold viewS
  show applyW s.pages (s.waits ++ [(n, t)]) = _
  rw [applyW_snoc]
theorem view_flush (s : St) : viewS (flushS s) = viewS s ∧ (flushS s).pages = viewS s ∧ (flushS s).waits = [] := by
  have e : (flushS s).pages = viewS s := by
    show applyW s.pages (s.waits.take s.waits.length) = _
    rw [List.take_length]; rfl
  refine ⟨?_, e, rfl⟩
  show applyW (flushS s).pages [] = _
  rw [e]; rfl
theorem view_read (s : St) : viewS (readS s) = viewS s := rfl
theorem view_new (l : List ByteArray) : viewS (newS l) = l := rfl
theorem view_length (s : St) : (viewS s).length = s.pages.length := applyW_length _ _
/-- the texts of the first n writes, the others still none -/
def firstT (s : St) (n : Nat) : List ByteArray := (s.waits.map (·.2)).take n ++ List.replicate (s.waits.length - n) emptyB
theorem firstT_length (s : St) (n : Nat) (h : n ≤ s.waits.length) : (firstT s n).length = s.waits.length := by simp [firstT]; omega
theorem firstT_zero (s : St) : firstT s 0 = none0 s := by simp [firstT, none0]
theorem firstT_set (s : St) (n : Nat) (h : n < s.waits.length) : (firstT s n).set n (textAt s n) = firstT s (n + 1) := by
  unfold firstT textAt
  have hl : n < (s.waits.map (·.2)).length := by simpa using h
  have ht : ((s.waits.map (·.2)).take n).length = n := by simp; omega
  rw [List.set_append, if_neg (by omega), ht, Nat.sub_self, List.take_succ_eq_append_getElem hl]
  obtain ⟨d, hd⟩ : ∃ d, s.waits.length - n = d + 1 := ⟨s.waits.length - n - 1, by omega⟩
  have : s.waits.length - (n + 1) = d := by omega
  rw [hd, this, List.replicate_succ, List.set_cons_zero]
  simp [h]
theorem firstT_free (s : St) (n : Nat) (h : n < s.waits.length) : freeB (firstT s n) (n : Int) = true := by
  unfold freeB
  rw [firstT_length s n (by omega)]
  have e : (firstT s n).getD n emptyB = emptyB := by
    unfold firstT
    have ht : ((s.waits.map (·.2)).take n).length = n := by simp; omega
    rw [List.getD_eq_getElem?_getD, List.getElem?_append_right (by omega), ht, Nat.sub_self, List.getElem?_replicate]
    split <;> rfl
  rw [Int.toNat_natCast, e, emptyB_nil]
  simp [h]
/-- so many numbers, from 0 on -/
def upTo (n : Nat) : List Int := (List.range n).map fun (i : Nat) => (i : Int)
theorem upTo_snoc (n : Nat) : upTo n ++ [(n : Int)] = upTo (n + 1) := by simp [upTo, List.range_succ]
theorem upTo_length (n : Nat) : (upTo n).length = n := by simp [upTo]
theorem keep_upTo (s : St) (n : Nat) (h : n ≤ s.waits.length) : keepL s (upTo n) (none0 s) = some (firstT s n) := by
  induction n with
  | zero => rw [firstT_zero]; rfl
  | succ n ih =>
    rw [← upTo_snoc, keepL_app, ih (by omega)]
    show keepL s [(n : Int)] (firstT s n) = _
    unfold keepL
    rw [if_pos (firstT_free s n (by omega)), Int.toNat_natCast, firstT_set s n (by omega)]
    rfl
/-- a crash that keeps all that waits -/
theorem come_all (s : St) : comeS s (upTo s.waits.length) (-1) 0 = some (firstT s s.waits.length) := by
  unfold comeS
  rw [keep_upTo s _ (Nat.le_refl _)]
  rfl
theorem firstT_all (s : St) (k : Nat) (h : k < s.waits.length) : (firstT s s.waits.length).getD k emptyB = (s.waits[k]).2 := by
  unfold firstT
  rw [Nat.sub_self, List.replicate_zero, List.append_nil, List.take_of_length_le (by simp)]
  simp [List.getD_eq_getElem?_getD, h]
theorem crashP_view (s : St) (hs : ∀ x ∈ s.waits, x.2.size = 256) (k : Nat) (h : k ≤ s.waits.length) : crashP s (firstT s s.waits.length) k = applyW s.pages (s.waits.take k) := by
  induction k with
  | zero => rfl
  | succ k ih =>
    unfold crashP
    have hk : k < s.waits.length := by omega
    rw [firstT_all s k hk, ih (by omega), List.take_succ_eq_append_getElem hk, applyW_snoc]
    have hn : (s.waits[k]).2.toList.isEmpty = false := by
      have hz := hs _ (List.getElem_mem hk)
      cases e : (s.waits[k]).2.toList.isEmpty with
      | false => rfl
      | true =>
        rw [List.isEmpty_iff, ByteArray.toList_eq] at e
        have : (s.waits[k]).2.size = 0 := by
          show (s.waits[k]).2.data.size = 0
          rw [← Array.length_toList, e]; rfl
        omega
    rw [if_neg (by rw [hn]; simp)]
    simp [List.getD_eq_getElem?_getD, hk]
/-- a crash that keeps all is as a flush -/
theorem crash_all_pages (s : St) (hs : ∀ x ∈ s.waits, x.2.size = 256) : (crashS s (firstT s s.waits.length)).pages = viewS s := by
  show crashP s _ s.waits.length = _
  rw [crashP_view s hs _ (Nat.le_refl _), List.take_length]; rfl
end Go.Proofs.YtaonifdfhlbaiaaGreatDoor.Dk

/- What a journal's pages say behind a Commit, an Abort. Plain. -/
namespace Go.Proofs.YtaonifdfhlbaiaaGreatDoor.Jn
open Go.RowKit
open Go.Proofs.YtaonifdfhlbaiaaGreatDoor.Dk
open Go.Proofs.YtaonifdfhlbaiaaGreatDoor.En (Lst entC encR mayE mayS PageT textS entB Rd)
open Go.Proofs.YtaonifdfhlbaiaaGreatDoor.Pg (sealL openL mayP)
open Go.Proofs.YtaonifdfhlbaiaaGreatDoor.Sm (U sumB)

theorem vw_view (s : St) (m : Nat) : vw s m = (viewS s).getD m emptyB := rfl
theorem getD_set {l : List ByteArray} {m j : Nat} {u d : ByteArray} (h : m < l.length) : (l.set m u).getD j d = if j = m then u else l.getD j d := by
  rw [List.getD_eq_getElem?_getD, List.getD_eq_getElem?_getD, List.getElem?_set]
  by_cases e : m = j
  · subst e; rw [if_pos rfl, if_pos rfl, if_pos h]; rfl
  · rw [if_neg e, if_neg (fun h => e h.symm)]
/-- a write that comes to pass -/
theorem wr_yes {s : St} {m : Nat} {u : ByteArray} (hf : s.fuse = -1) (hm : m < s.pages.length) (hu : u.size = 256) : wrU s (m : Int) u = (0, writeS s m u) := by
  unfold wrU
  rw [if_pos ⟨by omega, by omega, hu, by omega⟩, Int.toNat_natCast]
theorem wr_fuse {s : St} {m : Int} {u : ByteArray} (hf : s.fuse = -1) : (wrU s m u).2.fuse = -1 := by
  unfold wrU
  split
  · show burnI s.fuse = -1
    rw [hf]; rfl
  · exact hf
theorem wr_vw {s : St} {m : Nat} {u : ByteArray} (hf : s.fuse = -1) (hm : m < s.pages.length) (hu : u.size = 256) (j : Nat) : vw (wrU s (m : Int) u).2 j = if j = m then u else vw s j := by
  rw [wr_yes hf hm hu, vw_view, view_write, getD_set (by rw [view_length]; exact hm)]; rfl
theorem fl_fuse {s : St} (hf : s.fuse = -1) : (flU s).2.fuse = -1 := by
  unfold flU
  rw [if_neg (by omega)]
  show burnI s.fuse = -1
  rw [hf]; rfl
theorem fl_vw (s : St) : vw (flU s).2 = vw s := by
  unfold flU
  split
  · rfl
  · funext j; rw [vw_view, vw_view, (view_flush s).1]
theorem pgJ_size {m : Nat} {kd tx ix pk pn : Int} {bo : ByteArray} {ct sm : Int} (hs : 0 ≤ sm) (hm : mayE kd tx ix pk pn bo ct sm) : (pgJ m kd tx ix pk pn bo ct sm).size = 256 := by
  have hz := En.encR_size hs hm
  show (sealL 5 m (encR kd tx ix pk pn bo ct sm).1.data.toList).toArray.size = 256
  rw [List.size_toArray, Pg.sealL_length _ _ _ (by rw [Fd.size_list]; exact hz.2)]
theorem open_pgJ {m : Nat} {kd tx ix pk pn : Int} {bo : ByteArray} {ct sm : Int} (hs : 0 ≤ sm) (hm : mayE kd tx ix pk pn bo ct sm) (hm2 : m < 1000) : openL (pgJ m kd tx ix pk pn bo ct sm).data.toList = (5, m, (encR kd tx ix pk pn bo ct sm).1.data.toList, 0) := by
  have hz := En.encR_size hs hm
  show openL (sealL 5 m (encR kd tx ix pk pn bo ct sm).1.data.toList).toArray.toList = _
  rw [List.toList_toArray]
  exact Pg.open_seal 5 m _ ⟨by decide, by decide, by omega, by omega, by rw [Fd.size_list]; exact_mod_cast hz.2⟩
/-- a page that was written as an entry is read as it -/
theorem isJ_pgJ {m i t : Nat} {kd pk pn : Int} {bo : ByteArray} {ct sm : Int} (hs : 0 ≤ sm) (hs2 : sm < 4294967296) (hm : mayE kd t i pk pn bo ct sm) (hm2 : m < 1000) : IsJ (pgJ m kd t i pk pn bo ct sm) m i t kd pk pn bo ct sm :=
  ⟨_, open_pgJ hs hm hm2, hs, hs2, hm, rfl⟩
theorem text_inj {a b : ByteArray} (h : a.data.toList = b.data.toList) : a = b := by
  apply ByteArray.ext
  exact Array.toList_inj.1 h
/-- and as no other one -/
theorem isJ_same {u : ByteArray} {m i t i' t' : Nat} {kd pk pn : Int} {bo : ByteArray} {ct sm : Int} {kd' pk' pn' : Int} {bo' : ByteArray} {ct' sm' : Int} (h : IsJ u m i t kd pk pn bo ct sm) (h' : IsJ u m i' t' kd' pk' pn' bo' ct' sm') :
    kd = kd' ∧ t = t' ∧ i = i' ∧ pk = pk' ∧ pn = pn' ∧ bo = bo' ∧ ct = ct' ∧ sm = sm' := by
  obtain ⟨S, h1, h2, h3, h4, h5⟩ := h
  obtain ⟨S', g1, g2, g3, g4, g5⟩ := h'
  rw [h1] at g1
  have e : S = S' := text_inj (by injection g1 with _ g1; injection g1 with _ g1; injection g1 with g1 _)
  have r1 := En.rd_enc h2 h3 h4
  have r2 := En.rd_enc g2 g3 g4
  rw [h5, e] at r1
  rw [g5] at r2
  obtain ⟨a1, a2, a3, a4, a5, a6, a7, a8⟩ := r1.same r2
  exact ⟨a1, by omega, by omega, a4, a5, a6, a7, a8⟩
/-- a scan gives one thing -/
theorem Scans.det {V : Nat → ByteArray} {b n t i : Nat} {acc : List PageT} {r r' : Option (List PageT)} (h : Scans V b n t i acc r) (h' : Scans V b n t i acc r') : r = r' := by
  induction h with
  | stop h => cases h' with
    | stop => rfl
    | no g => omega
    | page g => omega
    | done g => omega
    | other g => omega
  | no h hn => cases h' with
    | stop g => omega
    | no => rfl
    | page _ gj => exact absurd gj (hn _ _ _ _ _ _)
    | done _ gj => exact absurd gj (hn _ _ _ _ _ _)
    | other _ gj => exact absurd gj (hn _ _ _ _ _ _)
  | page h hj _ ih => cases h' with
    | stop g => omega
    | no _ gn => exact absurd hj (gn _ _ _ _ _ _)
    | page _ gj gs =>
      obtain ⟨-, -, -, rfl, rfl, rfl, -, -⟩ := isJ_same hj gj
      exact ih gs
    | done _ gj gk => exact absurd (isJ_same hj gj).1.symm gk
    | other _ gj gk => exact absurd (isJ_same hj gj).1.symm gk
  | done h hj hk he => cases h' with
    | stop g => omega
    | no _ gn => exact absurd hj (gn _ _ _ _ _ _)
    | page _ gj => exact absurd (isJ_same hj gj).1 hk
    | done => rfl
    | other _ gj _ ge =>
      obtain ⟨rfl, -, -, rfl, rfl, rfl, rfl, rfl⟩ := isJ_same hj gj
      rw [he] at ge; cases ge
  | other h hj hk he => cases h' with
    | stop g => omega
    | no _ gn => exact absurd hj (gn _ _ _ _ _ _)
    | page _ gj => exact absurd (isJ_same hj gj).1 hk
    | other => rfl
    | done _ gj _ ge =>
      obtain ⟨rfl, -, -, rfl, rfl, rfl, rfl, rfl⟩ := isJ_same hj gj
      rw [he] at ge; cases ge
/-- the page that is staged at i -/
noncomputable def stg (b t : Nat) (L : List PageT) (i : Nat) : ByteArray := pgJ (b + i) 1 t (i : Nat) (L.getD i (0, 0, ⟨#[]⟩)).1 (L.getD i (0, 0, ⟨#[]⟩)).2.1 (L.getD i (0, 0, ⟨#[]⟩)).2.2 0 0
noncomputable def cmt (b t : Nat) (L : List PageT) : ByteArray := pgJ (b + L.length) 2 t (L.length : Nat) 0 0 ⟨#[]⟩ (L.length : Nat) (U (sumB (textS L L.length)))
theorem stg_at {b t : Nat} {L : List PageT} {i : Nat} (h : i < L.length) : stg b t L i = pgJ (b + i) 1 t (i : Nat) L[i].1 L[i].2.1 L[i].2.2 0 0 := by
  unfold stg
  rw [List.getD_eq_getElem?_getD, List.getElem?_eq_getElem h]; rfl
theorem stg_size {b n t : Nat} (ok : JOk b n t) {L : List PageT} (hs : AllS L) {i : Nat} (h : i < L.length) (hl : L.length ≤ 999) : (stg b t L i).size = 256 := by
  rw [stg_at h]
  exact pgJ_size (by decide) (may1 t i ok.t1 ok.t2 (by omega) (hs i h))
theorem U_fit (x : BitVec 32) : 0 ≤ U x ∧ U x < 4294967296 := by unfold U; have := x.isLt; omega
theorem wrS_fuse {s : St} (hf : s.fuse = -1) (b t : Nat) (L : List PageT) (i : Nat) : (wrS s b t L i).fuse = -1 := by
  induction i with
  | zero => exact hf
  | succ i ih => exact wr_fuse ih
theorem wrS_len {s : St} (b t : Nat) (L : List PageT) (i : Nat) : (wrS s b t L i).pages.length = s.pages.length := by
  induction i with
  | zero => rfl
  | succ i ih => exact (wr_len _ _ _).trans ih
theorem wrS_vw {s : St} (hf : s.fuse = -1) {b n t : Nat} (ok : JOk b n t) {L : List PageT} (hs : AllS L) (hl : L.length < n) (hp : b + n ≤ s.pages.length) (i : Nat) (hi : i ≤ L.length) (j : Nat) :
    vw (wrS s b t L i) j = if b ≤ j ∧ j < b + i then stg b t L (j - b) else vw s j := by
  induction i with
  | zero => rw [if_neg (by omega)]; rfl
  | succ i ih =>
    have h1 := wr_vw (s := wrS s b t L i) (m := b + i) (u := stg b t L i) (wrS_fuse hf b t L i) (by rw [wrS_len]; omega) (stg_size ok hs (by omega) (by have := ok.n9; omega)) j
    have e : wrS s b t L (i + 1) = (wrU (wrS s b t L i) ((b + i : Nat) : Int) (stg b t L i)).2 := rfl
    rw [e, h1, ih (by omega)]
    by_cases hj : j = b + i
    · rw [if_pos hj, if_pos (by omega), show j - b = i by omega]
    · rw [if_neg hj]
      by_cases h2 : b ≤ j ∧ j < b + i
      · rw [if_pos h2, if_pos (by omega)]
      · rw [if_neg h2, if_neg (by omega)]
theorem cmt_size {b n t : Nat} (ok : JOk b n t) {L : List PageT} (h0 : 0 < L.length) (hl : L.length < n) : (cmt b t L).size = 256 :=
  pgJ_size (U_fit _).1 (may2 t L.length _ ok.t1 ok.t2 (by have := ok.n9; omega) h0)
/-- behind a Commit -/
theorem com_vw {s : St} (hf : s.fuse = -1) {b n t : Nat} (ok : JOk b n t) {L : List PageT} (h0 : 0 < L.length) (hs : AllS L) (hl : L.length < n) (hp : b + n ≤ s.pages.length) (j : Nat) :
    vw (comS s b t L) j = if b ≤ j ∧ j < b + L.length then stg b t L (j - b) else if j = b + L.length then cmt b t L else vw s j := by
  have e : comS s b t L = (flU (wrU (flU (wrS s b t L L.length)).2 ((b + L.length : Nat) : Int) (cmt b t L)).2).2 := rfl
  have h1 := wr_vw (s := (flU (wrS s b t L L.length)).2) (m := b + L.length) (u := cmt b t L) (fl_fuse (wrS_fuse hf b t L _)) (by rw [fl_len, wrS_len]; omega) (cmt_size ok h0 hl) j
  rw [e, fl_vw, h1, fl_vw, wrS_vw hf ok hs hl hp L.length (Nat.le_refl _) j]
  by_cases hj : j = b + L.length
  · rw [if_pos hj, if_neg (by omega), if_pos hj]
  · rw [if_neg hj, if_neg hj]
theorem com_fuse {s : St} (hf : s.fuse = -1) (b t : Nat) (L : List PageT) : (comS s b t L).fuse = -1 := fl_fuse (wr_fuse (fl_fuse (wrS_fuse hf b t L _)))
theorem com_len (s : St) (b t : Nat) (L : List PageT) : (comS s b t L).pages.length = s.pages.length := by
  unfold comS; rw [fl_len, wr_len, fl_len, wrS_len]
/-- what was committed is scanned -/
theorem scan_com {V : Nat → ByteArray} {b n t : Nat} (ok : JOk b n t) {L : List PageT} (h0 : 0 < L.length) (hs : AllS L) (hl : L.length < n) (hv : ∀ i, i < L.length → V (b + i) = stg b t L i) (hc : V (b + L.length) = cmt b t L) : Scans V b n t 0 [] (some L) := by
  have all : ∀ k i, i + k = L.length → Scans V b n t i (L.take i) (some L) := by
    intro k
    induction k with
    | zero =>
      intro i hi
      obtain rfl : i = L.length := by omega
      rw [List.take_length]
      refine Scans.done (by omega) (kd := 2) (pk := 0) (pn := 0) (bo := ⟨#[]⟩) (ct := (L.length : Nat)) (sm := U (sumB (textS L L.length))) ?_ (by decide) (En.entB_self _ _ _ _ _ _ _ _)
      rw [hc]
      exact isJ_pgJ (U_fit _).1 (U_fit _).2 (may2 t L.length _ ok.t1 ok.t2 (by have := ok.n9; omega) h0) (by have := ok.bn; omega)
    | succ k ih =>
      intro i hi
      have hiL : i < L.length := by omega
      refine Scans.page (by omega) (pk := L[i].1) (pn := L[i].2.1) (bo := L[i].2.2) (ct := 0) (sm := 0) ?_ ?_
      · rw [hv i hiL, stg_at hiL]
        exact isJ_pgJ (by decide) (by decide) (may1 t i ok.t1 ok.t2 (by have := ok.n9; omega) (hs i hiL)) (by have := ok.bn; omega)
      · have := ih (i + 1) (by omega)
        rw [List.take_succ_eq_append_getElem hiL] at this
        exact this
  exact all L.length 0 (by omega)
theorem com_scan {s : St} (hf : s.fuse = -1) {b n t : Nat} (ok : JOk b n t) {L : List PageT} (h0 : 0 < L.length) (hs : AllS L) (hl : L.length < n) (hp : b + n ≤ s.pages.length) : Scans (vw (comS s b t L)) b n t 0 [] (some L) := by
  refine scan_com ok h0 hs hl (fun i hi => ?_) ?_
  · rw [com_vw hf ok h0 hs hl hp, if_pos (by omega), show b + i - b = i by omega]
  · rw [com_vw hf ok h0 hs hl hp, if_neg (by omega), if_pos rfl]
/-- of another transaction nothing is scanned -/
theorem scan_other {V : Nat → ByteArray} {b n t t' : Nat} (hn : 0 < n) {kd pk pn : Int} {bo : ByteArray} {ct sm : Int} (h : IsJ (V b) b 0 t' kd pk pn bo ct sm) (hne : t ≠ t') : Scans V b n t 0 [] none :=
  Scans.no hn fun _ _ _ _ _ _ g => hne (isJ_same g h).2.1
/-- of an Abort nothing is scanned -/
theorem scan_abort {V : Nat → ByteArray} {b n t : Nat} (ok : JOk b n t) (h : V b = pgJ b 3 t (0 : Nat) 0 0 ⟨#[]⟩ 0 0) : Scans V b n t 0 [] none := by
  refine Scans.other (by have := ok.n2; omega) (kd := 3) (pk := 0) (pn := 0) (bo := ⟨#[]⟩) (ct := 0) (sm := 0) ?_ (by decide) rfl
  rw [Nat.add_zero, h]
  exact isJ_pgJ (by decide) (by decide) (may3 t ok.t1 ok.t2) (by have := ok.bn; have := ok.n2; omega)
theorem abo_vw {s : St} (hf : s.fuse = -1) {b n t : Nat} (ok : JOk b n t) (hp : b + n ≤ s.pages.length) (j : Nat) : vw (aboS s b t) j = if j = b then pgJ b 3 t (0 : Nat) 0 0 ⟨#[]⟩ 0 0 else vw s j := by
  unfold aboS
  rw [fl_vw, wr_vw hf (by have := ok.n2; omega) (pgJ_size (by decide) (may3 t ok.t1 ok.t2))]
theorem abo_scan {s : St} (hf : s.fuse = -1) {b n t : Nat} (ok : JOk b n t) (hp : b + n ≤ s.pages.length) : Scans (vw (aboS s b t)) b n t 0 [] none :=
  scan_abort ok (by rw [abo_vw hf ok hp, if_pos rfl])
theorem abo_fuse {s : St} (hf : s.fuse = -1) (b t : Nat) : (aboS s b t).fuse = -1 := fl_fuse (wr_fuse hf)
theorem abo_len (s : St) (b t : Nat) : (aboS s b t).pages.length = s.pages.length := by unfold aboS; rw [fl_len, wr_len]
end Go.Proofs.YtaonifdfhlbaiaaGreatDoor.Jn

/- A disk of the document's, apart from blocks that stay: each call, whatever is asked; and beside one of the program's. -/
namespace Go.Proofs.YtaonifdfhlbaiaaGreatDoor.Jn
open Go.RowKit
open Go.Lib (hid)
open Go.Proofs.YtaonifdfhlbaiaaGreatDoor.Dk
/-- the document's disk at R, apart from K's blocks -/
structure Rc (K : Nat → Prop) (R : Nat) (wr : World) (s : St) : Prop where
  ex : ∃ a : Ptrs, a.D = R ∧ Rk wr a s ∧ ∀ k, Foot a k → ¬ K k
  lt : ∀ k, K k → k < wr.heap.size
section
variable {K : Nat → Prop} {R : Nat} {wr w' : World} {s : St}
theorem Rc.good (h : Rc K R wr s) : Dk.Good s := by obtain ⟨a, _, h1, _⟩ := h.ex; exact h1.good
theorem Rc.next (h : Rc K R wr s) (hb : Below wr.heap.size wr w') : Rc K R w' s := by
  obtain ⟨a, h1, h3, h5⟩ := h.ex
  exact ⟨⟨a, h1, h3.below hb, h5⟩, fun k hk => Nat.lt_of_lt_of_le (h.lt k hk) hb.size⟩
theorem Rc.less {K' : Nat → Prop} (h : Rc K R wr s) (hk : ∀ j, K' j → K j) : Rc K' R wr s := by
  obtain ⟨a, h1, h3, h5⟩ := h.ex
  exact ⟨⟨a, h1, h3, fun k hf e => h5 k hf (hk k e)⟩, fun k e => h.lt k (hk k e)⟩
theorem Rc.more {K' : Nat → Prop} (h : Rc K R wr s) (hb : Below wr.heap.size wr w') (hK : ∀ k, K' k → K k ∨ wr.heap.size ≤ k) (hl : ∀ k, K' k → k < w'.heap.size) : Rc K' R w' s := by
  obtain ⟨a, h1, h3, h5⟩ := h.ex
  refine ⟨⟨a, h1, h3.below hb, fun k hf e => ?_⟩, hl⟩
  have := h3.lt k hf
  rcases hK k e with e | e
  · exact h5 k hf e
  · omega
theorem Rc.turn (h : Rc K R wr s) (hs : wr.heap.size ≤ w'.heap.size) (hb : ∀ k, k < wr.heap.size → ¬ K k → w'.heap[k]? = wr.heap[k]?) : Rc K R w' s := by
  obtain ⟨a, h1, h3, h5⟩ := h.ex
  exact ⟨⟨a, h1, h3.kept fun k hk => hb k (h3.lt k hk) (h5 k hk), h5⟩, fun k hk => Nat.lt_of_lt_of_le (h.lt k hk) hs⟩
theorem Rc.code {f : FuncId} {args : Array Value} {Q : Ending → Prop} {s' : St} (h : Rc K R wr s)
    (hc : ∀ a : Ptrs, a.D = R → Rk wr a s → Calls Tryz.prog f args wr fun e w' => Q e ∧ ∃ a' : Ptrs, a'.D = a.D ∧ Rk w' a' s' ∧ Only a wr w' ∧ From a a' wr) :
    Calls Tryz.prog f args wr fun e w' => Q e ∧ Rc K R w' s' ∧ KS K wr w' := by
  obtain ⟨a, h1, h3, h5⟩ := h.ex
  refine (hc a h1 h3).mono fun e w' ⟨r, a', g1, g2, g3, g4⟩ => ⟨r, ⟨⟨a', g1.trans h1, g2, fun k hf hk => ?_⟩, fun k hk => Nat.lt_of_lt_of_le (h.lt k hk) g3.size⟩, KS.only g3 h5⟩
  rcases g4 k hf with e | e
  · exact h5 k e hk
  · have := h.lt k hk; omega
theorem Rc.write (h : Rc K R wr s) {k : Nat} (hf : Few s k) (hk : k < 1000000) (n : Int) (u : ByteArray) :
    Calls Tryz.prog 17 #[.pointer (some ⟨R, 0, none⟩), .int .i64 n, .string u] wr fun e w' => e = .returned (.int .i64 (wrU s n u).1) ∧ Rc K R w' (wrU s n u).2 ∧ KS K wr w' := by
  refine h.code (Q := fun e => e = .returned (.int .i64 (wrU s n u).1)) fun a ha hd => ?_
  subst ha
  unfold wrU
  by_cases hc : 0 ≤ n ∧ n < (s.pages.length : Int) ∧ u.size = 256 ∧ s.fuse ≠ 0
  · rw [if_pos hc]
    obtain ⟨m, rfl⟩ : ∃ m : Nat, n = (m : Int) := ⟨n.toNat, by omega⟩
    exact (rwrite_ok a s m u wr hd (by omega) hc.2.2.1 hc.2.2.2 (by have := hf.waits; omega) (by have := hf.writes; omega)).mono fun _ _ ⟨h1, v, h2, h3, h4⟩ => ⟨h1, { a with wv := v }, rfl, h2, h3, h4⟩
  · rw [if_neg hc]
    refine (rwrite_bad a s n u wr hd (by omega)).mono ?_
    rintro e w' ⟨rfl, rfl⟩
    exact ⟨rfl, a, rfl, hd, Only.refl _ _, From.refl _ _⟩
theorem Rc.read (h : Rc K R wr s) {k : Nat} (hf : Few s k) (hk : k < 1000000) (n : Int) :
    Calls Tryz.prog 68 #[.pointer (some ⟨R, 0, none⟩), .int .i64 n] wr fun e w' => e = .returned (.tuple #[.string (rdU s n).1, .int .i64 (rdU s n).2.1]) ∧ Rc K R w' (rdU s n).2.2 ∧ KS K wr w' := by
  refine h.code (Q := fun e => e = .returned (.tuple #[.string (rdU s n).1, .int .i64 (rdU s n).2.1])) fun a ha hd => ?_
  subst ha
  unfold rdU
  by_cases hc : 0 ≤ n ∧ n < (s.pages.length : Int)
  · rw [if_pos hc]
    obtain ⟨m, rfl⟩ : ∃ m : Nat, n = (m : Int) := ⟨n.toNat, by omega⟩
    refine (rread_ok a s m wr hd (by omega) (by have := hf.reads; omega)).mono ?_
    rintro e w' ⟨u, rfl, hu, h2, h3⟩
    exact ⟨by rw [Int.toNat_natCast, got_at hu], a, rfl, h2, h3, From.refl _ _⟩
  · rw [if_neg hc]
    refine (rread_bad a s n wr hd (by omega)).mono ?_
    rintro e w' ⟨rfl, rfl⟩
    exact ⟨rfl, a, rfl, hd, Only.refl _ _, From.refl _ _⟩
theorem Rc.flush (h : Rc K R wr s) {k : Nat} (hf : Few s k) (hk : k < 1000000) :
    Calls Tryz.prog 39 #[.pointer (some ⟨R, 0, none⟩)] wr fun e w' => e = .returned (.int .i64 (flU s).1) ∧ Rc K R w' (flU s).2 ∧ KS K wr w' := by
  refine h.code (Q := fun e => e = .returned (.int .i64 (flU s).1)) fun a ha hd => ?_
  subst ha
  unfold flU
  by_cases hc : s.fuse = 0
  · rw [if_pos hc]
    refine (rflush_dead a s wr hd hc).mono ?_
    rintro e w' ⟨rfl, rfl⟩
    exact ⟨rfl, a, rfl, hd, Only.refl _ _, From.refl _ _⟩
  · rw [if_neg hc]
    exact (rflush_ok a s wr hd hc (by have := hf.flushes; omega)).mono fun _ _ ⟨h1, v, h2, h3, h4⟩ => ⟨h1, { a with wv := v }, rfl, h2, h3, h4⟩
end
/-- both disks, apart from one another and from K's blocks -/
structure Bd (K : Nat → Prop) (D R : Nat) (w : World) (s t : St) : Prop where
  ex : ∃ a b : Ptrs, a.D = D ∧ b.D = R ∧ Dsk w a s ∧ Rk w b t ∧ (∀ k, Foot a k → ¬ K k) ∧ (∀ k, Foot b k → ¬ K k) ∧ (∀ k, Foot a k → ¬ Foot b k)
  lt : ∀ k, K k → k < w.heap.size
section
variable {K : Nat → Prop} {D R : Nat} {w w' : World} {s t : St}
theorem Bd.next (h : Bd K D R w s t) (hb : Below w.heap.size w w') : Bd K D R w' s t := by
  obtain ⟨a, b, h1, h2, h3, h4, h5⟩ := h.ex
  exact ⟨⟨a, b, h1, h2, h3.below hb, h4.below hb, h5⟩, fun k hk => Nat.lt_of_lt_of_le (h.lt k hk) hb.size⟩
theorem Bd.less {K' : Nat → Prop} (h : Bd K D R w s t) (hk : ∀ j, K' j → K j) : Bd K' D R w s t := by
  obtain ⟨a, b, h1, h2, h3, h4, h5, h6, h7⟩ := h.ex
  exact ⟨⟨a, b, h1, h2, h3, h4, fun k hf e => h5 k hf (hk k e), fun k hf e => h6 k hf (hk k e), h7⟩, fun k e => h.lt k (hk k e)⟩
theorem Bd.more {K' : Nat → Prop} (h : Bd K D R w s t) (hb : Below w.heap.size w w') (hK : ∀ k, K' k → K k ∨ w.heap.size ≤ k) (hl : ∀ k, K' k → k < w'.heap.size) : Bd K' D R w' s t := by
  obtain ⟨a, b, h1, h2, h3, h4, h5, h6, h7⟩ := h.ex
  refine ⟨⟨a, b, h1, h2, h3.below hb, h4.below hb, fun k hf e => ?_, fun k hf e => ?_, h7⟩, hl⟩
  · have := h3.lt k hf
    rcases hK k e with e | e
    · exact h5 k hf e
    · omega
  · have := h4.lt k hf
    rcases hK k e with e | e
    · exact h6 k hf e
    · omega
theorem Bd.turn (h : Bd K D R w s t) (hs : w.heap.size ≤ w'.heap.size) (hb : ∀ k, k < w.heap.size → ¬ K k → w'.heap[k]? = w.heap[k]?) : Bd K D R w' s t := by
  obtain ⟨a, b, h1, h2, h3, h4, h5, h6, h7⟩ := h.ex
  exact ⟨⟨a, b, h1, h2, h3.kept fun k hk => hb k (h3.lt k hk) (h5 k hk), h4.kept fun k hk => hb k (h4.lt k hk) (h6 k hk), h5, h6, h7⟩, fun k hk => Nat.lt_of_lt_of_le (h.lt k hk) hs⟩
/-- the program's disk alone: the document's blocks are others' -/
theorem Bd.code (h : Bd K D R w s t) : ∃ KB : Nat → Prop, (∀ j, K j → KB j) ∧ Cd KB D w s ∧ ∀ w' s', Cd KB D w' s' → KS KB w w' → Bd K D R w' s' t ∧ KS K w w' := by
  obtain ⟨a, b, h1, h2, h3, h4, h5, h6, h7⟩ := h.ex
  refine ⟨fun j => K j ∨ Foot b j, fun j e => .inl e, ⟨⟨a, h1, h3, fun k hf e => e.elim (h5 k hf) (h7 k hf)⟩, fun k e => e.elim (h.lt k) (h4.lt k)⟩, fun w' s' hc hk => ?_⟩
  obtain ⟨a', g1, g3, g5⟩ := hc.ex
  exact ⟨⟨⟨a', b, g1, h2, g3, h4.kept fun k hf => hk.block k (h4.lt k hf) (.inr hf), fun k hf e => g5 k hf (.inl e), h6, fun k hf e => g5 k hf (.inr e)⟩, fun k e => hc.lt k (.inl e)⟩, KS.less hk (fun j e => .inl e)⟩
/-- the document's disk alone -/
theorem Bd.ref (h : Bd K D R w s t) : ∃ KA : Nat → Prop, (∀ j, K j → KA j) ∧ Rc KA R w t ∧ ∀ w' t', Rc KA R w' t' → KS KA w w' → Bd K D R w' s t' ∧ KS K w w' := by
  obtain ⟨a, b, h1, h2, h3, h4, h5, h6, h7⟩ := h.ex
  refine ⟨fun j => K j ∨ Foot a j, fun j e => .inl e, ⟨⟨b, h2, h4, fun k hf e => e.elim (h6 k hf) (fun e => h7 k e hf)⟩, fun k e => e.elim (h.lt k) (h3.lt k)⟩, fun w' t' hc hk => ?_⟩
  obtain ⟨b', g1, g3, g5⟩ := hc.ex
  exact ⟨⟨⟨a, b', h1, g1, h3.kept fun k hf => hk.block k (h3.lt k hf) (.inr hf), g3, h5, fun k hf e => g5 k hf (.inl e), fun k hf e => g5 k e (.inr hf)⟩, fun k e => hc.lt k (.inl e)⟩, KS.less hk (fun j e => .inl e)⟩
end
end Go.Proofs.YtaonifdfhlbaiaaGreatDoor.Jn
