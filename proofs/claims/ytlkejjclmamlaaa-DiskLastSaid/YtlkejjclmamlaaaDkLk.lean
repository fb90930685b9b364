/- Two disks, or a disk and blocks of others: each call's contract, by what stays. -/
import Derived.Test.YtlkejjclmamlaaaDkLv
namespace Go.Proofs.Ytlkejjclmamlaaa.Dk
open Go.RowKit
open Go.Lib (hid)

/-- a disk at D that is new since w, nothing that was there at w has turned, and the blocks K are none of its own -/
structure Lk (w wr : World) (K : Nat → Prop) (D : Nat) (s : St) : Prop where
  ex : ∃ d : Ptrs, d.D = D ∧ Dsk wr d s ∧ (∀ k, Foot d k → w.heap.size ≤ k) ∧ ∀ k, K k → ¬ Foot d k
  below : Below w.heap.size w wr
  lt : ∀ k, K k → k < wr.heap.size
/-- the blocks K are as they were -/
def Stay (K : Nat → Prop) (wr w' : World) : Prop := ∀ k, K k → w'.heap[k]? = wr.heap[k]?
section
variable {w wr w' : World} {K : Nat → Prop} {D : Nat} {s : St}
theorem Lk.lv (h : Lk w wr K D s) : Lv w wr D s := by
  obtain ⟨d, h1, h2, h3, _⟩ := h.ex
  exact ⟨⟨d, h1, h2, h3⟩, h.below⟩
theorem Lv.lk (h : Lv w wr D s) : Lk w wr (fun _ => False) D s := by
  obtain ⟨d, h1, h2, h3⟩ := h.ex
  exact ⟨⟨d, h1, h2, h3, fun k hk => hk.elim⟩, h.below, fun k hk => hk.elim⟩
theorem Lk.good (h : Lk w wr K D s) : Good s := h.lv.good
theorem Lk.next (h : Lk w wr K D s) (hb : Below wr.heap.size wr w') : Lk w w' K D s ∧ Stay K wr w' := by
  obtain ⟨d, h1, h2, h3, h4⟩ := h.ex
  exact ⟨⟨⟨d, h1, h2.below hb, h3, h4⟩, h.below.trans (hb.mono h.below.size), fun k hk => Nat.lt_of_lt_of_le (h.lt k hk) hb.size⟩, fun k hk => hb.block k (h.lt k hk)⟩
theorem Lk.drew (h : Lk w wr K D s) : Lk w wr.drew K D s := by
  obtain ⟨d, h1, h2, h3, h4⟩ := h.ex
  exact ⟨⟨d, h1, h2.drew, h3, h4⟩, h.below.drew, h.lt⟩
theorem Lk.drewN (h : Lk w wr K D s) (n : Nat) : Lk w (wr.drewN n) K D s := by
  obtain ⟨d, h1, h2, h3, h4⟩ := h.ex
  exact ⟨⟨d, h1, h2.drewN n, h3, h4⟩, ⟨h.below.os, h.below.tape, h.below.output, h.below.size, h.below.block⟩, h.lt⟩
/-- others' blocks have come, or new ones -/
theorem Lk.more {K' : Nat → Prop} (h : Lk w wr K D s) (hb : Below wr.heap.size wr w') (hK : ∀ k, K' k → K k ∨ wr.heap.size ≤ k) (hl : ∀ k, K' k → k < w'.heap.size) : Lk w w' K' D s := by
  obtain ⟨d, h1, h2, h3, h4⟩ := h.ex
  refine ⟨⟨d, h1, h2.below hb, h3, fun k hk hf => ?_⟩, h.below.trans (hb.mono h.below.size), hl⟩
  rcases hK k hk with h5 | h5
  · exact h4 k h5 hf
  · have := h2.lt k hf; omega
/-- others' blocks alone have turned -/
theorem Lk.other (h : Lk w wr K D s) (h1 : w'.os = wr.os) (h2 : w'.tape = wr.tape) (h3 : w'.output = wr.output) (h4 : wr.heap.size ≤ w'.heap.size) (hK : ∀ k, k < wr.heap.size → ¬ K k → w'.heap[k]? = wr.heap[k]?) (hge : ∀ k, K k → w.heap.size ≤ k) : Lk w w' K D s := by
  obtain ⟨d, g1, g2, g3, g4⟩ := h.ex
  refine ⟨⟨d, g1, g2.kept fun k hk => hK k (g2.lt k hk) (fun hk' => g4 k hk' hk), g3, g4⟩, h.below.trans ⟨h1, h2, h3, h4, fun k hk => hK k (by have := h.below.size; omega) (fun hk' => by have := hge k hk'; omega)⟩, fun k hk => Nat.lt_of_lt_of_le (h.lt k hk) h4⟩
theorem Lk.step {d : Ptrs} (d' : Ptrs) {s' : St} (hf : ∀ k, Foot d k → w.heap.size ≤ k) (hK : ∀ k, K k → ¬ Foot d k) (hl : ∀ k, K k → k < wr.heap.size) (hb : Below w.heap.size w wr) (hd : Dsk w' d' s') (ho : Only d wr w') (hfr : From d d' wr) (hDD : d'.D = d.D) : Lk w w' K d.D s' ∧ Stay K wr w' :=
  ⟨⟨⟨d', hDD, hd, fun k hk => by
    rcases hfr k hk with h | h
    · exact hf k h
    · have := hb.size; omega, fun k hk hk' => by
    rcases hfr k hk' with h | h
    · exact hK k hk h
    · have := hl k hk; omega⟩, hb.trans (ho.to_below hb.size hf), fun k hk => Nat.lt_of_lt_of_le (hl k hk) ho.size⟩, fun k hk => ho.block k (hl k hk) (hK k hk)⟩
end
theorem lk_write (n : Nat) (t : ByteArray) {w wr : World} {K : Nat → Prop} {D : Nat} {s : St} (h : Lk w wr K D s) (hn : n < s.pages.length) (ht : t.size = 256) (hfz : s.fuse ≠ 0) (hf : s.waits.length < 1000000) (hw : s.writes < 1000000) :
    Calls Try.prog 40 #[.pointer (some ⟨D, 0, none⟩), .int .i64 (n : Int), .string t] wr fun e w' => e = .returned (.int .i64 0) ∧ Lk w w' K D (writeS s n t) ∧ Stay K wr w' := by
  obtain ⟨d, rfl, hd, hfo, hK⟩ := h.ex
  exact (write_ok d s n t wr hd hn ht hfz hf hw).mono fun _ _ ⟨h1, v, h2, h3, h4⟩ => ⟨h1, Lk.step { d with wv := v } hfo hK h.lt h.below h2 h3 h4 rfl⟩
theorem lk_write_bad (n : Int) (t : ByteArray) {w wr : World} {K : Nat → Prop} {D : Nat} {s : St} (h : Lk w wr K D s) (hb : n < 0 ∨ s.pages.length ≤ n ∨ t.size ≠ 256 ∨ s.fuse = 0) :
    Calls Try.prog 40 #[.pointer (some ⟨D, 0, none⟩), .int .i64 n, .string t] wr fun e w' => e = .returned (.int .i64 1) ∧ wr = w' := lv_write_bad n t h.lv hb
theorem lk_flush {w wr : World} {K : Nat → Prop} {D : Nat} {s : St} (h : Lk w wr K D s) (hfz : s.fuse ≠ 0) (hfl : s.flushes < 1000000) :
    Calls Try.prog 45 #[.pointer (some ⟨D, 0, none⟩)] wr fun e w' => e = .returned (.int .i64 (s.waits.length : Int)) ∧ Lk w w' K D (flushS s) ∧ Stay K wr w' := by
  obtain ⟨d, rfl, hd, hfo, hK⟩ := h.ex
  exact (flush_ok d s wr hd hfz hfl).mono fun _ _ ⟨h1, v, h2, h3, h4⟩ => ⟨h1, Lk.step { d with wv := v } hfo hK h.lt h.below h2 h3 h4 rfl⟩
theorem lk_read (i : Nat) (t : ByteArray) {w wr : World} {K : Nat → Prop} {D : Nat} {s : St} (h : Lk w wr K D s) (hi : i < s.pages.length) (hr : s.reads < 1000000) (ht : (applyW s.pages s.waits)[i]? = some t) :
    Calls Try.prog 43 #[.pointer (some ⟨D, 0, none⟩), .int .i64 (i : Int)] wr fun e w' => e = .returned (.tuple #[.string t, .int .i64 0]) ∧ Lk w w' K D (readS s) ∧ Stay K wr w' := by
  obtain ⟨d, rfl, hd, hfo, hK⟩ := h.ex
  refine (read_ok d s i wr hd hi hr).mono fun _ _ ⟨t', h1, h2, h3, h4⟩ => ?_
  rw [ht] at h2
  cases h2
  exact ⟨h1, Lk.step d hfo hK h.lt h.below h3 h4 (From.refl _ _) rfl⟩
theorem lk_crash (q : Option Addr) (c : Nat) (ks : List Int) (torn a : Int) (o : List ByteArray) {w wr : World} {K : Nat → Prop} {D : Nat} {s : St} (h : Lk w wr K D s) (hks : Dk.Kept wr q ks) (hkm : ks.length ≤ maxLen) (hc : comeS s ks torn a = some o) :
    Calls Try.prog 48 #[.pointer (some ⟨D, 0, none⟩), .slice q ks.length c, .int .i64 torn, .int .i64 a] wr fun e w' => e = .returned (.int .i64 0) ∧ Lk w w' K D (crashS s o) ∧ Stay K wr w' := by
  obtain ⟨d, rfl, hd, hfo, hK⟩ := h.ex
  exact (crash_ok d s wr hd q c ks hks hkm torn a o hc).mono fun _ _ ⟨h1, v, h2, h3, h4⟩ => ⟨h1, Lk.step { d with wv := v } hfo hK h.lt h.below h2 h3 h4 rfl⟩
/-- two disks, apart from one another, both new since w, and blocks K that are neither's -/
structure L2 (w wr : World) (K : Nat → Prop) (A : Nat) (s : St) (B : Nat) (t : St) : Prop where
  ex : ∃ a b : Ptrs, a.D = A ∧ b.D = B ∧ Dsk wr a s ∧ Dsk wr b t ∧ (∀ k, Foot a k → w.heap.size ≤ k) ∧ (∀ k, Foot b k → w.heap.size ≤ k) ∧ (∀ k, Foot a k → ¬ Foot b k) ∧ (∀ k, K k → ¬ Foot a k) ∧ ∀ k, K k → ¬ Foot b k
  below : Below w.heap.size w wr
  lt : ∀ k, K k → k < wr.heap.size
section
variable {w wr w' : World} {K : Nat → Prop} {A B : Nat} {s t : St}
theorem L2.symm (h : L2 w wr K A s B t) : L2 w wr K B t A s := by
  obtain ⟨a, b, h1, h2, h3, h4, h5, h6, h7, h8, h9⟩ := h.ex
  exact ⟨⟨b, a, h2, h1, h4, h3, h6, h5, fun k hk hk' => h7 k hk' hk, h9, h8⟩, h.below, h.lt⟩
theorem L2.next (h : L2 w wr K A s B t) (hb : Below wr.heap.size wr w') : L2 w w' K A s B t ∧ Stay K wr w' := by
  obtain ⟨a, b, h1, h2, h3, h4, h5, h6, h7, h8, h9⟩ := h.ex
  exact ⟨⟨⟨a, b, h1, h2, h3.below hb, h4.below hb, h5, h6, h7, h8, h9⟩, h.below.trans (hb.mono h.below.size), fun k hk => Nat.lt_of_lt_of_le (h.lt k hk) hb.size⟩, fun k hk => hb.block k (h.lt k hk)⟩
theorem L2.first (h : L2 w wr K A s B t) : Lk w wr K A s := by
  obtain ⟨a, b, h1, h2, h3, h4, h5, h6, h7, h8, h9⟩ := h.ex
  exact ⟨⟨a, h1, h3, h5, h8⟩, h.below, h.lt⟩
/-- a call of the first disk: 'a' turns, the second one stays -/
theorem L2.call {f : FuncId} {args : Array Value} {R : Ending → Prop} {s' : St} (h : L2 w wr K A s B t)
    (hc : ∀ a : Ptrs, a.D = A → Dsk wr a s → Calls Try.prog f args wr fun e w' => R e ∧ ∃ a' : Ptrs, a'.D = a.D ∧ Dsk w' a' s' ∧ Only a wr w' ∧ From a a' wr) :
    Calls Try.prog f args wr fun e w' => R e ∧ L2 w w' K A s' B t ∧ Stay K wr w' := by
  obtain ⟨a, b, h1, h2, h3, h4, h5, h6, h7, h8, h9⟩ := h.ex
  refine (hc a h1 h3).mono fun e w' ⟨r, a', g1, g2, g3, g4⟩ => ⟨r, ⟨⟨a', b, g1.trans h1, h2, g2, h4.other g3 (fun k hk hk' => h7 k hk' hk), fun k hk => ?_, h6, fun k hk hk' => ?_, fun k hk hk' => ?_, h9⟩,
    h.below.trans (g3.to_below h.below.size h5), fun k hk => Nat.lt_of_lt_of_le (h.lt k hk) g3.size⟩, fun k hk => g3.block k (h.lt k hk) (h8 k hk)⟩
  · rcases g4 k hk with h | h'
    · exact h5 k h
    · have := h.below.size; omega
  · rcases g4 k hk with h | h
    · exact h7 k h hk'
    · have := h4.lt k hk'; omega
  · rcases g4 k hk' with h' | h'
    · exact h8 k hk h'
    · have := h.lt k hk; omega
/-- a second disk, new -/
theorem l2_new (n : Nat) {w wr : World} {A : Nat} {s : St} (h : Lv w wr A s) (h1 : 1 ≤ n) (h2 : n ≤ 1000) :
    Calls Try.prog 37 #[.int .i64 (n : Int)] wr fun e w' => ∃ B, e = .returned (.tuple #[.pointer (some ⟨B, 0, none⟩), .int .i64 0]) ∧ L2 w w' (fun _ => False) A s B (newS (blanks n)) := by
  obtain ⟨a, rfl, ha, hfa⟩ := h.ex
  refine (new_ok n wr h1 h2).mono fun e w' ⟨d, g1, g2, g3, g4⟩ => ⟨d.D, g1, ⟨⟨a, d, rfl, rfl, ha.below g3, g2, hfa, fun k hk => Nat.le_trans h.below.size (g4 k hk), fun k hk hk' => ?_, fun k hk => hk.elim, fun k hk => hk.elim⟩, h.below.trans (g3.mono h.below.size), fun k hk => hk.elim⟩⟩
  have := ha.lt k hk
  have := g4 k hk'
  omega
end
theorem l2_write (n : Nat) (p : ByteArray) {w wr : World} {K : Nat → Prop} {A B : Nat} {s t : St} (h : L2 w wr K A s B t) (hn : n < s.pages.length) (ht : p.size = 256) (hfz : s.fuse ≠ 0) (hf : s.waits.length < 1000000) (hw : s.writes < 1000000) :
    Calls Try.prog 40 #[.pointer (some ⟨A, 0, none⟩), .int .i64 (n : Int), .string p] wr fun e w' => e = .returned (.int .i64 0) ∧ L2 w w' K A (writeS s n p) B t ∧ Stay K wr w' :=
  h.call (R := fun e => e = .returned (.int .i64 0)) fun a ha hd => by
    subst ha
    exact (write_ok a s n p wr hd hn ht hfz hf hw).mono fun _ _ ⟨h1, v, h2, h3, h4⟩ => ⟨h1, { a with wv := v }, rfl, h2, h3, h4⟩
theorem l2_flush {w wr : World} {K : Nat → Prop} {A B : Nat} {s t : St} (h : L2 w wr K A s B t) (hfz : s.fuse ≠ 0) (hfl : s.flushes < 1000000) :
    Calls Try.prog 45 #[.pointer (some ⟨A, 0, none⟩)] wr fun e w' => e = .returned (.int .i64 (s.waits.length : Int)) ∧ L2 w w' K A (flushS s) B t ∧ Stay K wr w' :=
  h.call (R := fun e => e = .returned (.int .i64 (s.waits.length : Int))) fun a ha hd => by
    subst ha
    exact (flush_ok a s wr hd hfz hfl).mono fun _ _ ⟨h1, v, h2, h3, h4⟩ => ⟨h1, { a with wv := v }, rfl, h2, h3, h4⟩
theorem l2_crash (q : Option Addr) (c : Nat) (ks : List Int) (torn x : Int) (o : List ByteArray) {w wr : World} {K : Nat → Prop} {A B : Nat} {s t : St} (h : L2 w wr K A s B t) (hks : Dk.Kept wr q ks) (hkm : ks.length ≤ maxLen) (hc : comeS s ks torn x = some o) :
    Calls Try.prog 48 #[.pointer (some ⟨A, 0, none⟩), .slice q ks.length c, .int .i64 torn, .int .i64 x] wr fun e w' => e = .returned (.int .i64 0) ∧ L2 w w' K A (crashS s o) B t ∧ Stay K wr w' :=
  h.call (R := fun e => e = .returned (.int .i64 0)) fun a ha hd => by
    subst ha
    exact (crash_ok a s wr hd q c ks hks hkm torn x o hc).mono fun _ _ ⟨h1, v, h2, h3, h4⟩ => ⟨h1, { a with wv := v }, rfl, h2, h3, h4⟩
end Go.Proofs.Ytlkejjclmamlaaa.Dk
