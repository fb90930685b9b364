/- Both disks beside one another: each call, whatever is asked. -/
import Derived.Test.YtjjplkfgihogkaaDkRnew
import Derived.Test.YtjjplkfgihogkaaDkLv
namespace Go.Proofs.Ytjjplkfgihogkaa.Dk
open Go.RowKit
open Go.Lib (hid)

/-- K's blocks are as they were -/
structure KS (K : Nat → Prop) (w w' : World) : Prop where
  os : w'.os = w.os
  tape : w'.tape = w.tape
  output : w'.output = w.output
  size : w.heap.size ≤ w'.heap.size
  block : ∀ k, k < w.heap.size → K k → w'.heap[k]? = w.heap[k]?
section
variable {K : Nat → Prop} {w w' w2 : World}
theorem KS.below (h : KS K w w') {N : Nat} (hN : N ≤ w.heap.size) (hK : ∀ k, k < N → K k) : Below N w w' := ⟨h.os, h.tape, h.output, h.size, fun k hk => h.block k (Nat.lt_of_lt_of_le hk hN) (hK k hk)⟩
theorem KS.of (h : Below w.heap.size w w') : KS K w w' := ⟨h.os, h.tape, h.output, h.size, fun k hk _ => h.block k hk⟩
theorem KS.refl (K : Nat → Prop) (w : World) : KS K w w := ⟨rfl, rfl, rfl, Nat.le_refl _, fun _ _ _ => rfl⟩
theorem KS.trans (h : KS K w w') (g : KS K w' w2) : KS K w w2 := ⟨g.os.trans h.os, g.tape.trans h.tape, g.output.trans h.output, Nat.le_trans h.size g.size, fun k hk hK => (g.block k (Nat.lt_of_lt_of_le hk h.size) hK).trans (h.block k hk hK)⟩
theorem KS.only {d : Ptrs} (h : Only d w w') (hn : ∀ k, Foot d k → ¬ K k) : KS K w w' := ⟨h.os, h.tape, h.output, h.size, fun k hk hK => h.block k hk fun e => hn k e hK⟩
end
/-- the program's disk at D, the document's at R, apart, and both apart from K's blocks -/
structure Dp (K : Nat → Prop) (D R : Nat) (wr : World) (s t : St) : Prop where
  ex : ∃ a b : Ptrs, a.D = D ∧ b.D = R ∧ Dsk wr a s ∧ Rk wr b t ∧ (∀ k, Foot a k → ¬ K k) ∧ (∀ k, Foot b k → ¬ K k) ∧ (∀ k, Foot a k → ¬ Foot b k)
  lt : ∀ k, K k → k < wr.heap.size
section
variable {K : Nat → Prop} {D R : Nat} {wr w' : World} {s t : St}
theorem Dp.good (h : Dp K D R wr s t) : Good s ∧ Good t := by obtain ⟨a, b, _, _, h1, h2, _⟩ := h.ex; exact ⟨h1.good, h2.good⟩
theorem Dp.next (h : Dp K D R wr s t) (hb : Below wr.heap.size wr w') : Dp K D R w' s t := by
  obtain ⟨a, b, h1, h2, h3, h4, h5⟩ := h.ex
  exact ⟨⟨a, b, h1, h2, h3.below hb, h4.below hb, h5⟩, fun k hk => Nat.lt_of_lt_of_le (h.lt k hk) hb.size⟩
theorem Dp.less {K' : Nat → Prop} (h : Dp K D R wr s t) (hk : ∀ j, K' j → K j) : Dp K' D R wr s t := by
  obtain ⟨a, b, h1, h2, h3, h4, h5, h6, h7⟩ := h.ex
  exact ⟨⟨a, b, h1, h2, h3, h4, fun k hf e => h5 k hf (hk k e), fun k hf e => h6 k hf (hk k e), h7⟩, fun k e => h.lt k (hk k e)⟩
theorem Dp.more (h : Dp K D R wr s t) (hb : Below wr.heap.size wr w') (x : Nat) (hx : wr.heap.size ≤ x) (hx2 : x < w'.heap.size) : Dp (fun j => K j ∨ j = x) D R w' s t := by
  obtain ⟨a, b, h1, h2, h3, h4, h5, h6, h7⟩ := h.ex
  refine ⟨⟨a, b, h1, h2, h3.below hb, h4.below hb, fun k hf e => ?_, fun k hf e => ?_, h7⟩, fun k e => ?_⟩
  · have := h3.lt k hf
    rcases e with e | e
    · exact h5 k hf e
    · omega
  · have := h4.lt k hf
    rcases e with e | e
    · exact h6 k hf e
    · omega
  · rcases e with e | e
    · exact Nat.lt_of_lt_of_le (h.lt k e) hb.size
    · omega
theorem Dp.code {f : FuncId} {args : Array Value} {Q : Ending → Prop} {s' : St} (h : Dp K D R wr s t)
    (hc : ∀ a : Ptrs, a.D = D → Dsk wr a s → Calls Try.prog f args wr fun e w' => Q e ∧ ∃ a' : Ptrs, a'.D = a.D ∧ Dsk w' a' s' ∧ Only a wr w' ∧ From a a' wr) :
    Calls Try.prog f args wr fun e w' => Q e ∧ Dp K D R w' s' t ∧ KS K wr w' := by
  obtain ⟨a, b, h1, h2, h3, h4, h5, h6, h7⟩ := h.ex
  refine (hc a h1 h3).mono fun e w' ⟨r, a', g1, g2, g3, g4⟩ => ⟨r, ⟨⟨a', b, g1.trans h1, h2, g2, h4.kept fun k hk => g3.block k (h4.lt k hk) fun e => h7 k e hk, fun k hf hk => ?_, h6, fun k hf hk => ?_⟩, fun k hk => Nat.lt_of_lt_of_le (h.lt k hk) g3.size⟩, KS.only g3 h5⟩
  · rcases g4 k hf with e | e
    · exact h5 k e hk
    · have := h.lt k hk; omega
  · rcases g4 k hf with e | e
    · exact h7 k e hk
    · have := h4.lt k hk; omega
theorem Dp.ref {f : FuncId} {args : Array Value} {Q : Ending → Prop} {t' : St} (h : Dp K D R wr s t)
    (hc : ∀ b : Ptrs, b.D = R → Rk wr b t → (∀ k, Foot b k → ¬ K k) → Calls Try.prog f args wr fun e w' => Q e ∧ ∃ b' : Ptrs, b'.D = b.D ∧ Rk w' b' t' ∧ Only b wr w' ∧ From b b' wr) :
    Calls Try.prog f args wr fun e w' => Q e ∧ Dp K D R w' s t' ∧ KS K wr w' := by
  obtain ⟨a, b, h1, h2, h3, h4, h5, h6, h7⟩ := h.ex
  refine (hc b h2 h4 h6).mono fun e w' ⟨r, b', g1, g2, g3, g4⟩ => ⟨r, ⟨⟨a, b', h1, g1.trans h2, h3.kept fun k hk => g3.block k (h3.lt k hk) fun e => h7 k hk e, g2, h5, fun k hf hk => ?_, fun k hk hf => ?_⟩, fun k hk => Nat.lt_of_lt_of_le (h.lt k hk) g3.size⟩, KS.only g3 h6⟩
  · rcases g4 k hf with e | e
    · exact h6 k e hk
    · have := h.lt k hk; omega
  · rcases g4 k hf with e | e
    · exact h7 k hk e
    · have := h3.lt k hk; omega
end
/-- what Write answers, Read, Flush, Crash -/
def wrU (s : St) (n : Int) (t : ByteArray) : Int × St := if 0 ≤ n ∧ n < (s.pages.length : Int) ∧ t.size = 256 ∧ s.fuse ≠ 0 then (0, writeS s n.toNat t) else (1, s)
def rdU (s : St) (n : Int) : ByteArray × Int × St := if 0 ≤ n ∧ n < (s.pages.length : Int) then ((applyW s.pages s.waits).getD n.toNat emptyB, 0, readS s) else (⟨#[]⟩, 1, s)
def flU (s : St) : Int × St := if s.fuse = 0 then (0, s) else ((s.waits.length : Int), flushS s)
def crU (s : St) (ks : List Int) (torn a : Int) : Int × St := match comeS s ks torn a with | none => (1, s) | some o => (0, crashS s o)
/-- few calls so far -/
structure Few (s : St) (k : Nat) : Prop where
  waits : s.waits.length ≤ k
  reads : s.reads ≤ k
  writes : s.writes ≤ k
  flushes : s.flushes ≤ k
theorem few_new (l : List ByteArray) : Few (newS l) 0 := ⟨Nat.le_refl _, Int.le_refl _, Int.le_refl _, Int.le_refl _⟩
theorem Few.up {s : St} {k : Nat} (h : Few s k) : Few s (k + 1) := ⟨by have := h.waits; omega, by have := h.reads; omega, by have := h.writes; omega, by have := h.flushes; omega⟩
theorem few_wr {s : St} {k : Nat} (h : Few s k) (n : Int) (t : ByteArray) : Few (wrU s n t).2 (k + 1) := by
  unfold wrU
  split
  · refine ⟨?_, ?_, ?_, ?_⟩
    · show (s.waits ++ [(n.toNat, t)]).length ≤ k + 1
      have := h.waits; rw [List.length_append]; simpa using this
    · have := h.reads; show s.reads ≤ _; omega
    · have := h.writes; show s.writes + 1 ≤ _; omega
    · have := h.flushes; show s.flushes ≤ _; omega
  · exact h.up
theorem few_rd {s : St} {k : Nat} (h : Few s k) (n : Int) : Few (rdU s n).2.2 (k + 1) := by
  unfold rdU
  split
  · refine ⟨?_, ?_, ?_, ?_⟩
    · have := h.waits; show s.waits.length ≤ _; omega
    · have := h.reads; show s.reads + 1 ≤ _; omega
    · have := h.writes; show s.writes ≤ _; omega
    · have := h.flushes; show s.flushes ≤ _; omega
  · exact h.up
theorem few_fl {s : St} {k : Nat} (h : Few s k) : Few (flU s).2 (k + 1) := by
  unfold flU
  split
  · exact h.up
  · refine ⟨Nat.zero_le _, ?_, ?_, ?_⟩
    · have := h.reads; show s.reads ≤ _; omega
    · have := h.writes; show s.writes ≤ _; omega
    · have := h.flushes; show s.flushes + 1 ≤ _; omega
theorem few_fu {s : St} {k : Nat} (h : Few s k) (n : Int) : Few (fuseS s n) (k + 1) := ⟨(h.up).waits, h.up.reads, h.up.writes, h.up.flushes⟩
theorem few_cr {s : St} {k : Nat} (h : Few s k) (ks : List Int) (torn a : Int) : Few (crU s ks torn a).2 (k + 1) := by
  unfold crU
  split
  · exact h.up
  · exact ⟨Nat.zero_le _, h.up.reads, h.up.writes, h.up.flushes⟩
theorem crashP_len (s : St) (o : List ByteArray) : (crashS s o).pages.length = s.pages.length := crashP_length _ _ _
theorem wr_len (s : St) (n : Int) (t : ByteArray) : (wrU s n t).2.pages.length = s.pages.length := by unfold wrU; split <;> rfl
theorem rd_len (s : St) (n : Int) : (rdU s n).2.2.pages.length = s.pages.length := by unfold rdU; split <;> rfl
theorem fl_len (s : St) : (flU s).2.pages.length = s.pages.length := by
  unfold flU
  split
  · rfl
  · show (applyW s.pages _).length = _
    rw [applyW_length]
theorem cr_len (s : St) (ks : List Int) (torn a : Int) : (crU s ks torn a).2.pages.length = s.pages.length := by
  unfold crU
  split
  · rfl
  · exact crashP_len _ _
section
variable {K : Nat → Prop} {D R : Nat} {wr w' : World} {s t : St}
theorem Dp.write (h : Dp K D R wr s t) {k : Nat} (hf : Few s k) (hk : k < 1000000) (n : Int) (u : ByteArray) :
    Calls Try.prog 7 #[.pointer (some ⟨D, 0, none⟩), .int .i64 n, .string u] wr fun e w' => e = .returned (.int .i64 (wrU s n u).1) ∧ Dp K D R w' (wrU s n u).2 t ∧ KS K wr w' := by
  refine h.code (Q := fun e => e = .returned (.int .i64 (wrU s n u).1)) fun a ha hd => ?_
  subst ha
  unfold wrU
  by_cases hc : 0 ≤ n ∧ n < (s.pages.length : Int) ∧ u.size = 256 ∧ s.fuse ≠ 0
  · rw [if_pos hc]
    obtain ⟨m, rfl⟩ : ∃ m : Nat, n = (m : Int) := ⟨n.toNat, by omega⟩
    exact (write_ok a s m u wr hd (by omega) hc.2.2.1 hc.2.2.2 (by have := hf.waits; omega) (by have := hf.writes; omega)).mono fun _ _ ⟨h1, v, h2, h3, h4⟩ => ⟨h1, { a with wv := v }, rfl, h2, h3, h4⟩
  · rw [if_neg hc]
    refine (write_bad a s n u wr hd (by omega)).mono ?_
    rintro e w' ⟨rfl, rfl⟩
    exact ⟨rfl, a, rfl, hd, Only.refl _ _, From.refl _ _⟩
theorem Dp.rwrite (h : Dp K D R wr s t) {k : Nat} (hf : Few t k) (hk : k < 1000000) (n : Int) (u : ByteArray) :
    Calls Try.prog 9 #[.pointer (some ⟨R, 0, none⟩), .int .i64 n, .string u] wr fun e w' => e = .returned (.int .i64 (wrU t n u).1) ∧ Dp K D R w' s (wrU t n u).2 ∧ KS K wr w' := by
  refine h.ref (Q := fun e => e = .returned (.int .i64 (wrU t n u).1)) fun a ha hd _ => ?_
  subst ha
  unfold wrU
  by_cases hc : 0 ≤ n ∧ n < (t.pages.length : Int) ∧ u.size = 256 ∧ t.fuse ≠ 0
  · rw [if_pos hc]
    obtain ⟨m, rfl⟩ : ∃ m : Nat, n = (m : Int) := ⟨n.toNat, by omega⟩
    exact (rwrite_ok a t m u wr hd (by omega) hc.2.2.1 hc.2.2.2 (by have := hf.waits; omega) (by have := hf.writes; omega)).mono fun _ _ ⟨h1, v, h2, h3, h4⟩ => ⟨h1, { a with wv := v }, rfl, h2, h3, h4⟩
  · rw [if_neg hc]
    refine (rwrite_bad a t n u wr hd (by omega)).mono ?_
    rintro e w' ⟨rfl, rfl⟩
    exact ⟨rfl, a, rfl, hd, Only.refl _ _, From.refl _ _⟩
theorem got_at {l : List ByteArray} {i : Nat} {u : ByteArray} (h : l[i]? = some u) : l.getD i emptyB = u := by rw [List.getD_eq_getElem?_getD, h]; rfl
theorem Dp.read (h : Dp K D R wr s t) {k : Nat} (hf : Few s k) (hk : k < 1000000) (n : Int) :
    Calls Try.prog 10 #[.pointer (some ⟨D, 0, none⟩), .int .i64 n] wr fun e w' => e = .returned (.tuple #[.string (rdU s n).1, .int .i64 (rdU s n).2.1]) ∧ Dp K D R w' (rdU s n).2.2 t ∧ KS K wr w' := by
  refine h.code (Q := fun e => e = .returned (.tuple #[.string (rdU s n).1, .int .i64 (rdU s n).2.1])) fun a ha hd => ?_
  subst ha
  unfold rdU
  by_cases hc : 0 ≤ n ∧ n < (s.pages.length : Int)
  · rw [if_pos hc]
    obtain ⟨m, rfl⟩ : ∃ m : Nat, n = (m : Int) := ⟨n.toNat, by omega⟩
    refine (read_ok a s m wr hd (by omega) (by have := hf.reads; omega)).mono ?_
    rintro e w' ⟨u, rfl, hu, h2, h3⟩
    exact ⟨by rw [Int.toNat_natCast, got_at hu], a, rfl, h2, h3, From.refl _ _⟩
  · rw [if_neg hc]
    refine (read_bad a s n wr hd (by omega)).mono ?_
    rintro e w' ⟨rfl, hb⟩
    exact ⟨rfl, a, rfl, hd.below hb, Only.below hb, From.refl _ _⟩
theorem Dp.rread (h : Dp K D R wr s t) {k : Nat} (hf : Few t k) (hk : k < 1000000) (n : Int) :
    Calls Try.prog 11 #[.pointer (some ⟨R, 0, none⟩), .int .i64 n] wr fun e w' => e = .returned (.tuple #[.string (rdU t n).1, .int .i64 (rdU t n).2.1]) ∧ Dp K D R w' s (rdU t n).2.2 ∧ KS K wr w' := by
  refine h.ref (Q := fun e => e = .returned (.tuple #[.string (rdU t n).1, .int .i64 (rdU t n).2.1])) fun a ha hd _ => ?_
  subst ha
  unfold rdU
  by_cases hc : 0 ≤ n ∧ n < (t.pages.length : Int)
  · rw [if_pos hc]
    obtain ⟨m, rfl⟩ : ∃ m : Nat, n = (m : Int) := ⟨n.toNat, by omega⟩
    refine (rread_ok a t m wr hd (by omega) (by have := hf.reads; omega)).mono ?_
    rintro e w' ⟨u, rfl, hu, h2, h3⟩
    exact ⟨by rw [Int.toNat_natCast, got_at hu], a, rfl, h2, h3, From.refl _ _⟩
  · rw [if_neg hc]
    refine (rread_bad a t n wr hd (by omega)).mono ?_
    rintro e w' ⟨rfl, rfl⟩
    exact ⟨rfl, a, rfl, hd, Only.refl _ _, From.refl _ _⟩
theorem Dp.flush (h : Dp K D R wr s t) {k : Nat} (hf : Few s k) (hk : k < 1000000) :
    Calls Try.prog 12 #[.pointer (some ⟨D, 0, none⟩)] wr fun e w' => e = .returned (.int .i64 (flU s).1) ∧ Dp K D R w' (flU s).2 t ∧ KS K wr w' := by
  refine h.code (Q := fun e => e = .returned (.int .i64 (flU s).1)) fun a ha hd => ?_
  subst ha
  unfold flU
  by_cases hc : s.fuse = 0
  · rw [if_pos hc]
    refine (flush_dead a s wr hd hc).mono ?_
    rintro e w' ⟨rfl, rfl⟩
    exact ⟨rfl, a, rfl, hd, Only.refl _ _, From.refl _ _⟩
  · rw [if_neg hc]
    exact (flush_ok a s wr hd hc (by have := hf.flushes; omega)).mono fun _ _ ⟨h1, v, h2, h3, h4⟩ => ⟨h1, { a with wv := v }, rfl, h2, h3, h4⟩
theorem Dp.rflush (h : Dp K D R wr s t) {k : Nat} (hf : Few t k) (hk : k < 1000000) :
    Calls Try.prog 13 #[.pointer (some ⟨R, 0, none⟩)] wr fun e w' => e = .returned (.int .i64 (flU t).1) ∧ Dp K D R w' s (flU t).2 ∧ KS K wr w' := by
  refine h.ref (Q := fun e => e = .returned (.int .i64 (flU t).1)) fun a ha hd _ => ?_
  subst ha
  unfold flU
  by_cases hc : t.fuse = 0
  · rw [if_pos hc]
    refine (rflush_dead a t wr hd hc).mono ?_
    rintro e w' ⟨rfl, rfl⟩
    exact ⟨rfl, a, rfl, hd, Only.refl _ _, From.refl _ _⟩
  · rw [if_neg hc]
    exact (rflush_ok a t wr hd hc (by have := hf.flushes; omega)).mono fun _ _ ⟨h1, v, h2, h3, h4⟩ => ⟨h1, { a with wv := v }, rfl, h2, h3, h4⟩
theorem Dp.fuse (h : Dp K D R wr s t) (n : Int) (hn : n ≤ 9223372036854775807) :
    Calls Try.prog 14 #[.pointer (some ⟨D, 0, none⟩), .int .i64 n] wr fun e w' => e = .returned (.tuple #[]) ∧ Dp K D R w' (fuseS s n) t ∧ KS K wr w' := by
  refine h.code (Q := fun e => e = .returned (.tuple #[])) fun a ha hd => ?_
  subst ha
  exact (fuse_ok a s n wr hd hn).mono fun _ _ ⟨h1, h2, h3⟩ => ⟨h1, a, rfl, h2, h3, From.refl _ _⟩
theorem Dp.rfuse (h : Dp K D R wr s t) (n : Int) (hn : n ≤ 9223372036854775807) : Dp K D R (wr.setCell ⟨R, 5, none⟩ (.int .i64 (max n (-1)))) s (fuseS t n) ∧ KS K wr (wr.setCell ⟨R, 5, none⟩ (.int .i64 (max n (-1)))) := by
  obtain ⟨a, b, h1, rfl, h3, h4, h5, h6, h7⟩ := h.ex
  have ho : Only b wr (wr.setCell ⟨b.D, 5, none⟩ (.int .i64 (max n (-1)))) := (Only.refl b wr).store 5 _
  refine ⟨⟨⟨a, b, h1, rfl, h3.kept fun k hk => ho.block k (h3.lt k hk) (h7 k hk), h4.store 5 _ (fuseS t n) rfl rfl (fuse_good h4.good n hn) (by simp [fuseS]), h5, h6, h7⟩, fun k hk => Nat.lt_of_lt_of_le (h.lt k hk) ho.size⟩, KS.only ho h6⟩
theorem Dp.crash (h : Dp K D R wr s t) (q : Option Addr) (c : Nat) (ks : List Int) (hks : Kept wr q ks) (hkl : ks.length ≤ 1000000) (torn a : Int) :
    Calls Try.prog 15 #[.pointer (some ⟨D, 0, none⟩), .slice q ks.length c, .int .i64 torn, .int .i64 a] wr fun e w' => e = .returned (.int .i64 (crU s ks torn a).1) ∧ Dp K D R w' (crU s ks torn a).2 t ∧ KS K wr w' := by
  refine h.code (Q := fun e => e = .returned (.int .i64 (crU s ks torn a).1)) fun d hd hk => ?_
  subst hd
  unfold crU
  cases hc : comeS s ks torn a with
  | none =>
    refine (crash_no d s wr hk q c ks hks (by unfold maxLen; omega) torn a hc).mono ?_
    rintro e w' ⟨rfl, hb⟩
    exact ⟨rfl, d, rfl, hk.below hb, Only.below hb, From.refl _ _⟩
  | some o => exact (crash_ok d s wr hk q c ks hks (by unfold maxLen; omega) torn a o hc).mono fun _ _ ⟨h1, v, h2, h3, h4⟩ => ⟨h1, { d with wv := v }, rfl, h2, h3, h4⟩
theorem Dp.rcrash (h : Dp K D R wr s t) (q : Option Addr) (c : Nat) (ks : List Int) (hks : Kept wr q ks) (hq : ∀ b off, q = some ⟨b, off, none⟩ → 0 < ks.length → K b) (hcap : ks.length ≤ c) (hkl : ks.length ≤ 1000000) (torn a : Int) :
    Calls Try.prog 16 #[.pointer (some ⟨R, 0, none⟩), .slice q ks.length c, .int .i64 torn, .int .i64 a] wr fun e w' => e = .returned (.int .i64 (crU t ks torn a).1) ∧ Dp K D R w' s (crU t ks torn a).2 ∧ KS K wr w' := by
  refine h.ref (Q := fun e => e = .returned (.int .i64 (crU t ks torn a).1)) fun d hd hk hn => ?_
  subst hd
  unfold crU
  refine (rcrash_any d t wr hk q c ks hks (fun b off e h0 hf => hn b hf (hq b off e h0)) hcap hkl torn a).mono ?_
  rintro e w' (⟨o, ho, rfl, v, h2, h3, h4⟩ | ⟨ho, rfl, hb⟩)
  · rw [ho]
    exact ⟨rfl, { d with wv := v }, rfl, h2, h3, h4⟩
  · rw [ho]
    exact ⟨rfl, d, rfl, hk.below hb, Only.below hb, From.refl _ _⟩
theorem own_ints {w : World} {base : Nat} {v : Value} {l : List Int} {n : Nat} (h : w.ownsRow base 3 1 v n (iv l)) (hn : l.length = n) : ∃ p c, v = .slice p n c ∧ CellsAt w p (iv l) ∧ ∀ b off, p = some ⟨b, off, none⟩ → b < w.heap.size := by
  rcases h.2 with ⟨rfl, rfl⟩ | ⟨g, cap, cur, rfl, _, hh, _, _, _, ht⟩
  · exact ⟨none, 0, rfl, fun j hj => absurd hj (by rw [iv_length]; omega), fun _ _ e => by cases e⟩
  · refine ⟨_, cap, rfl, fun j hj => ⟨g, 0, rfl, ?_⟩, fun b off e => by cases e; exact (Array.getElem?_eq_some_iff.1 hh).1⟩
    have hj' : j < l.length := by rw [iv_length] at hj; exact hj
    rw [cell_of_row _ _ _ _ _ _ hh, Nat.zero_add]
    rw [Nat.mul_one] at ht
    have e := congrArg (·[j]?) ht
    rw [List.getElem?_take_of_lt (by omega)] at e
    simp [iv, hj'] at e
    simpa [iv] using e
theorem cells_below {w w' : World} {p : Option Addr} {l : List Value} (h : CellsAt w p l) (hl : ∀ b off, p = some ⟨b, off, none⟩ → b < w.heap.size) (hb : Below w.heap.size w w') : CellsAt w' p l := fun j hj => by
  obtain ⟨b, off, e, hc⟩ := h j hj
  exact ⟨b, off, e, (hb.cell (p := ⟨b, off + j, none⟩) (hl b off e)).trans hc⟩
/-- the pages that wait, as numbers -/
def waitL (s : St) : List Int := s.waits.map fun p => (p.1 : Int)
theorem waitL_len (s : St) : (waitL s).length = s.waits.length := by simp [waitL]
theorem Dp.waits (h : Dp K D R wr s t) :
    Calls Try.prog 21 #[.pointer (some ⟨D, 0, none⟩)] wr fun e w' => ∃ p c, e = .returned (.slice p s.waits.length c) ∧ CellsAt w' p (iv (waitL s)) ∧ (∀ b off, p = some ⟨b, off, none⟩ → b < w'.heap.size) ∧ Below wr.heap.size wr w' := by
  obtain ⟨a, b, rfl, _, h3, _⟩ := h.ex
  refine (waits_ok a s wr h3).mono ?_
  rintro e w' ⟨v, rfl, ho, hb⟩
  rw [wpages_iv] at ho
  obtain ⟨p, c, rfl, hc, hl⟩ := own_ints ho (by simp)
  exact ⟨p, c, rfl, hc, hl, hb⟩
theorem Dp.rwaits (h : Dp K D R wr s t) :
    Calls Try.prog 22 #[.pointer (some ⟨R, 0, none⟩)] wr fun e w' => ∃ p c, e = .returned (.slice p t.waits.length c) ∧ CellsAt w' p (iv (waitL t)) ∧ (∀ b off, p = some ⟨b, off, none⟩ → b < w'.heap.size) ∧ Below wr.heap.size wr w' := by
  obtain ⟨a, b, _, rfl, _, h4, _⟩ := h.ex
  refine (rwaits_ok b t wr h4).mono ?_
  rintro e w' ⟨v, rfl, ho, hb⟩
  rw [wpages_iv] at ho
  obtain ⟨p, c, rfl, hc, hl⟩ := own_ints ho (by simp)
  exact ⟨p, c, rfl, hc, hl, hb⟩
theorem Dp.counts (h : Dp K D R wr s t) :
    Calls Try.prog 17 #[.pointer (some ⟨D, 0, none⟩)] wr fun e w' => e = .returned (.tuple #[.int .i64 s.reads, .int .i64 s.writes, .int .i64 s.flushes]) ∧ Below wr.heap.size wr w' := by
  obtain ⟨a, b, rfl, _, h3, _⟩ := h.ex
  refine (counts_ok a s wr h3).mono ?_
  rintro e w' ⟨rfl, n, rfl⟩
  exact ⟨rfl, ⟨rfl, rfl, rfl, Nat.le_refl _, fun _ _ => rfl⟩⟩
theorem Dp.size (h : Dp K D R wr s t) :
    Calls Try.prog 23 #[.pointer (some ⟨D, 0, none⟩)] wr fun e w' => e = .returned (.int .i64 (s.pages.length : Int)) ∧ wr = w' := by
  obtain ⟨a, b, rfl, _, h3, _⟩ := h.ex
  exact size_ok a s wr h3
theorem Dp.image (h : Dp K D R wr s t) :
    Calls Try.prog 19 #[.pointer (some ⟨D, 0, none⟩)] wr fun e w' => ∃ g c, e = .returned (.slice (some ⟨g, 0, none⟩) s.pages.length c) ∧ CellsAt w' (some ⟨g, 0, none⟩) (sv s.pages) ∧ Below wr.heap.size wr w' := by
  obtain ⟨a, b, rfl, _, h3, h4, _⟩ := h.ex
  refine (lv_image (w := { wr with heap := #[] }) ⟨⟨a, rfl, h3, fun k _ => Nat.zero_le _⟩, ⟨rfl, rfl, rfl, Nat.zero_le _, fun k hk => absurd hk (Nat.not_lt_zero _)⟩⟩).mono ?_
  rintro e w' ⟨g, c, rfl, _, _, hc, hb⟩
  refine ⟨g, c, rfl, fun j hj => ⟨g, 0, rfl, ?_⟩, hb⟩
  have hj' : j < s.pages.length := by rw [sv_length] at hj; exact hj
  rw [Nat.zero_add, hc j hj']
  simp [sv]
/-- what the document's disk shows -/
theorem Dp.shows (h : Dp K D R wr s t) : ∃ P c, ∀ X : World, Below wr.heap.size wr X → X.cell? ⟨R, 0, none⟩ = some (.slice (some ⟨P, 0, none⟩) t.pages.length c) ∧ X.cell? ⟨R, 2, none⟩ = some (.int .i64 t.reads) ∧ X.cell? ⟨R, 3, none⟩ = some (.int .i64 t.writes) ∧ X.cell? ⟨R, 4, none⟩ = some (.int .i64 t.flushes) ∧ CellsAt X (some ⟨P, 0, none⟩) (sv t.pages) := by
  obtain ⟨a, b, _, rfl, _, h4, _⟩ := h.ex
  refine ⟨b.P, b.cp, fun X hX => ?_⟩
  have h5 := h4.below hX
  obtain ⟨c0, _, c2, c3, c4, _⟩ := h5.cells
  refine ⟨c0, c2, c3, c4, fun j hj => ⟨b.P, 0, rfl, ?_⟩⟩
  have hj' : j < t.pages.length := by rw [sv_length] at hj; exact hj
  rw [Nat.zero_add, h5.page j hj']
  simp [sv]
theorem Dp.fuse_cell (h : Dp K D R wr s t) : wr.cell? ⟨R, 5, none⟩ = some (.int .i64 t.fuse) ∧ wr.frozen? ⟨R, 5, none⟩ = false := by
  obtain ⟨a, b, _, rfl, _, h4, _⟩ := h.ex
  exact ⟨h4.cells.2.2.2.2.2, h4.free 5⟩
end
end Go.Proofs.Ytjjplkfgihogkaa.Dk
