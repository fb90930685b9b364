/- Merged out of DkU, EnSmall, EnRest, EnCheck, EnMath, EnCut, EnEnc. -/
import Derived.Test.YtgihpdhkjneimaaGreatDoorP08
import Derived.Test.YtgihpdhkjneimaaGreatDoorP02
import Derived.Lib.Hide
import Derived.Deep.RegionHeld3
import Derived.StillTailTactics
/- What a disk's calls answer, whatever is asked, told by plain functions; and a disk of the program's, apart from blocks that stay. -/
namespace Go.Proofs.YtgihpdhkjneimaaGreatDoor.Dk
open Go.RowKit
open Go.Lib (hid)

/-- K's blocks are as they were -/
structure KS (K : Nat → Prop) (w w' : World) : Prop where
  os : w'.os = w.os
  tape : w'.tape = w.tape
  output : w'.output = w.output
  size : w.heap.size ≤ w'.heap.size
  block : ∀ k, k < w.heap.size → K k → w'.heap[k]? = w.heap[k]?
section
variable {K : Nat → Prop} {w w' w2 : World}
theorem KS.below (h : KS K w w') {N : Nat} (hN : N ≤ w.heap.size) (hK : ∀ k, k < N → K k) : Below N w w' := ⟨h.os, h.tape, h.output, h.size, fun k hk => h.block k (Nat.lt_of_lt_of_le hk hN) (hK k hk)⟩
theorem KS.of (h : Below w.heap.size w w') : KS K w w' := ⟨h.os, h.tape, h.output, h.size, fun k hk _ => h.block k hk⟩
theorem KS.refl (K : Nat → Prop) (w : World) : KS K w w := ⟨rfl, rfl, rfl, Nat.le_refl _, fun _ _ _ => rfl⟩
theorem KS.trans (h : KS K w w') (g : KS K w' w2) : KS K w w2 := ⟨g.os.trans h.os, g.tape.trans h.tape, g.output.trans h.output, Nat.le_trans h.size g.size, fun k hk hK => (g.block k (Nat.lt_of_lt_of_le hk h.size) hK).trans (h.block k hk hK)⟩
theorem KS.only {d : Ptrs} (h : Only d w w') (hn : ∀ k, Foot d k → ¬ K k) : KS K w w' := ⟨h.os, h.tape, h.output, h.size, fun k hk hK => h.block k hk fun e => hn k e hK⟩
end
/-- what Write answers, Read, Flush, Crash -/
def wrU (s : St) (n : Int) (t : ByteArray) : Int × St := if 0 ≤ n ∧ n < (s.pages.length : Int) ∧ t.size = 256 ∧ s.fuse ≠ 0 then (0, writeS s n.toNat t) else (1, s)
def rdU (s : St) (n : Int) : ByteArray × Int × St := if 0 ≤ n ∧ n < (s.pages.length : Int) then ((applyW s.pages s.waits).getD n.toNat emptyB, 0, readS s) else (⟨#[]⟩, 1, s)
def flU (s : St) : Int × St := if s.fuse = 0 then (0, s) else ((s.waits.length : Int), flushS s)
def crU (s : St) (ks : List Int) (torn a : Int) : Int × St := match comeS s ks torn a with | none => (1, s) | some o => (0, crashS s o)
/-- few calls so far -/
structure Few (s : St) (k : Nat) : Prop where
  waits : s.waits.length ≤ k
  reads : s.reads ≤ k
  writes : s.writes ≤ k
  flushes : s.flushes ≤ k
theorem few_new (l : List ByteArray) : Few (newS l) 0 := ⟨Nat.le_refl _, Int.le_refl _, Int.le_refl _, Int.le_refl _⟩
theorem Few.up {s : St} {k : Nat} (h : Few s k) : Few s (k + 1) := ⟨by have := h.waits; omega, by have := h.reads; omega, by have := h.writes; omega, by have := h.flushes; omega⟩
theorem few_wr {s : St} {k : Nat} (h : Few s k) (n : Int) (t : ByteArray) : Few (wrU s n t).2 (k + 1) := by
  unfold wrU
  split
  · refine ⟨?_, ?_, ?_, ?_⟩
    · show (s.waits ++ [(n.toNat, t)]).length ≤ k + 1
      have := h.waits; rw [List.length_append]; simpa using this
    · have := h.reads; show s.reads ≤ _; omega
    · have := h.writes; show s.writes + 1 ≤ _; omega
    · have := h.flushes; show s.flushes ≤ _; omega
  · exact h.up
theorem few_rd {s : St} {k : Nat} (h : Few s k) (n : Int) : Few (rdU s n).2.2 (k + 1) := by
  unfold rdU
  split
  · refine ⟨?_, ?_, ?_, ?_⟩
    · have := h.waits; show s.waits.length ≤ _; omega
    · have := h.reads; show s.reads + 1 ≤ _; omega
    · have := h.writes; show s.writes ≤ _; omega
    · have := h.flushes; show s.flushes ≤ _; omega
  · exact h.up
theorem few_fl {s : St} {k : Nat} (h : Few s k) : Few (flU s).2 (k + 1) := by
  unfold flU
  split
  · exact h.up
  · refine ⟨Nat.zero_le _, ?_, ?_, ?_⟩
    · have := h.reads; show s.reads ≤ _; omega
    · have := h.writes; show s.writes ≤ _; omega
    · have := h.flushes; show s.flushes + 1 ≤ _; omega
theorem few_fu {s : St} {k : Nat} (h : Few s k) (n : Int) : Few (fuseS s n) (k + 1) := ⟨(h.up).waits, h.up.reads, h.up.writes, h.up.flushes⟩
theorem few_cr {s : St} {k : Nat} (h : Few s k) (ks : List Int) (torn a : Int) : Few (crU s ks torn a).2 (k + 1) := by
  unfold crU
  split
  · exact h.up
  · exact ⟨Nat.zero_le _, h.up.reads, h.up.writes, h.up.flushes⟩
theorem crashP_len (s : St) (o : List ByteArray) : (crashS s o).pages.length = s.pages.length := crashP_length _ _ _
theorem wr_len (s : St) (n : Int) (t : ByteArray) : (wrU s n t).2.pages.length = s.pages.length := by unfold wrU; split <;> rfl
theorem rd_len (s : St) (n : Int) : (rdU s n).2.2.pages.length = s.pages.length := by unfold rdU; split <;> rfl
theorem fl_len (s : St) : (flU s).2.pages.length = s.pages.length := by
  unfold flU
  split
  · rfl
  · show (applyW s.pages _).length = _
    rw [applyW_length]
theorem cr_len (s : St) (ks : List Int) (torn a : Int) : (crU s ks torn a).2.pages.length = s.pages.length := by
  unfold crU
  split
  · rfl
  · exact crashP_len _ _
theorem got_at {l : List ByteArray} {i : Nat} {u : ByteArray} (h : l[i]? = some u) : l.getD i emptyB = u := by rw [List.getD_eq_getElem?_getD, h]; rfl
/-- the program's disk at D, apart from K's blocks -/
structure Cd (K : Nat → Prop) (D : Nat) (wr : World) (s : St) : Prop where
  ex : ∃ a : Ptrs, a.D = D ∧ Dsk wr a s ∧ ∀ k, Foot a k → ¬ K k
  lt : ∀ k, K k → k < wr.heap.size
section
variable {K : Nat → Prop} {D : Nat} {wr w' : World} {s : St}
theorem Cd.good (h : Cd K D wr s) : Good s := by obtain ⟨a, _, h1, _⟩ := h.ex; exact h1.good
theorem Cd.next (h : Cd K D wr s) (hb : Below wr.heap.size wr w') : Cd K D w' s := by
  obtain ⟨a, h1, h3, h5⟩ := h.ex
  exact ⟨⟨a, h1, h3.below hb, h5⟩, fun k hk => Nat.lt_of_lt_of_le (h.lt k hk) hb.size⟩
theorem Cd.less {K' : Nat → Prop} (h : Cd K D wr s) (hk : ∀ j, K' j → K j) : Cd K' D wr s := by
  obtain ⟨a, h1, h3, h5⟩ := h.ex
  exact ⟨⟨a, h1, h3, fun k hf e => h5 k hf (hk k e)⟩, fun k e => h.lt k (hk k e)⟩
/-- blocks that have come, and blocks of others that stay from now on -/
theorem Cd.more {K' : Nat → Prop} (h : Cd K D wr s) (hb : Below wr.heap.size wr w') (hK : ∀ k, K' k → K k ∨ wr.heap.size ≤ k) (hl : ∀ k, K' k → k < w'.heap.size) : Cd K' D w' s := by
  obtain ⟨a, h1, h3, h5⟩ := h.ex
  refine ⟨⟨a, h1, h3.below hb, fun k hf e => ?_⟩, hl⟩
  have := h3.lt k hf
  rcases hK k e with e | e
  · exact h5 k hf e
  · omega
/-- another block of K alone has turned -/
theorem Cd.turn {w' : World} (h : Cd K D wr s) (hs : wr.heap.size ≤ w'.heap.size) (hb : ∀ k, k < wr.heap.size → ¬ K k → w'.heap[k]? = wr.heap[k]?) : Cd K D w' s := by
  obtain ⟨a, h1, h3, h5⟩ := h.ex
  exact ⟨⟨a, h1, h3.kept fun k hk => hb k (h3.lt k hk) (h5 k hk), h5⟩, fun k hk => Nat.lt_of_lt_of_le (h.lt k hk) hs⟩
theorem Cd.code {f : FuncId} {args : Array Value} {Q : Ending → Prop} {s' : St} (h : Cd K D wr s)
    (hc : ∀ a : Ptrs, a.D = D → Dsk wr a s → Calls Tryz.prog f args wr fun e w' => Q e ∧ ∃ a' : Ptrs, a'.D = a.D ∧ Dsk w' a' s' ∧ Only a wr w' ∧ From a a' wr) :
    Calls Tryz.prog f args wr fun e w' => Q e ∧ Cd K D w' s' ∧ KS K wr w' := by
  obtain ⟨a, h1, h3, h5⟩ := h.ex
  refine (hc a h1 h3).mono fun e w' ⟨r, a', g1, g2, g3, g4⟩ => ⟨r, ⟨⟨a', g1.trans h1, g2, fun k hf hk => ?_⟩, fun k hk => Nat.lt_of_lt_of_le (h.lt k hk) g3.size⟩, KS.only g3 h5⟩
  rcases g4 k hf with e | e
  · exact h5 k e hk
  · have := h.lt k hk; omega
theorem Cd.write (h : Cd K D wr s) {k : Nat} (hf : Few s k) (hk : k < 1000000) (n : Int) (u : ByteArray) :
    Calls Tryz.prog 78 #[.pointer (some ⟨D, 0, none⟩), .int .i64 n, .string u] wr fun e w' => e = .returned (.int .i64 (wrU s n u).1) ∧ Cd K D w' (wrU s n u).2 ∧ KS K wr w' := by
  refine h.code (Q := fun e => e = .returned (.int .i64 (wrU s n u).1)) fun a ha hd => ?_
  subst ha
  unfold wrU
  by_cases hc : 0 ≤ n ∧ n < (s.pages.length : Int) ∧ u.size = 256 ∧ s.fuse ≠ 0
  · rw [if_pos hc]
    obtain ⟨m, rfl⟩ : ∃ m : Nat, n = (m : Int) := ⟨n.toNat, by omega⟩
    exact (write_ok a s m u wr hd (by omega) hc.2.2.1 hc.2.2.2 (by have := hf.waits; omega) (by have := hf.writes; omega)).mono fun _ _ ⟨h1, v, h2, h3, h4⟩ => ⟨h1, { a with wv := v }, rfl, h2, h3, h4⟩
  · rw [if_neg hc]
    refine (write_bad a s n u wr hd (by omega)).mono ?_
    rintro e w' ⟨rfl, rfl⟩
    exact ⟨rfl, a, rfl, hd, Only.refl _ _, From.refl _ _⟩
theorem Cd.read (h : Cd K D wr s) {k : Nat} (hf : Few s k) (hk : k < 1000000) (n : Int) :
    Calls Tryz.prog 132 #[.pointer (some ⟨D, 0, none⟩), .int .i64 n] wr fun e w' => e = .returned (.tuple #[.string (rdU s n).1, .int .i64 (rdU s n).2.1]) ∧ Cd K D w' (rdU s n).2.2 ∧ KS K wr w' := by
  refine h.code (Q := fun e => e = .returned (.tuple #[.string (rdU s n).1, .int .i64 (rdU s n).2.1])) fun a ha hd => ?_
  subst ha
  unfold rdU
  by_cases hc : 0 ≤ n ∧ n < (s.pages.length : Int)
  · rw [if_pos hc]
    obtain ⟨m, rfl⟩ : ∃ m : Nat, n = (m : Int) := ⟨n.toNat, by omega⟩
    refine (read_ok a s m wr hd (by omega) (by have := hf.reads; omega)).mono ?_
    rintro e w' ⟨u, rfl, hu, h2, h3⟩
    exact ⟨by rw [Int.toNat_natCast, got_at hu], a, rfl, h2, h3, From.refl _ _⟩
  · rw [if_neg hc]
    refine (read_bad a s n wr hd (by omega)).mono ?_
    rintro e w' ⟨rfl, hb⟩
    exact ⟨rfl, a, rfl, hd.below hb, Only.below hb, From.refl _ _⟩
theorem Cd.flush (h : Cd K D wr s) {k : Nat} (hf : Few s k) (hk : k < 1000000) :
    Calls Tryz.prog 91 #[.pointer (some ⟨D, 0, none⟩)] wr fun e w' => e = .returned (.int .i64 (flU s).1) ∧ Cd K D w' (flU s).2 ∧ KS K wr w' := by
  refine h.code (Q := fun e => e = .returned (.int .i64 (flU s).1)) fun a ha hd => ?_
  subst ha
  unfold flU
  by_cases hc : s.fuse = 0
  · rw [if_pos hc]
    refine (flush_dead a s wr hd hc).mono ?_
    rintro e w' ⟨rfl, rfl⟩
    exact ⟨rfl, a, rfl, hd, Only.refl _ _, From.refl _ _⟩
  · rw [if_neg hc]
    exact (flush_ok a s wr hd hc (by have := hf.flushes; omega)).mono fun _ _ ⟨h1, v, h2, h3, h4⟩ => ⟨h1, { a with wv := v }, rfl, h2, h3, h4⟩
end
end Go.Proofs.YtgihpdhkjneimaaGreatDoor.Dk

/- The small calls of entry: which page may be staged; what a text's kind has. -/
namespace Go.Proofs.YtgihpdhkjneimaaGreatDoor.En
open Go.RowKit
open Go.Lib (hid)
/-- may such a page be staged? -/
def mayS (k n : Int) (b : ByteArray) : Prop := (k = 0 → b.toList.isEmpty = true) ∧ 0 ≤ k ∧ k < 5 ∧ 0 ≤ n ∧ n ≤ 999 ∧ b.size ≤ 230
set_option maxHeartbeats 400000 in
theorem staged_yes (k n : Int) (b : ByteArray) (w : World) (h : mayS k n b) :
    Calls Tryz.prog 153 #[.agg #[.int .i64 k, .int .i64 n, .string b]] w fun e w' => e = .returned (.bool true) ∧ Below w.heap.size w w' := by
  unfold mayS at h
  obtain ⟨h1, h2, h3, h4, h5, h6⟩ := h
  have e5 : decide ((b.size : Int) ≤ 230) = true := by simp; omega
  by_cases h0 : k = 0
  · subst h0
    have e1 := h1 rfl
    clear h1
    go_enter Tryz.func153, Tryz.ntmps153
    go_wp2_with fail
    go_ret
    exact ⟨rfl, (Below.refl _ _).alloc (Nat.le_refl _) _⟩
  · have e0 : (k == 0) = false := by simpa using h0
    clear h0 h1
    go_enter Tryz.func153, Tryz.ntmps153
    go_wp2_with fail
    go_ret
    exact ⟨rfl, (Below.refl _ _).alloc (Nat.le_refl _) _⟩
set_option maxHeartbeats 1000000 in
theorem staged_no (k n : Int) (b : ByteArray) (w : World) (h : ¬ mayS k n b) :
    Calls Tryz.prog 153 #[.agg #[.int .i64 k, .int .i64 n, .string b]] w fun e w' => e = .returned (.bool false) ∧ Below w.heap.size w w' := by
  unfold mayS at h
  by_cases h0 : k = 0
  · subst h0
    by_cases h1 : b.toList.isEmpty = true
    · by_cases h4 : 0 ≤ n
      · by_cases h5 : n ≤ 999
        · exfalso; apply h
          have : b.size = 0 := by
            rw [ByteArray.toList_eq] at h1
            have h2 := List.isEmpty_iff.1 h1
            have h3 : b.data.toList.length = 0 := by rw [h2]; rfl
            simpa using h3
          exact ⟨fun _ => h1, by decide, by decide, h4, h5, by omega⟩
        · have e4 : decide (n ≤ 999) = false := by simp; omega
          clear h h5
          go_enter Tryz.func153, Tryz.ntmps153
          go_wp2_with fail
          go_ret
          exact ⟨rfl, (Below.refl _ _).alloc (Nat.le_refl _) _⟩
      · have e4 : decide (0 ≤ n) = false := by simp; omega
        clear h h4
        go_enter Tryz.func153, Tryz.ntmps153
        go_wp2_with fail
        go_ret
        exact ⟨rfl, (Below.refl _ _).alloc (Nat.le_refl _) _⟩
    · have e1 : b.toList.isEmpty = false := by simpa using h1
      clear h h1
      go_enter Tryz.func153, Tryz.ntmps153
      go_wp2_with fail
      go_ret
      exact ⟨rfl, (Below.refl _ _).alloc (Nat.le_refl _) _⟩
  · have e0 : (k == 0) = false := by simpa using h0
    by_cases h2 : 0 ≤ k
    · by_cases h3 : k < 5
      · by_cases h4 : 0 ≤ n
        · by_cases h5 : n ≤ 999
          · have e5 : decide ((b.size : Int) ≤ 230) = false := by
              simp only [decide_eq_false_iff_not]; intro h6; exact h ⟨fun h7 => absurd h7 h0, h2, h3, h4, h5, by omega⟩
            clear h h0
            go_enter Tryz.func153, Tryz.ntmps153
            go_wp2_with fail
            go_ret
            exact ⟨rfl, (Below.refl _ _).alloc (Nat.le_refl _) _⟩
          · have e4 : decide (n ≤ 999) = false := by simp; omega
            clear h h5 h0
            go_enter Tryz.func153, Tryz.ntmps153
            go_wp2_with fail
            go_ret
            exact ⟨rfl, (Below.refl _ _).alloc (Nat.le_refl _) _⟩
        · have e4 : decide (0 ≤ n) = false := by simp; omega
          clear h h4 h0
          go_enter Tryz.func153, Tryz.ntmps153
          go_wp2_with fail
          go_ret
          exact ⟨rfl, (Below.refl _ _).alloc (Nat.le_refl _) _⟩
      · have e4 : decide (k < 5) = false := by simp; omega
        clear h h3 h0
        go_enter Tryz.func153, Tryz.ntmps153
        go_wp2_with fail
        go_ret
        exact ⟨rfl, (Below.refl _ _).alloc (Nat.le_refl _) _⟩
    · have e4 : decide (0 ≤ k) = false := by simp; omega
      clear h h2 h0
      go_enter Tryz.func153, Tryz.ntmps153
      go_wp2_with fail
      go_ret
      exact ⟨rfl, (Below.refl _ _).alloc (Nat.le_refl _) _⟩
theorem staged_any (k n : Int) (b : ByteArray) (w : World) (r : Bool) (h : r = true ↔ mayS k n b) :
    Calls Tryz.prog 153 #[.agg #[.int .i64 k, .int .i64 n, .string b]] w fun e w' => e = .returned (.bool r) ∧ Below w.heap.size w w' := by
  cases r with
  | true => exact staged_yes k n b w (h.1 rfl)
  | false => exact staged_no k n b w (fun hm => by cases h.2 hm)
end Go.Proofs.YtgihpdhkjneimaaGreatDoor.En

/- What entry asks of an entry: rest and Check. -/
namespace Go.Proofs.YtgihpdhkjneimaaGreatDoor.En
open Go.RowKit
open Go.Lib (hid)
/-- are two pages the same? -/
def pageB (a b a' b' : Int) (c c' : ByteArray) : Bool := a == a' && (b == b' && c.toList == c'.toList)
theorem eq23 (a b a' b' : Int) (c c' : ByteArray) (w : World) :
    (binOp .eql 69 (.agg #[.int .i64 a, .int .i64 b, .string c]) (.agg #[.int .i64 a', .int .i64 b', .string c'])).run Tryz.prog w = .ok (.bool (pageB a b a' b' c c')) w := by
  have ht : Tryz.prog.underlying 69 = some (.struct (Tryz.prog.fieldsOf 69)) := by kernel_rfl
  have hp : Tryz.prog.stoodInHeld 69 = false := by kernel_rfl
  rw [run_eql_struct, show (10000 : Nat) = 9999 + 1 from rfl, run_equalIn_struct _ _ _ _ _ ht hp]
  simp only [Program.fieldsOf, Tryz.underlying69]
  unfold pageB
  by_cases h1 : a = a'
  · by_cases h2 : b = b'
    · by_cases h3 : c.toList = c'.toList <;> simp [Op.eqFields, go_sem, h1, h2, h3]
    · simp [Op.eqFields, go_sem, h1, h2]
  · simp [Op.eqFields, go_sem, h1]
/-- no page -/
def noP (pk pn : Int) (b : ByteArray) : Bool := pageB pk pn 0 0 b ⟨#[]⟩
/-- what is not alike in all kinds -/
def restP (kd ix pk pn : Int) (b : ByteArray) (ct sm : Int) : Prop :=
  (kd = 1 ∧ mayS pk pn b ∧ ct = 0 ∧ sm = 0) ∨ (kd = 2 ∧ 1 ≤ ct ∧ ct = ix ∧ noP pk pn b = true) ∨ (kd = 3 ∧ noP pk pn b = true ∧ ct = 0 ∧ sm = 0)
theorem ent_cells {kd tx ix pk pn ct sm : Int} {b : ByteArray} {w w' : World} (hb : Below (w.alloc (.cells #[.int .i64 kd, .int .i64 tx, .int .i64 ix, .int .i64 pk, .int .i64 pn, .string b, .int .i64 ct, .int .u32 sm] 134)).heap.size (w.alloc (.cells #[.int .i64 kd, .int .i64 tx, .int .i64 ix, .int .i64 pk, .int .i64 pn, .string b, .int .i64 ct, .int .u32 sm] 134)) w') :
    w'.cell? ⟨w.heap.size, 6, none⟩ = some (.int .i64 ct) ∧ w'.cell? ⟨w.heap.size, 7, none⟩ = some (.int .u32 sm) := by
  constructor
  · rw [hb.cell (p := ⟨w.heap.size, 6, none⟩) (by simp), cell_of_row _ _ _ _ _ _ (heap_alloc_new _ _)]; rfl
  · rw [hb.cell (p := ⟨w.heap.size, 7, none⟩) (by simp), cell_of_row _ _ _ _ _ _ (heap_alloc_new _ _)]; rfl
set_option maxHeartbeats 1000000 in
theorem rest1_st (tx ix pk pn ct sm : Int) (b : ByteArray) (w : World) (h : ¬ mayS pk pn b) :
    Calls Tryz.prog 144 #[.agg #[.int .i64 1, .int .i64 tx, .int .i64 ix, .int .i64 pk, .int .i64 pn, .string b, .int .i64 ct, .int .u32 sm]] w fun e w' => e = .returned (.bool false) ∧ Below w.heap.size w w' := by
  have H := hid (show false = true ↔ mayS pk pn b from ⟨(fun h' => nomatch h'), (fun h' => absurd h' h)⟩); clear h
  go_enter Tryz.func144, Tryz.ntmps144
  go_wp2_with (go_at_call 153; refine (staged_any pk pn b _ false H.out).mono ?_; rintro e w' ⟨rfl, hb⟩; have c6 := (ent_cells hb).1; have c7 := (ent_cells hb).2; have HB := hid hb; clear hb)
  go_ret
  exact ⟨rfl, ((Below.refl _ _).alloc (Nat.le_refl _) _).trans (HB.out.mono (by simp))⟩
set_option maxHeartbeats 1000000 in
theorem rest1_ct (tx ix pk pn ct sm : Int) (b : ByteArray) (w : World) (h : mayS pk pn b) (hc : ct ≠ 0) :
    Calls Tryz.prog 144 #[.agg #[.int .i64 1, .int .i64 tx, .int .i64 ix, .int .i64 pk, .int .i64 pn, .string b, .int .i64 ct, .int .u32 sm]] w fun e w' => e = .returned (.bool false) ∧ Below w.heap.size w w' := by
  have H := hid (show true = true ↔ mayS pk pn b from ⟨fun _ => h, fun _ => rfl⟩); clear h
  have e0 : (ct == 0) = false := by simpa using hc
  clear hc
  go_enter Tryz.func144, Tryz.ntmps144
  go_wp2_with (go_at_call 153; refine (staged_any pk pn b _ true H.out).mono ?_; rintro e w' ⟨rfl, hb⟩; have c6 := (ent_cells hb).1; have c7 := (ent_cells hb).2; have HB := hid hb; clear hb)
  go_ret
  exact ⟨rfl, ((Below.refl _ _).alloc (Nat.le_refl _) _).trans (HB.out.mono (by simp))⟩
set_option maxHeartbeats 1000000 in
theorem rest1_sm (tx ix pk pn ct sm : Int) (b : ByteArray) (w : World) (h : mayS pk pn b) (hc : sm ≠ 0) :
    Calls Tryz.prog 144 #[.agg #[.int .i64 1, .int .i64 tx, .int .i64 ix, .int .i64 pk, .int .i64 pn, .string b, .int .i64 ct, .int .u32 sm]] w fun e w' => e = .returned (.bool false) ∧ Below w.heap.size w w' := by
  have H := hid (show true = true ↔ mayS pk pn b from ⟨fun _ => h, fun _ => rfl⟩); clear h
  have e0 : (sm == 0) = false := by simpa using hc
  clear hc
  by_cases hz : ct = 0
  · subst hz
    go_enter Tryz.func144, Tryz.ntmps144
    go_wp2_with (go_at_call 153; refine (staged_any pk pn b _ true H.out).mono ?_; rintro e w' ⟨rfl, hb⟩; have c6 := (ent_cells hb).1; have c7 := (ent_cells hb).2; have HB := hid hb; clear hb)
    go_ret
    exact ⟨rfl, ((Below.refl _ _).alloc (Nat.le_refl _) _).trans (HB.out.mono (by simp))⟩
  · have e1 : (ct == 0) = false := by simpa using hz
    clear hz
    go_enter Tryz.func144, Tryz.ntmps144
    go_wp2_with (go_at_call 153; refine (staged_any pk pn b _ true H.out).mono ?_; rintro e w' ⟨rfl, hb⟩; have c6 := (ent_cells hb).1; have c7 := (ent_cells hb).2; have HB := hid hb; clear hb)
    go_ret
    exact ⟨rfl, ((Below.refl _ _).alloc (Nat.le_refl _) _).trans (HB.out.mono (by simp))⟩
set_option maxHeartbeats 1000000 in
theorem rest1_yes (tx ix pk pn : Int) (b : ByteArray) (w : World) (h : mayS pk pn b) :
    Calls Tryz.prog 144 #[.agg #[.int .i64 1, .int .i64 tx, .int .i64 ix, .int .i64 pk, .int .i64 pn, .string b, .int .i64 0, .int .u32 0]] w fun e w' => e = .returned (.bool true) ∧ Below w.heap.size w w' := by
  have H := hid (show true = true ↔ mayS pk pn b from ⟨fun _ => h, fun _ => rfl⟩); clear h
  go_enter Tryz.func144, Tryz.ntmps144
  go_wp2_with (go_at_call 153; refine (staged_any pk pn b _ true H.out).mono ?_; rintro e w' ⟨rfl, hb⟩; have c6 := (ent_cells hb).1; have c7 := (ent_cells hb).2; have HB := hid hb; clear hb)
  go_ret
  exact ⟨rfl, ((Below.refl _ _).alloc (Nat.le_refl _) _).trans (HB.out.mono (by simp))⟩
set_option maxHeartbeats 1000000 in
theorem rest3_np (tx ix pk pn ct sm : Int) (b : ByteArray) (w : World) (h : noP pk pn b = false) :
    Calls Tryz.prog 144 #[.agg #[.int .i64 3, .int .i64 tx, .int .i64 ix, .int .i64 pk, .int .i64 pn, .string b, .int .i64 ct, .int .u32 sm]] w fun e w' => e = .returned (.bool false) ∧ Below w.heap.size w w' := by
  have heq := eq23
  have hp : pageB pk pn 0 0 b ⟨#[]⟩ = false := h
  clear h
  go_enter Tryz.func144, Tryz.ntmps144
  go_wp2_with fail
  go_ret
  exact ⟨rfl, (Below.refl _ _).alloc (Nat.le_refl _) _⟩
set_option maxHeartbeats 1000000 in
theorem rest3_ct (tx ix pk pn ct sm : Int) (b : ByteArray) (w : World) (h : noP pk pn b = true) (hc : ct ≠ 0) :
    Calls Tryz.prog 144 #[.agg #[.int .i64 3, .int .i64 tx, .int .i64 ix, .int .i64 pk, .int .i64 pn, .string b, .int .i64 ct, .int .u32 sm]] w fun e w' => e = .returned (.bool false) ∧ Below w.heap.size w w' := by
  have heq := eq23
  have hp : pageB pk pn 0 0 b ⟨#[]⟩ = true := h
  clear h
  have e0 : (ct == 0) = false := by simpa using hc
  clear hc
  go_enter Tryz.func144, Tryz.ntmps144
  go_wp2_with fail
  go_ret
  exact ⟨rfl, (Below.refl _ _).alloc (Nat.le_refl _) _⟩
set_option maxHeartbeats 1000000 in
theorem rest3_sm (tx ix pk pn ct sm : Int) (b : ByteArray) (w : World) (h : noP pk pn b = true) (hc : ct = 0) (hs : sm ≠ 0) :
    Calls Tryz.prog 144 #[.agg #[.int .i64 3, .int .i64 tx, .int .i64 ix, .int .i64 pk, .int .i64 pn, .string b, .int .i64 ct, .int .u32 sm]] w fun e w' => e = .returned (.bool false) ∧ Below w.heap.size w w' := by
  have heq := eq23
  have hp : pageB pk pn 0 0 b ⟨#[]⟩ = true := h
  clear h
  subst hc
  have e1 : (sm == 0) = false := by simpa using hs
  clear hs
  go_enter Tryz.func144, Tryz.ntmps144
  go_wp2_with fail
  go_ret
  exact ⟨rfl, (Below.refl _ _).alloc (Nat.le_refl _) _⟩
set_option maxHeartbeats 1000000 in
theorem rest3_yes (tx ix pk pn ct sm : Int) (b : ByteArray) (w : World) (h : noP pk pn b = true) (hc : ct = 0) (hs : sm = 0) :
    Calls Tryz.prog 144 #[.agg #[.int .i64 3, .int .i64 tx, .int .i64 ix, .int .i64 pk, .int .i64 pn, .string b, .int .i64 ct, .int .u32 sm]] w fun e w' => e = .returned (.bool true) ∧ Below w.heap.size w w' := by
  have heq := eq23
  have hp : pageB pk pn 0 0 b ⟨#[]⟩ = true := h
  clear h
  subst hc hs
  go_enter Tryz.func144, Tryz.ntmps144
  go_wp2_with fail
  go_ret
  exact ⟨rfl, (Below.refl _ _).alloc (Nat.le_refl _) _⟩
set_option maxHeartbeats 1000000 in
theorem rest2_lo (tx ix pk pn ct sm : Int) (b : ByteArray) (w : World) (hc : ¬ 1 ≤ ct) :
    Calls Tryz.prog 144 #[.agg #[.int .i64 2, .int .i64 tx, .int .i64 ix, .int .i64 pk, .int .i64 pn, .string b, .int .i64 ct, .int .u32 sm]] w fun e w' => e = .returned (.bool false) ∧ Below w.heap.size w w' := by
  have e0 : decide (1 ≤ ct) = false := by simpa using hc
  clear hc
  go_enter Tryz.func144, Tryz.ntmps144
  go_wp2_with fail
  go_ret
  exact ⟨rfl, (Below.refl _ _).alloc (Nat.le_refl _) _⟩
set_option maxHeartbeats 1000000 in
theorem rest2_ix (tx ix pk pn ct sm : Int) (b : ByteArray) (w : World) (hc : 1 ≤ ct) (hi : ct ≠ ix) :
    Calls Tryz.prog 144 #[.agg #[.int .i64 2, .int .i64 tx, .int .i64 ix, .int .i64 pk, .int .i64 pn, .string b, .int .i64 ct, .int .u32 sm]] w fun e w' => e = .returned (.bool false) ∧ Below w.heap.size w w' := by
  have e0 : decide (1 ≤ ct) = true := by simpa using hc
  clear hc
  have e1 : (ct == ix) = false := by simpa using hi
  clear hi
  go_enter Tryz.func144, Tryz.ntmps144
  go_wp2_with fail
  go_ret
  exact ⟨rfl, (Below.refl _ _).alloc (Nat.le_refl _) _⟩
set_option maxHeartbeats 1000000 in
theorem rest2_pg (tx ix pk pn ct sm : Int) (b : ByteArray) (w : World) (hc : 1 ≤ ct) (hi : ct = ix) (r : Bool) (h : noP pk pn b = r) :
    Calls Tryz.prog 144 #[.agg #[.int .i64 2, .int .i64 tx, .int .i64 ix, .int .i64 pk, .int .i64 pn, .string b, .int .i64 ct, .int .u32 sm]] w fun e w' => e = .returned (.bool r) ∧ Below w.heap.size w w' := by
  have heq := eq23
  have hp : pageB pk pn 0 0 b ⟨#[]⟩ = r := h
  clear h
  subst hi
  have e0 : decide (1 ≤ ct) = true := by simpa using hc
  clear hc
  go_enter Tryz.func144, Tryz.ntmps144
  go_wp2_with fail
  go_ret
  exact ⟨rfl, (Below.refl _ _).alloc (Nat.le_refl _) _⟩
set_option maxHeartbeats 1000000 in
theorem rest_kd (kd tx ix pk pn ct sm : Int) (b : ByteArray) (w : World) (h1 : kd ≠ 1) (h2 : kd ≠ 2) (h3 : kd ≠ 3) :
    Calls Tryz.prog 144 #[.agg #[.int .i64 kd, .int .i64 tx, .int .i64 ix, .int .i64 pk, .int .i64 pn, .string b, .int .i64 ct, .int .u32 sm]] w fun e w' => e = .returned (.bool false) ∧ Below w.heap.size w w' := by
  have e1 : (kd == 1) = false := by simpa using h1
  have e2 : (kd == 2) = false := by simpa using h2
  have e3 : (kd == 3) = false := by simpa using h3
  clear h1 h2 h3
  go_enter Tryz.func144, Tryz.ntmps144
  go_wp2_with fail
  go_ret
  exact ⟨rfl, (Below.refl _ _).alloc (Nat.le_refl _) _⟩
end Go.Proofs.YtgihpdhkjneimaaGreatDoor.En

/- Check of entry: what it answers, whatever it is asked. -/
namespace Go.Proofs.YtgihpdhkjneimaaGreatDoor.En
open Go.RowKit
open Go.Lib (hid)
theorem rest_any (kd tx ix pk pn ct sm : Int) (b : ByteArray) (w : World) (r : Bool) (h : r = true ↔ restP kd ix pk pn b ct sm) :
    Calls Tryz.prog 144 #[.agg #[.int .i64 kd, .int .i64 tx, .int .i64 ix, .int .i64 pk, .int .i64 pn, .string b, .int .i64 ct, .int .u32 sm]] w fun e w' => e = .returned (.bool r) ∧ Below w.heap.size w w' := by
  have rF : ¬ restP kd ix pk pn b ct sm → r = false := fun hn => by
    cases r with
    | true => exact absurd (h.1 rfl) hn
    | false => rfl
  have rT : restP kd ix pk pn b ct sm → r = true := h.2
  clear h
  unfold restP at rF rT
  by_cases h1 : kd = 1
  · subst h1
    by_cases hm : mayS pk pn b
    · by_cases hc : ct = 0
      · by_cases hs : sm = 0
        · rw [rT (Or.inl ⟨rfl, hm, hc, hs⟩)]; subst hc hs; exact rest1_yes tx ix pk pn b w hm
        · rw [rF (by rintro (⟨_, _, _, h⟩ | ⟨h, _⟩ | ⟨h, _⟩) <;> omega)]; exact rest1_sm tx ix pk pn ct sm b w hm hs
      · rw [rF (by rintro (⟨_, _, h, _⟩ | ⟨h, _⟩ | ⟨h, _⟩) <;> omega)]; exact rest1_ct tx ix pk pn ct sm b w hm hc
    · rw [rF (by rintro (⟨_, h, _⟩ | ⟨h, _⟩ | ⟨h, _⟩) <;> first | exact hm h | omega)]; exact rest1_st tx ix pk pn ct sm b w hm
  · by_cases h2 : kd = 2
    · subst h2
      by_cases hc : 1 ≤ ct
      · by_cases hi : ct = ix
        · cases hp : noP pk pn b with
          | true => rw [rT (Or.inr (Or.inl ⟨rfl, hc, hi, hp⟩))]; exact rest2_pg tx ix pk pn ct sm b w hc hi true hp
          | false => rw [rF (by rintro (⟨h, _⟩ | ⟨_, _, _, h⟩ | ⟨h, _⟩) <;> first | omega | (rw [hp] at h; cases h))]; exact rest2_pg tx ix pk pn ct sm b w hc hi false hp
        · rw [rF (by rintro (⟨h, _⟩ | ⟨_, _, h, _⟩ | ⟨h, _⟩) <;> omega)]; exact rest2_ix tx ix pk pn ct sm b w hc hi
      · rw [rF (by rintro (⟨h, _⟩ | ⟨_, h, _⟩ | ⟨h, _⟩) <;> omega)]; exact rest2_lo tx ix pk pn ct sm b w hc
    · by_cases h3 : kd = 3
      · subst h3
        cases hp : noP pk pn b with
        | true =>
          by_cases hc : ct = 0
          · by_cases hs : sm = 0
            · rw [rT (Or.inr (Or.inr ⟨rfl, hp, hc, hs⟩))]; exact rest3_yes tx ix pk pn ct sm b w hp hc hs
            · rw [rF (by rintro (⟨h, _⟩ | ⟨h, _⟩ | ⟨_, _, _, h⟩) <;> omega)]; exact rest3_sm tx ix pk pn ct sm b w hp hc hs
          · rw [rF (by rintro (⟨h, _⟩ | ⟨h, _⟩ | ⟨_, _, h, _⟩) <;> omega)]; exact rest3_ct tx ix pk pn ct sm b w hp hc
        | false => rw [rF (by rintro (⟨h, _⟩ | ⟨h, _⟩ | ⟨_, h, _⟩) <;> first | omega | (rw [hp] at h; cases h))]; exact rest3_np tx ix pk pn ct sm b w hp
      · rw [rF (by rintro (⟨h, _⟩ | ⟨h, _⟩ | ⟨h, _⟩) <;> omega)]; exact rest_kd kd tx ix pk pn ct sm b w h1 h2 h3
/-- may such an entry be? -/
def mayE (kd tx ix pk pn : Int) (b : ByteArray) (ct sm : Int) : Prop := 1 ≤ tx ∧ tx ≤ 4294967295 ∧ 0 ≤ ix ∧ ix ≤ 999 ∧ restP kd ix pk pn b ct sm
set_option maxHeartbeats 1000000 in
theorem check_rest (kd tx ix pk pn ct sm : Int) (b : ByteArray) (w : World) (h1 : 1 ≤ tx) (h2 : tx ≤ 4294967295) (h3 : 0 ≤ ix) (h4 : ix ≤ 999) (hr : restP kd ix pk pn b ct sm) :
    Calls Tryz.prog 127 #[.agg #[.int .i64 kd, .int .i64 tx, .int .i64 ix, .int .i64 pk, .int .i64 pn, .string b, .int .i64 ct, .int .u32 sm]] w fun e w' => e = .returned (.int .i64 0) ∧ Below w.heap.size w w' := by
  have H := hid (show true = true ↔ restP kd ix pk pn b ct sm from ⟨fun _ => hr, fun _ => rfl⟩); clear hr
  obtain ⟨t, rfl⟩ : ∃ t : Nat, tx = (t : Int) := ⟨tx.toNat, by omega⟩
  have e1 : decide ((t : Int) < 1) = false := by simp; omega
  have e2 : IntKind.u64.wrap (t : Int) = (t : Int) := by unfold IntKind.wrap; simp [IntKind.signed, IntKind.bits]; omega
  have e3 : decide (ix < 0) = false := by simp; omega
  have e4 : decide (999 < ix) = false := by simp; omega
  go_enter Tryz.func127, Tryz.ntmps127
  go_wp2_with (go_at_call 144; refine (rest_any kd t ix pk pn ct sm b _ true H.out).mono ?_; rintro e w' ⟨rfl, hb⟩; have HB := hid hb; clear hb)
  go_ret
  exact ⟨rfl, ((Below.refl _ _).alloc (Nat.le_refl _) _).trans (HB.out.mono (by simp))⟩
set_option maxHeartbeats 1000000 in
theorem check_lo (kd tx ix pk pn ct sm : Int) (b : ByteArray) (w : World) (h1 : tx < 1) :
    Calls Tryz.prog 127 #[.agg #[.int .i64 kd, .int .i64 tx, .int .i64 ix, .int .i64 pk, .int .i64 pn, .string b, .int .i64 ct, .int .u32 sm]] w fun e w' => e = .returned (.int .i64 1) ∧ Below w.heap.size w w' := by
  go_enter Tryz.func127, Tryz.ntmps127
  go_wp2_with fail
  go_ret
  exact ⟨rfl, (Below.refl _ _).alloc (Nat.le_refl _) _⟩
set_option maxHeartbeats 1000000 in
theorem check_hi (kd tx ix pk pn ct sm : Int) (b : ByteArray) (w : World) (h1 : 4294967295 < tx) (h2 : tx ≤ 9223372036854775807) :
    Calls Tryz.prog 127 #[.agg #[.int .i64 kd, .int .i64 tx, .int .i64 ix, .int .i64 pk, .int .i64 pn, .string b, .int .i64 ct, .int .u32 sm]] w fun e w' => e = .returned (.int .i64 1) ∧ Below w.heap.size w w' := by
  obtain ⟨t, rfl⟩ : ∃ t : Nat, tx = (t : Int) := ⟨tx.toNat, by omega⟩
  have e1 : decide ((t : Int) < 1) = false := by simp; omega
  have e2 : IntKind.u64.wrap (t : Int) = (t : Int) := by unfold IntKind.wrap; simp [IntKind.signed, IntKind.bits]; omega
  have e3 : decide ((4294967295 : Int) < (t : Int)) = true := by simp; omega
  have e4 : decide (4294967295 < t) = true := by simp; omega
  go_enter Tryz.func127, Tryz.ntmps127
  go_wp2_with fail
  go_ret
  exact ⟨rfl, (Below.refl _ _).alloc (Nat.le_refl _) _⟩
set_option maxHeartbeats 1000000 in
theorem check_il (kd tx ix pk pn ct sm : Int) (b : ByteArray) (w : World) (h1 : 1 ≤ tx) (h2 : tx ≤ 4294967295) (h3 : ix < 0) :
    Calls Tryz.prog 127 #[.agg #[.int .i64 kd, .int .i64 tx, .int .i64 ix, .int .i64 pk, .int .i64 pn, .string b, .int .i64 ct, .int .u32 sm]] w fun e w' => e = .returned (.int .i64 1) ∧ Below w.heap.size w w' := by
  obtain ⟨t, rfl⟩ : ∃ t : Nat, tx = (t : Int) := ⟨tx.toNat, by omega⟩
  have e1 : decide ((t : Int) < 1) = false := by simp; omega
  have e2 : IntKind.u64.wrap (t : Int) = (t : Int) := by unfold IntKind.wrap; simp [IntKind.signed, IntKind.bits]; omega
  have e3 : decide (ix < 0) = true := by simpa using h3
  go_enter Tryz.func127, Tryz.ntmps127
  go_wp2_with fail
  go_ret
  exact ⟨rfl, (Below.refl _ _).alloc (Nat.le_refl _) _⟩
set_option maxHeartbeats 1000000 in
theorem check_ih (kd tx ix pk pn ct sm : Int) (b : ByteArray) (w : World) (h1 : 1 ≤ tx) (h2 : tx ≤ 4294967295) (h3 : 999 < ix) :
    Calls Tryz.prog 127 #[.agg #[.int .i64 kd, .int .i64 tx, .int .i64 ix, .int .i64 pk, .int .i64 pn, .string b, .int .i64 ct, .int .u32 sm]] w fun e w' => e = .returned (.int .i64 1) ∧ Below w.heap.size w w' := by
  obtain ⟨t, rfl⟩ : ∃ t : Nat, tx = (t : Int) := ⟨tx.toNat, by omega⟩
  have e1 : decide ((t : Int) < 1) = false := by simp; omega
  have e2 : IntKind.u64.wrap (t : Int) = (t : Int) := by unfold IntKind.wrap; simp [IntKind.signed, IntKind.bits]; omega
  have e3 : decide (ix < 0) = false := by simp; omega
  have e4 : decide (999 < ix) = true := by simpa using h3
  go_enter Tryz.func127, Tryz.ntmps127
  go_wp2_with fail
  go_ret
  exact ⟨rfl, (Below.refl _ _).alloc (Nat.le_refl _) _⟩
set_option maxHeartbeats 1000000 in
theorem check_nr (kd tx ix pk pn ct sm : Int) (b : ByteArray) (w : World) (h1 : 1 ≤ tx) (h2 : tx ≤ 4294967295) (h3 : 0 ≤ ix) (h4 : ix ≤ 999) (hr : ¬ restP kd ix pk pn b ct sm) :
    Calls Tryz.prog 127 #[.agg #[.int .i64 kd, .int .i64 tx, .int .i64 ix, .int .i64 pk, .int .i64 pn, .string b, .int .i64 ct, .int .u32 sm]] w fun e w' => e = .returned (.int .i64 1) ∧ Below w.heap.size w w' := by
  have H := hid (show false = true ↔ restP kd ix pk pn b ct sm from ⟨(fun h => nomatch h), (fun h => absurd h hr)⟩); clear hr
  obtain ⟨t, rfl⟩ : ∃ t : Nat, tx = (t : Int) := ⟨tx.toNat, by omega⟩
  have e1 : decide ((t : Int) < 1) = false := by simp; omega
  have e2 : IntKind.u64.wrap (t : Int) = (t : Int) := by unfold IntKind.wrap; simp [IntKind.signed, IntKind.bits]; omega
  have e3 : decide (ix < 0) = false := by simp; omega
  have e4 : decide (999 < ix) = false := by simp; omega
  go_enter Tryz.func127, Tryz.ntmps127
  go_wp2_with (go_at_call 144; refine (rest_any kd t ix pk pn ct sm b _ false H.out).mono ?_; rintro e w' ⟨rfl, hb⟩; have HB := hid hb; clear hb)
  go_ret
  exact ⟨rfl, ((Below.refl _ _).alloc (Nat.le_refl _) _).trans (HB.out.mono (by simp))⟩
theorem check_yes (kd tx ix pk pn ct sm : Int) (b : ByteArray) (w : World) (h : mayE kd tx ix pk pn b ct sm) :
    Calls Tryz.prog 127 #[.agg #[.int .i64 kd, .int .i64 tx, .int .i64 ix, .int .i64 pk, .int .i64 pn, .string b, .int .i64 ct, .int .u32 sm]] w fun e w' => e = .returned (.int .i64 0) ∧ Below w.heap.size w w' :=
  check_rest kd tx ix pk pn ct sm b w h.1 h.2.1 h.2.2.1 h.2.2.2.1 h.2.2.2.2
theorem check_no (kd tx ix pk pn ct sm : Int) (b : ByteArray) (w : World) (hx : tx ≤ 9223372036854775807) (h : ¬ mayE kd tx ix pk pn b ct sm) :
    Calls Tryz.prog 127 #[.agg #[.int .i64 kd, .int .i64 tx, .int .i64 ix, .int .i64 pk, .int .i64 pn, .string b, .int .i64 ct, .int .u32 sm]] w fun e w' => e = .returned (.int .i64 1) ∧ Below w.heap.size w w' := by
  by_cases h1 : 1 ≤ tx
  · by_cases h2 : tx ≤ 4294967295
    · by_cases h3 : 0 ≤ ix
      · by_cases h4 : ix ≤ 999
        · exact check_nr kd tx ix pk pn ct sm b w h1 h2 h3 h4 (fun hr => h ⟨h1, h2, h3, h4, hr⟩)
        · exact check_ih kd tx ix pk pn ct sm b w h1 h2 (by omega)
      · exact check_il kd tx ix pk pn ct sm b w h1 h2 (by omega)
    · exact check_hi kd tx ix pk pn ct sm b w (by omega) hx
  · exact check_lo kd tx ix pk pn ct sm b w (by omega)
end Go.Proofs.YtgihpdhkjneimaaGreatDoor.En

/- An entry's bytes: plain. -/
namespace Go.Proofs.YtgihpdhkjneimaaGreatDoor.En
open Go.RowKit
open Go.Lib (hid)
open Go.Proofs.YtgihpdhkjneimaaGreatDoor.Fd (be be_length num getAt putAt num_be putAt_length)
open Go.Proofs.YtgihpdhkjneimaaGreatDoor.Pg (zs zs_length zs_drop be_num getAt_app)

/-- the bytes that all kinds have -/
def headE (kd tx ix : Nat) : List UInt8 := be 1 kd ++ (be 4 tx ++ be 2 ix)
/-- the bytes of an entry -/
def encE (kd tx ix pk pn : Nat) (b : List UInt8) (ct sm : Nat) : List UInt8 :=
  headE kd tx ix ++ (if kd = 1 then be 1 pk ++ (be 2 pn ++ b) else if kd = 2 then be 2 ct ++ be 4 sm else [])
theorem headE_length (kd tx ix : Nat) : (headE kd tx ix).length = 7 := by simp [headE, be_length]
/-- how many bytes an entry of a kind has, ahead of a body -/
def leastN (kd : Nat) : Nat := if kd = 1 then 10 else if kd = 2 then 13 else if kd = 3 then 7 else 0
theorem encE_length (kd tx ix pk pn : Nat) (b : List UInt8) (ct sm : Nat) (h : kd = 1 ∨ kd = 2 ∨ kd = 3) (hb : kd ≠ 1 → b = []) : (encE kd tx ix pk pn b ct sm).length = leastN kd + b.length := by
  unfold encE leastN
  rw [List.length_append, headE_length]
  rcases h with rfl | rfl | rfl
  · simp [be_length]; omega
  · rw [hb (by decide)]; simp [be_length]
  · rw [hb (by decide)]; simp
theorem put_app (A : List UInt8) (n o w : Nat) (x : Nat) (ho : A.length = o) : putAt (A ++ zs n) o (be w x) = (A ++ be w x) ++ zs (n - w) := by
  unfold putAt
  rw [be_length, ← ho, List.take_left, List.drop_append, zs_drop]
  simp [List.drop_eq_nil_of_le]
theorem put_text (A : List UInt8) (o : Nat) (b : List UInt8) (ho : A.length = o) : putAt (A ++ zs b.length) o b = A ++ b := by
  unfold putAt
  rw [← ho, List.take_left, List.drop_append, zs_drop]
  simp [List.drop_eq_nil_of_le, zs]
theorem put0 (n w x : Nat) : putAt (zs n) 0 (be w x) = be w x ++ zs (n - w) := by
  have := put_app [] n 0 w x rfl
  simpa using this
/-- what is laid, one behind the other -/
theorem puts_head (n kd tx ix : Nat) : putAt (putAt (putAt (zs n) 0 (be 1 kd)) 1 (be 4 tx)) 5 (be 2 ix) = headE kd tx ix ++ zs (n - 7) := by
  rw [put0 n 1 kd, put_app _ _ 1 4 tx (by simp [be_length]), put_app _ _ 5 2 ix (by simp [be_length])]
  unfold headE
  rw [show n - 1 - 4 - 2 = n - 7 by omega]
  simp
theorem puts_stage (tx ix pk pn : Nat) (b : List UInt8) (ct sm : Nat) : putAt (putAt (putAt (headE 1 tx ix ++ zs (10 + b.length - 7)) 7 (be 1 pk)) 8 (be 2 pn)) 10 b = encE 1 tx ix pk pn b ct sm := by
  rw [put_app _ _ 7 1 pk (headE_length _ _ _), put_app _ _ 8 2 pn (by rw [List.length_append, headE_length, be_length]),
    show 10 + b.length - 7 - 1 - 2 = b.length by omega, put_text _ 10 b (by rw [List.length_append, List.length_append, headE_length, be_length, be_length])]
  unfold encE
  rw [if_pos rfl]; simp
theorem puts_commit (tx ix pk pn : Nat) (b : List UInt8) (ct sm : Nat) : putAt (putAt (headE 2 tx ix ++ zs (13 - 7)) 7 (be 2 ct)) 9 (be 4 sm) = encE 2 tx ix pk pn b ct sm := by
  rw [put_app _ _ 7 2 ct (headE_length _ _ _), put_app _ _ 9 4 sm (by rw [List.length_append, headE_length, be_length])]
  unfold encE
  rw [if_neg (by decide), if_pos rfl, show 13 - 7 - 2 - 4 = 0 by omega]
  simp [zs]
theorem puts_abort (tx ix pk pn : Nat) (b : List UInt8) (ct sm : Nat) : headE 3 tx ix ++ zs (7 - 7) = encE 3 tx ix pk pn b ct sm := by
  unfold encE
  rw [if_neg (by decide), if_neg (by decide)]
  simp [zs]
/-- what a text reads as -/
structure EntN where
  kd : Nat
  tx : Nat
  ix : Nat
  pk : Nat
  pn : Nat
  b : List UInt8
  ct : Nat
  sm : Nat
def readE (l : List UInt8) : EntN :=
  let kd := num (getAt l 0 1)
  ⟨kd, num (getAt l 1 4), num (getAt l 5 2), if kd = 1 then num (getAt l 7 1) else 0, if kd = 1 then num (getAt l 8 2) else 0, if kd = 1 then l.drop 10 else [], if kd = 2 then num (getAt l 7 2) else 0, if kd = 2 then num (getAt l 9 4) else 0⟩
def EntN.enc (e : EntN) : List UInt8 := encE e.kd e.tx e.ix e.pk e.pn e.b e.ct e.sm
end Go.Proofs.YtgihpdhkjneimaaGreatDoor.En

/- cut of entry: does a text end ahead of what its kind has? The package's table stands in block 0. -/
namespace Go.Proofs.YtgihpdhkjneimaaGreatDoor.En
open Go.RowKit
open Go.Lib (hid)
/-- the package's table, as it is laid -/
structure Lst (w : World) : Prop where
  c0 : w.cell? ⟨0, 0, none⟩ = some (.int .i64 0)
  c1 : w.cell? ⟨0, 1, none⟩ = some (.int .i64 10)
  c2 : w.cell? ⟨0, 2, none⟩ = some (.int .i64 13)
  c3 : w.cell? ⟨0, 3, none⟩ = some (.int .i64 7)
theorem full (s : ByteArray) (h : 0 < s.size) : s.toList.isEmpty = false := by
  rw [ByteArray.toList_eq]
  cases hl : s.data.toList with
  | nil =>
    have h2 : s.data.toList.length = s.size := by simp
    rw [hl] at h2; simp at h2; omega
  | cons => rfl
set_option maxHeartbeats 1000000 in
theorem cut_nil (w : World) : Calls Tryz.prog 134 #[.string ⟨#[]⟩] w fun e w' => e = .returned (.bool true) ∧ w' = w := by
  go_enter Tryz.func134, Tryz.ntmps134
  go_wp2_with fail
  go_ret
  exact ⟨rfl, rfl⟩
set_option maxHeartbeats 1000000 in
theorem cut_k (s : ByteArray) (k n : Nat) (w : World) (h : 0 < s.size) (hk : s[0].toNat = k) (h4 : k < 4) (hc : w.cell? ⟨0, k, none⟩ = some (.int .i64 (n : Int))) :
    Calls Tryz.prog 134 #[.string s] w fun e w' => e = .returned (.bool (decide (s.size < n))) ∧ w' = w := by
  have e0 := full s h
  have e1 : wrap64 (s[0].toNat : Int) = (k : Int) := by rw [hk]; unfold wrap64; omega
  have e2 : decide ((k : Int) < 4) = true := by simp; omega
  have e3 : (k : Int) < 4 := by omega
  have e4 : (0 : Int) ≤ (k : Int) := by omega
  clear hk
  go_enter Tryz.func134, Tryz.ntmps134
  go_wp2_with fail
  go_ret
  exact ⟨by simp, rfl⟩
set_option maxHeartbeats 1000000 in
theorem cut_far (s : ByteArray) (w : World) (h : 0 < s.size) (h4 : 4 ≤ s[0].toNat) :
    Calls Tryz.prog 134 #[.string s] w fun e w' => e = .returned (.bool false) ∧ w' = w := by
  have e0 := full s h
  obtain ⟨k, hk⟩ : ∃ k, s[0].toNat = k := ⟨_, rfl⟩
  have hk2 : k < 256 := by rw [← hk]; exact s[0].toNat_lt
  have e1 : wrap64 (s[0].toNat : Int) = (k : Int) := by rw [hk]; unfold wrap64; omega
  have e2 : decide ((k : Int) < 4) = false := by simp; omega
  clear hk h4
  go_enter Tryz.func134, Tryz.ntmps134
  go_wp2_with fail
  go_ret
  exact ⟨rfl, rfl⟩
end Go.Proofs.YtgihpdhkjneimaaGreatDoor.En

/- Encode of entry. The package's table stands in block 0. -/
namespace Go.Proofs.YtgihpdhkjneimaaGreatDoor.En
open Go.RowKit
open Go.Lib (hid)
open Go.Proofs.YtgihpdhkjneimaaGreatDoor.Fd (Area Row Upd rowOf be be_length num getAt putAt putAt_length on_below on_upd)
open Go.Proofs.YtgihpdhkjneimaaGreatDoor.Pg (zs zs_length)

theorem Lst.below {w w' : World} (h : Lst w) (hb : Below w.heap.size w w') : Lst w' := by
  have h0 : 0 < w.heap.size := block_lt_of_cell h.c0
  exact ⟨(hb.cell (p := ⟨0, 0, none⟩) h0).trans h.c0, (hb.cell (p := ⟨0, 1, none⟩) h0).trans h.c1, (hb.cell (p := ⟨0, 2, none⟩) h0).trans h.c2, (hb.cell (p := ⟨0, 3, none⟩) h0).trans h.c3⟩
/-- an entry's cells -/
abbrev entC (kd tx ix pk pn : Int) (b : ByteArray) (ct sm : Int) : Array Value := #[.int .i64 kd, .int .i64 tx, .int .i64 ix, .int .i64 pk, .int .i64 pn, .string b, .int .i64 ct, .int .u32 sm]
theorem new_area (n : Nat) (x : Int) (hx : x = n) (hn : n ≤ 4096) (w : World) :
    Calls Tryz.prog 117 #[.int .i64 x] w fun e w' => e = .returned (.tuple #[.pointer (some ⟨w.heap.size + 1, 0, none⟩), .int .i64 0]) ∧ Area 178 w' (w.heap.size + 1) w.heap.size (zs n) ∧ Below w.heap.size w w' := by
  subst hx
  refine (Fd.new_ok n w hn).mono ?_
  rintro e w' ⟨rfl, rfl⟩
  exact ⟨rfl, Fd.madeArea_area 178 n w hn, Fd.madeArea_below 178 n w⟩
/-- what Encode has laid so far -/
structure EM (w : World) (P : Nat) (cs : Array Value) (B n : Nat) (l : List UInt8) (wr : World) : Prop where
  ent : wr.heap[P]? = some (.cells cs 134 (0, 0))
  below : Below w.heap.size w wr
  area : Area 178 wr (B + 1) B l
  lo : w.heap.size ≤ P
  lt : P < B
  len : l.length = n
theorem EM.upd {w wr w' : World} {P : Nat} {cs : Array Value} {B n : Nat} {l l' : List UInt8} (h : EM w P cs B n l wr) (hu : Upd B l' wr w') (hl : l'.length = n) : EM w P cs B n l' w' :=
  ⟨(hu.block P (Array.getElem?_eq_some_iff.1 h.ent).1 (Nat.ne_of_lt h.lt)).trans h.ent, (on_upd (hid h.below) hu (Nat.le_trans h.lo (Nat.le_of_lt h.lt))).out, h.area.upd hu (by rw [hl, h.len]), h.lo, h.lt, hl⟩
theorem EM.put {w wr : World} {P : Nat} {cs : Array Value} {B n : Nat} {l : List UInt8} (h : EM w P cs B n l wr) (o wd x : Nat) (o' x' w' : Int) (ho : o' = o) (hx : x' = x) (hw : w' = wd) (hwd : wd = 1 ∨ wd = 2 ∨ wd = 4) (hle : o + wd ≤ n) (hlt : x < 256 ^ wd) :
    Calls Tryz.prog 118 #[.pointer (some ⟨B + 1, 0, none⟩), .int .i64 o', .int .i64 w', .int .u32 x'] wr fun e w2 => e = .returned (.int .i64 0) ∧ EM w P cs B n (putAt l o (be wd x)) w2 := by
  subst ho hx hw
  have hlen := h.len
  have hl : (putAt l o (be wd x)).length = n := by rw [putAt_length _ _ _ (by rw [be_length]; omega), hlen]
  rcases hwd with rfl | rfl | rfl
  · exact (Fd.put_1 (B + 1) B l o x wr h.area (by omega) hlt).mono fun e w2 ⟨h1, h2⟩ => ⟨h1, h.upd h2 hl⟩
  · exact (Fd.put_2 (B + 1) B l o x wr h.area (by omega) hlt).mono fun e w2 ⟨h1, h2⟩ => ⟨h1, h.upd h2 hl⟩
  · exact (Fd.put_4 (B + 1) B l o x wr h.area (by omega) hlt).mono fun e w2 ⟨h1, h2⟩ => ⟨h1, h.upd h2 hl⟩
theorem EM.text {w wr : World} {P : Nat} {cs : Array Value} {B n : Nat} {l : List UInt8} (h : EM w P cs B n l wr) (o : Nat) (o' : Int) (ho : o' = o) (s : ByteArray) (hle : o + s.size ≤ n) :
    Calls Tryz.prog 119 #[.pointer (some ⟨B + 1, 0, none⟩), .int .i64 o', .string s] wr fun e w2 => e = .returned (.int .i64 0) ∧ EM w P cs B n (putAt l o s.data.toList) w2 := by
  subst ho
  have hlen := h.len
  have hl : (putAt l o s.data.toList).length = n := by rw [putAt_length _ _ _ (by rw [Fd.size_list]; omega), hlen]
  exact (Fd.putText_ok (B + 1) B l o s wr h.area (by omega)).mono fun e w2 ⟨h1, h2⟩ => ⟨h1, h.upd h2 hl⟩
theorem EM.bytes {w wr : World} {P : Nat} {cs : Array Value} {B n : Nat} {l m : List UInt8} (h : EM w P cs B n l wr) (hm : l = m) :
    Calls Tryz.prog 122 #[.pointer (some ⟨B + 1, 0, none⟩)] wr fun e w2 => e = .returned (.string ⟨m.toArray⟩) ∧ EM w P cs B n m w2 := by
  subst hm
  refine (Fd.bytes_ok (B + 1) B l wr h.area).mono ?_
  rintro e w2 ⟨rfl, rfl⟩
  exact ⟨rfl, h⟩
theorem em_new {w w1 w2 : World} {n : Nat} {cs : Array Value} (hb : Below w.heap.size w w1) (he : w1.heap[w.heap.size]? = some (.cells cs 134 (0, 0))) (ha : Area 178 w2 (w1.drew.heap.size + 1) w1.drew.heap.size (zs n)) (h2 : Below w1.drew.heap.size w1.drew w2) : EM w w.heap.size cs w1.heap.size n (zs n) w2 :=
  ⟨(h2.block _ (Array.getElem?_eq_some_iff.1 he).1).trans he, hb.trans (((Below.refl w1.heap.size w1).drew.trans h2).mono hb.size), ha, Nat.le_refl _, (Array.getElem?_eq_some_iff.1 he).1, zs_length _⟩
section
variable {w wr : World} {P B n : Nat} {kd tx ix pk pn ct sm : Int} {b : ByteArray} {l : List UInt8}
theorem EM.at0 (h : EM w P (entC kd tx ix pk pn b ct sm) B n l wr) : wr.cell? ⟨P, 0, none⟩ = some (.int .i64 kd) := by rw [cell_of_row _ _ _ _ _ _ h.ent]; rfl
theorem EM.at1 (h : EM w P (entC kd tx ix pk pn b ct sm) B n l wr) : wr.cell? ⟨P, 1, none⟩ = some (.int .i64 tx) := by rw [cell_of_row _ _ _ _ _ _ h.ent]; rfl
theorem EM.at2 (h : EM w P (entC kd tx ix pk pn b ct sm) B n l wr) : wr.cell? ⟨P, 2, none⟩ = some (.int .i64 ix) := by rw [cell_of_row _ _ _ _ _ _ h.ent]; rfl
theorem EM.at3 (h : EM w P (entC kd tx ix pk pn b ct sm) B n l wr) : wr.cell? ⟨P, 3, none⟩ = some (.int .i64 pk) := by rw [cell_of_row _ _ _ _ _ _ h.ent]; rfl
theorem EM.at4 (h : EM w P (entC kd tx ix pk pn b ct sm) B n l wr) : wr.cell? ⟨P, 4, none⟩ = some (.int .i64 pn) := by rw [cell_of_row _ _ _ _ _ _ h.ent]; rfl
theorem EM.at5 (h : EM w P (entC kd tx ix pk pn b ct sm) B n l wr) : wr.cell? ⟨P, 5, none⟩ = some (.string b) := by rw [cell_of_row _ _ _ _ _ _ h.ent]; rfl
theorem EM.at6 (h : EM w P (entC kd tx ix pk pn b ct sm) B n l wr) : wr.cell? ⟨P, 6, none⟩ = some (.int .i64 ct) := by rw [cell_of_row _ _ _ _ _ _ h.ent]; rfl
theorem EM.at7 (h : EM w P (entC kd tx ix pk pn b ct sm) B n l wr) : wr.cell? ⟨P, 7, none⟩ = some (.int .u32 sm) := by rw [cell_of_row _ _ _ _ _ _ h.ent]; rfl
theorem em_cells (hL : Lst w) (h : EM w P (entC kd tx ix pk pn b ct sm) B n l wr) : wr.cell? ⟨P, 0, none⟩ = some (.int .i64 kd) ∧ wr.cell? ⟨P, 5, none⟩ = some (.string b) ∧ wr.cell? ⟨0, 1, none⟩ = some (.int .i64 10) := ⟨h.at0, h.at5, (hL.below h.below).c1⟩
theorem em_cells2 (hL : Lst w) (h : EM w P (entC kd tx ix pk pn b ct sm) B n l wr) : wr.cell? ⟨P, 0, none⟩ = some (.int .i64 kd) ∧ wr.cell? ⟨P, 5, none⟩ = some (.string b) ∧ wr.cell? ⟨0, 2, none⟩ = some (.int .i64 13) := ⟨h.at0, h.at5, (hL.below h.below).c2⟩
theorem em_cells3 (hL : Lst w) (h : EM w P (entC kd tx ix pk pn b ct sm) B n l wr) : wr.cell? ⟨P, 0, none⟩ = some (.int .i64 kd) ∧ wr.cell? ⟨P, 5, none⟩ = some (.string b) ∧ wr.cell? ⟨0, 3, none⟩ = some (.int .i64 7) := ⟨h.at0, h.at5, (hL.below h.below).c3⟩
end
set_option maxRecDepth 100000 in
set_option maxHeartbeats 1000000 in
theorem encode_no (kd tx ix pk pn ct sm : Int) (b : ByteArray) (w : World) (hx : tx ≤ 9223372036854775807) (h : ¬ mayE kd tx ix pk pn b ct sm) :
    Calls Tryz.prog 128 #[.agg (entC kd tx ix pk pn b ct sm)] w fun e w' => e = .returned (.tuple #[.string ⟨#[]⟩, .int .i64 1]) ∧ Below w.heap.size w w' := by
  have HC := hid fun (V : World) => check_no kd tx ix pk pn ct sm b V hx h
  clear h hx
  go_enter Tryz.func128, Tryz.ntmps128
  go_wp2_with fail
  refine (HC.out _).mono ?_
  rintro e w1 ⟨rfl, hb⟩
  have HB := hid (((Below.refl w.heap.size w).alloc (Nat.le_refl _) _).trans (hb.mono (by simp)))
  clear hb
  go_wp2_with fail
  go_ret2
  exact ⟨rfl, HB.out⟩
set_option maxRecDepth 100000 in
set_option maxHeartbeats 2000000 in
theorem encode_stage (tx ix pk pn : Nat) (b : ByteArray) (w : World) (hL : Lst w) (h : mayE 1 tx ix pk pn b 0 0) :
    Calls Tryz.prog 128 #[.agg (entC 1 tx ix pk pn b 0 0)] w fun e w' => e = .returned (.tuple #[.string ⟨(encE 1 tx ix pk pn b.data.toList 0 0).toArray⟩, .int .i64 0]) ∧ Below w.heap.size w w' := by
  have HC := hid fun (V : World) => check_yes 1 tx ix pk pn 0 0 b V h
  obtain ⟨h1, h2, h3, h4, hr⟩ := h
  have hst : mayS pk pn b := by rcases hr with hr | hr | hr; exact hr.2.1; exact absurd hr.1 (by decide); exact absurd hr.1 (by decide)
  obtain ⟨-, -, hk5, -, hn9, hb2⟩ := hst
  have hbl := Fd.size_list b
  have HEQ := hid (puts_stage tx ix pk pn b.data.toList 0 0)
  rw [hbl] at HEQ
  have HL := hid hL
  have HN := hid fun (V : World) => new_area (10 + b.size) (IntKind.i64.wrap (10 + (b.size : Int))) (by rw [Go.IntWalk.i64_in _ (by omega)]; omega) (by omega) V
  clear hL hr
  go_enter Tryz.func128, Tryz.ntmps128
  go_wp2_with fail
  refine (HC.out _).mono ?_
  rintro e w1 ⟨rfl, hb⟩
  have HB := hid (((Below.refl w.heap.size w).alloc (Nat.le_refl _) _).trans (hb.mono (by simp)))
  have HE := hid (show w1.heap[w.heap.size]? = some (.cells (entC 1 tx ix pk pn b 0 0) 134 (0, 0)) from (hb.block _ (by simp)).trans (heap_alloc_new _ _))
  have HL1 := hid (HL.out.below HB.out)
  have c0 : w1.cell? ⟨w.heap.size, 0, none⟩ = some (.int .i64 1) := by rw [cell_of_row _ _ _ _ _ _ HE.out]; rfl
  have c5 : w1.cell? ⟨w.heap.size, 5, none⟩ = some (.string b) := by rw [cell_of_row _ _ _ _ _ _ HE.out]; rfl
  have g1 := HL1.out.c1
  clear hb
  go_wp2_with fail
  go_region_held3 (fun w' => w'.cell? ⟨w.heap.size, 0, none⟩ = some (.int .i64 1) ∧ w'.cell? ⟨w.heap.size, 5, none⟩ = some (.string b) ∧ w'.cell? ⟨0, 1, none⟩ = some (.int .i64 10)) (first | exact ⟨c0, c5, g1⟩ | exact q1 | go_keep)
    (first
      | (go_at_call 117; refine (HN.out _).mono ?_; rintro e w2 ⟨rfl, ha, hb⟩; have HM := hid (em_new HB.out HE.out ha hb); have q1 := em_cells HL.out HM.out; clear ha hb)
      | fail)
  clear q1 c0 c5 g1 HN HL1 HE HB
  generalize w1.heap.size = B at HM ⊢
  have c0 := HM.out.at0
  go_wp2_with fail
  refine (HM.out.put 0 1 1 _ _ _ rfl (rfl) rfl (by decide) (by omega) (by omega)).mono ?_
  rintro e w3 ⟨rfl, hm⟩
  replace HM := hid hm
  clear hm c0
  have c1 := HM.out.at1
  go_wp2_with fail
  refine (HM.out.put 1 4 tx _ _ _ rfl (rfl) rfl (by decide) (by omega) (by omega)).mono ?_
  rintro e w4 ⟨rfl, hm⟩
  replace HM := hid hm
  clear hm c1
  have c2 := HM.out.at2
  go_wp2_with fail
  refine (HM.out.put 5 2 ix _ _ _ rfl (rfl) rfl (by decide) (by omega) (by omega)).mono ?_
  rintro e w5 ⟨rfl, hm⟩
  replace HM := hid hm
  clear hm c2
  rw [puts_head] at HM
  have c0 := HM.out.at0
  have c3 := HM.out.at3
  go_wp2_with fail
  clear c0
  refine (HM.out.put 7 1 pk _ _ _ rfl (rfl) rfl (by decide) (by omega) (by omega)).mono ?_
  rintro e w6 ⟨rfl, hm⟩
  replace HM := hid hm
  clear hm c3
  have c4 := HM.out.at4
  go_wp2_with fail
  refine (HM.out.put 8 2 pn _ _ _ rfl (rfl) rfl (by decide) (by omega) (by omega)).mono ?_
  rintro e w7 ⟨rfl, hm⟩
  replace HM := hid hm
  clear hm c4
  have c5 := HM.out.at5
  go_wp2_with fail
  refine (HM.out.text 10 _ rfl b (by omega)).mono ?_
  rintro e w8 ⟨rfl, hm⟩
  replace HM := hid hm
  clear hm c5
  go_wp2_with fail
  refine (HM.out.bytes HEQ.out).mono ?_
  rintro e w9 ⟨rfl, hm⟩
  replace HM := hid hm
  clear hm
  go_wp2_with fail
  go_ret2
  exact ⟨rfl, HM.out.below⟩
set_option maxRecDepth 100000 in
set_option maxHeartbeats 2000000 in
theorem encode_commit (tx ix sm : Nat) (hsm : sm < 4294967296) (w : World) (hL : Lst w) (h : mayE 2 tx ix 0 0 ⟨#[]⟩ ix sm) :
    Calls Tryz.prog 128 #[.agg (entC 2 tx ix 0 0 ⟨#[]⟩ ix sm)] w fun e w' => e = .returned (.tuple #[.string ⟨(encE 2 tx ix 0 0 [] ix sm).toArray⟩, .int .i64 0]) ∧ Below w.heap.size w w' := by
  have HC := hid fun (V : World) => check_yes 2 tx ix 0 0 ix sm ⟨#[]⟩ V h
  obtain ⟨h1, h2, h3, h4, hr⟩ := h
  have HEQ := hid (puts_commit tx ix 0 0 [] ix sm)
  have HL := hid hL
  have HN := hid fun (V : World) => new_area (13) (13) (rfl) (by omega) V
  clear hL hr
  go_enter Tryz.func128, Tryz.ntmps128
  go_wp2_with fail
  refine (HC.out _).mono ?_
  rintro e w1 ⟨rfl, hb⟩
  have HB := hid (((Below.refl w.heap.size w).alloc (Nat.le_refl _) _).trans (hb.mono (by simp)))
  have HE := hid (show w1.heap[w.heap.size]? = some (.cells (entC 2 tx ix 0 0 ⟨#[]⟩ ix sm) 134 (0, 0)) from (hb.block _ (by simp)).trans (heap_alloc_new _ _))
  have HL1 := hid (HL.out.below HB.out)
  have c0 : w1.cell? ⟨w.heap.size, 0, none⟩ = some (.int .i64 2) := by rw [cell_of_row _ _ _ _ _ _ HE.out]; rfl
  have c5 : w1.cell? ⟨w.heap.size, 5, none⟩ = some (.string (⟨#[]⟩ : ByteArray)) := by rw [cell_of_row _ _ _ _ _ _ HE.out]; rfl
  have g1 := HL1.out.c2
  clear hb
  go_wp2_with fail
  go_region_held3 (fun w' => w'.cell? ⟨w.heap.size, 0, none⟩ = some (.int .i64 2) ∧ w'.cell? ⟨w.heap.size, 5, none⟩ = some (.string (⟨#[]⟩ : ByteArray)) ∧ w'.cell? ⟨0, 2, none⟩ = some (.int .i64 13)) (first | exact ⟨c0, c5, g1⟩ | exact q1 | go_keep)
    (first
      | (go_at_call 117; refine (HN.out _).mono ?_; rintro e w2 ⟨rfl, ha, hb⟩; have HM := hid (em_new HB.out HE.out ha hb); have q1 := em_cells2 HL.out HM.out; clear ha hb)
      | fail)
  clear q1 c0 c5 g1 HN HL1 HE HB
  generalize w1.heap.size = B at HM ⊢
  have c0 := HM.out.at0
  go_wp2_with fail
  refine (HM.out.put 0 1 2 _ _ _ rfl (rfl) rfl (by decide) (by omega) (by omega)).mono ?_
  rintro e w3 ⟨rfl, hm⟩
  replace HM := hid hm
  clear hm c0
  have c1 := HM.out.at1
  go_wp2_with fail
  refine (HM.out.put 1 4 tx _ _ _ rfl (rfl) rfl (by decide) (by omega) (by omega)).mono ?_
  rintro e w4 ⟨rfl, hm⟩
  replace HM := hid hm
  clear hm c1
  have c2 := HM.out.at2
  go_wp2_with fail
  refine (HM.out.put 5 2 ix _ _ _ rfl (rfl) rfl (by decide) (by omega) (by omega)).mono ?_
  rintro e w5 ⟨rfl, hm⟩
  replace HM := hid hm
  clear hm c2
  rw [puts_head] at HM
  have c0 := HM.out.at0
  have c6 := HM.out.at6
  go_wp2_with fail
  clear c0
  refine (HM.out.put 7 2 ix _ _ _ rfl (rfl) rfl (by decide) (by omega) (by omega)).mono ?_
  rintro e w6 ⟨rfl, hm⟩
  replace HM := hid hm
  clear hm c6
  have c7 := HM.out.at7
  go_wp2_with fail
  refine (HM.out.put 9 4 sm _ _ _ rfl (rfl) rfl (by decide) (by omega) (by omega)).mono ?_
  rintro e w7 ⟨rfl, hm⟩
  replace HM := hid hm
  clear hm c7
  go_wp2_with fail
  refine (HM.out.bytes HEQ.out).mono ?_
  rintro e w9 ⟨rfl, hm⟩
  replace HM := hid hm
  clear hm
  go_wp2_with fail
  go_ret2
  exact ⟨rfl, HM.out.below⟩
set_option maxRecDepth 100000 in
set_option maxHeartbeats 2000000 in
theorem encode_abort (tx ix : Nat) (w : World) (hL : Lst w) (h : mayE 3 tx ix 0 0 ⟨#[]⟩ 0 0) :
    Calls Tryz.prog 128 #[.agg (entC 3 tx ix 0 0 ⟨#[]⟩ 0 0)] w fun e w' => e = .returned (.tuple #[.string ⟨(encE 3 tx ix 0 0 [] 0 0).toArray⟩, .int .i64 0]) ∧ Below w.heap.size w w' := by
  have HC := hid fun (V : World) => check_yes 3 tx ix 0 0 0 0 ⟨#[]⟩ V h
  obtain ⟨h1, h2, h3, h4, hr⟩ := h
  have HEQ := hid (puts_abort tx ix 0 0 [] 0 0)
  have HL := hid hL
  have HN := hid fun (V : World) => new_area (7) (7) (rfl) (by omega) V
  clear hL hr
  go_enter Tryz.func128, Tryz.ntmps128
  go_wp2_with fail
  refine (HC.out _).mono ?_
  rintro e w1 ⟨rfl, hb⟩
  have HB := hid (((Below.refl w.heap.size w).alloc (Nat.le_refl _) _).trans (hb.mono (by simp)))
  have HE := hid (show w1.heap[w.heap.size]? = some (.cells (entC 3 tx ix 0 0 ⟨#[]⟩ 0 0) 134 (0, 0)) from (hb.block _ (by simp)).trans (heap_alloc_new _ _))
  have HL1 := hid (HL.out.below HB.out)
  have c0 : w1.cell? ⟨w.heap.size, 0, none⟩ = some (.int .i64 3) := by rw [cell_of_row _ _ _ _ _ _ HE.out]; rfl
  have c5 : w1.cell? ⟨w.heap.size, 5, none⟩ = some (.string (⟨#[]⟩ : ByteArray)) := by rw [cell_of_row _ _ _ _ _ _ HE.out]; rfl
  have g1 := HL1.out.c3
  clear hb
  go_wp2_with fail
  go_region_held3 (fun w' => w'.cell? ⟨w.heap.size, 0, none⟩ = some (.int .i64 3) ∧ w'.cell? ⟨w.heap.size, 5, none⟩ = some (.string (⟨#[]⟩ : ByteArray)) ∧ w'.cell? ⟨0, 3, none⟩ = some (.int .i64 7)) (first | exact ⟨c0, c5, g1⟩ | exact q1 | go_keep)
    (first
      | (go_at_call 117; refine (HN.out _).mono ?_; rintro e w2 ⟨rfl, ha, hb⟩; have HM := hid (em_new HB.out HE.out ha hb); have q1 := em_cells3 HL.out HM.out; clear ha hb)
      | fail)
  clear q1 c0 c5 g1 HN HL1 HE HB
  generalize w1.heap.size = B at HM ⊢
  have c0 := HM.out.at0
  go_wp2_with fail
  refine (HM.out.put 0 1 3 _ _ _ rfl (rfl) rfl (by decide) (by omega) (by omega)).mono ?_
  rintro e w3 ⟨rfl, hm⟩
  replace HM := hid hm
  clear hm c0
  have c1 := HM.out.at1
  go_wp2_with fail
  refine (HM.out.put 1 4 tx _ _ _ rfl (rfl) rfl (by decide) (by omega) (by omega)).mono ?_
  rintro e w4 ⟨rfl, hm⟩
  replace HM := hid hm
  clear hm c1
  have c2 := HM.out.at2
  go_wp2_with fail
  refine (HM.out.put 5 2 ix _ _ _ rfl (rfl) rfl (by decide) (by omega) (by omega)).mono ?_
  rintro e w5 ⟨rfl, hm⟩
  replace HM := hid hm
  clear hm c2
  rw [puts_head] at HM
  have c0 := HM.out.at0
  go_wp2_with fail
  clear c0
  refine (HM.out.bytes HEQ.out).mono ?_
  rintro e w9 ⟨rfl, hm⟩
  replace HM := hid hm
  clear hm
  go_wp2_with fail
  go_ret2
  exact ⟨rfl, HM.out.below⟩
end Go.Proofs.YtgihpdhkjneimaaGreatDoor.En
