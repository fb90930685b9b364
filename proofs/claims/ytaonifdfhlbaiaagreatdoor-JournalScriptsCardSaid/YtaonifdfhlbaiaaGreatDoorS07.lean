/- Merged out of DkU, DkRk, DkRop, DkRrd, EnSmall, EnRest. -/
import Derived.Test.YtaonifdfhlbaiaaGreatDoorS06
import Derived.Test.YtaonifdfhlbaiaaGreatDoorS02
import Derived.Lib.Hide
import Derived.Deep.RegionHeld3
import Derived.StillTailTactics
/- What a disk's calls answer, whatever is asked, told by plain functions; and a disk of the program's, apart from blocks that stay. -/
namespace Go.Proofs.YtaonifdfhlbaiaaGreatDoor.Dk
open Go.RowKit
open Go.Lib (hid)

/-- K's blocks are as they were -/
structure KS (K : Nat → Prop) (w w' : World) : Prop where
  os : w'.os = w.os
  tape : w'.tape = w.tape
  output : w'.output = w.output
  size : w.heap.size ≤ w'.heap.size
  block : ∀ k, k < w.heap.size → K k → w'.heap[k]? = w.heap[k]?
section
variable {K : Nat → Prop} {w w' w2 : World}
theorem KS.below (h : KS K w w') {N : Nat} (hN : N ≤ w.heap.size) (hK : ∀ k, k < N → K k) : Below N w w' := ⟨h.os, h.tape, h.output, h.size, fun k hk => h.block k (Nat.lt_of_lt_of_le hk hN) (hK k hk)⟩
theorem KS.of (h : Below w.heap.size w w') : KS K w w' := ⟨h.os, h.tape, h.output, h.size, fun k hk _ => h.block k hk⟩
theorem KS.refl (K : Nat → Prop) (w : World) : KS K w w := ⟨rfl, rfl, rfl, Nat.le_refl _, fun _ _ _ => rfl⟩
theorem KS.trans (h : KS K w w') (g : KS K w' w2) : KS K w w2 := ⟨g.os.trans h.os, g.tape.trans h.tape, g.output.trans h.output, Nat.le_trans h.size g.size, fun k hk hK => (g.block k (Nat.lt_of_lt_of_le hk h.size) hK).trans (h.block k hk hK)⟩
theorem KS.only {d : Ptrs} (h : Only d w w') (hn : ∀ k, Foot d k → ¬ K k) : KS K w w' := ⟨h.os, h.tape, h.output, h.size, fun k hk hK => h.block k hk fun e => hn k e hK⟩
end
/-- what Write answers, Read, Flush, Crash -/
def wrU (s : St) (n : Int) (t : ByteArray) : Int × St := if 0 ≤ n ∧ n < (s.pages.length : Int) ∧ t.size = 256 ∧ s.fuse ≠ 0 then (0, writeS s n.toNat t) else (1, s)
def rdU (s : St) (n : Int) : ByteArray × Int × St := if 0 ≤ n ∧ n < (s.pages.length : Int) then ((applyW s.pages s.waits).getD n.toNat emptyB, 0, readS s) else (⟨#[]⟩, 1, s)
def flU (s : St) : Int × St := if s.fuse = 0 then (0, s) else ((s.waits.length : Int), flushS s)
def crU (s : St) (ks : List Int) (torn a : Int) : Int × St := match comeS s ks torn a with | none => (1, s) | some o => (0, crashS s o)
/-- few calls so far -/
structure Few (s : St) (k : Nat) : Prop where
  waits : s.waits.length ≤ k
  reads : s.reads ≤ k
  writes : s.writes ≤ k
  flushes : s.flushes ≤ k
theorem few_new (l : List ByteArray) : Few (newS l) 0 := ⟨Nat.le_refl _, Int.le_refl _, Int.le_refl _, Int.le_refl _⟩
theorem Few.up {s : St} {k : Nat} (h : Few s k) : Few s (k + 1) := ⟨by have := h.waits; omega, by have := h.reads; omega, by have := h.writes; omega, by have := h.flushes; omega⟩
theorem few_wr {s : St} {k : Nat} (h : Few s k) (n : Int) (t : ByteArray) : Few (wrU s n t).2 (k + 1) := by
  unfold wrU
  split
  · refine ⟨?_, ?_, ?_, ?_⟩
    · show (s.waits ++ [(n.toNat, t)]).length ≤ k + 1
      have := h.waits; rw [List.length_append]; simpa using this
    · have := h.reads; show s.reads ≤ _; omega
    · have := h.writes; show s.writes + 1 ≤ _; omega
    · have := h.flushes; show s.flushes ≤ _; omega
  · exact h.up
theorem few_rd {s : St} {k : Nat} (h : Few s k) (n : Int) : Few (rdU s n).2.2 (k + 1) := by
  unfold rdU
  split
  · refine ⟨?_, ?_, ?_, ?_⟩
    · have := h.waits; show s.waits.length ≤ _; omega
    · have := h.reads; show s.reads + 1 ≤ _; omega
    · have := h.writes; show s.writes ≤ _; omega
    · have := h.flushes; show s.flushes ≤ _; omega
  · exact h.up
theorem few_fl {s : St} {k : Nat} (h : Few s k) : Few (flU s).2 (k + 1) := by
  unfold flU
  split
  · exact h.up
  · refine ⟨Nat.zero_le _, ?_, ?_, ?_⟩
    · have := h.reads; show s.reads ≤ _; omega
    · have := h.writes; show s.writes ≤ _; omega
    · have := h.flushes; show s.flushes + 1 ≤ _; omega
theorem few_fu {s : St} {k : Nat} (h : Few s k) (n : Int) : Few (fuseS s n) (k + 1) := ⟨(h.up).waits, h.up.reads, h.up.writes, h.up.flushes⟩
theorem few_cr {s : St} {k : Nat} (h : Few s k) (ks : List Int) (torn a : Int) : Few (crU s ks torn a).2 (k + 1) := by
  unfold crU
  split
  · exact h.up
  · exact ⟨Nat.zero_le _, h.up.reads, h.up.writes, h.up.flushes⟩
theorem crashP_len (s : St) (o : List ByteArray) : (crashS s o).pages.length = s.pages.length := crashP_length _ _ _
theorem wr_len (s : St) (n : Int) (t : ByteArray) : (wrU s n t).2.pages.length = s.pages.length := by unfold wrU; split <;> rfl
theorem rd_len (s : St) (n : Int) : (rdU s n).2.2.pages.length = s.pages.length := by unfold rdU; split <;> rfl
theorem fl_len (s : St) : (flU s).2.pages.length = s.pages.length := by
  unfold flU
  split
  · rfl
  · show (applyW s.pages _).length = _
    rw [applyW_length]
theorem cr_len (s : St) (ks : List Int) (torn a : Int) : (crU s ks torn a).2.pages.length = s.pages.length := by
  unfold crU
  split
  · rfl
  · exact crashP_len _ _
theorem got_at {l : List ByteArray} {i : Nat} {u : ByteArray} (h : l[i]? = some u) : l.getD i emptyB = u := by rw [List.getD_eq_getElem?_getD, h]; rfl
/-- the program's disk at D, apart from K's blocks -/
structure Cd (K : Nat → Prop) (D : Nat) (wr : World) (s : St) : Prop where
  ex : ∃ a : Ptrs, a.D = D ∧ Dsk wr a s ∧ ∀ k, Foot a k → ¬ K k
  lt : ∀ k, K k → k < wr.heap.size
section
variable {K : Nat → Prop} {D : Nat} {wr w' : World} {s : St}
theorem Cd.good (h : Cd K D wr s) : Good s := by obtain ⟨a, _, h1, _⟩ := h.ex; exact h1.good
theorem Cd.next (h : Cd K D wr s) (hb : Below wr.heap.size wr w') : Cd K D w' s := by
  obtain ⟨a, h1, h3, h5⟩ := h.ex
  exact ⟨⟨a, h1, h3.below hb, h5⟩, fun k hk => Nat.lt_of_lt_of_le (h.lt k hk) hb.size⟩
theorem Cd.less {K' : Nat → Prop} (h : Cd K D wr s) (hk : ∀ j, K' j → K j) : Cd K' D wr s := by
  obtain ⟨a, h1, h3, h5⟩ := h.ex
  exact ⟨⟨a, h1, h3, fun k hf e => h5 k hf (hk k e)⟩, fun k e => h.lt k (hk k e)⟩
/-- blocks that have come, and blocks of others that stay from now on -/
theorem Cd.more {K' : Nat → Prop} (h : Cd K D wr s) (hb : Below wr.heap.size wr w') (hK : ∀ k, K' k → K k ∨ wr.heap.size ≤ k) (hl : ∀ k, K' k → k < w'.heap.size) : Cd K' D w' s := by
  obtain ⟨a, h1, h3, h5⟩ := h.ex
  refine ⟨⟨a, h1, h3.below hb, fun k hf e => ?_⟩, hl⟩
  have := h3.lt k hf
  rcases hK k e with e | e
  · exact h5 k hf e
  · omega
/-- another block of K alone has turned -/
theorem Cd.turn {w' : World} (h : Cd K D wr s) (hs : wr.heap.size ≤ w'.heap.size) (hb : ∀ k, k < wr.heap.size → ¬ K k → w'.heap[k]? = wr.heap[k]?) : Cd K D w' s := by
  obtain ⟨a, h1, h3, h5⟩ := h.ex
  exact ⟨⟨a, h1, h3.kept fun k hk => hb k (h3.lt k hk) (h5 k hk), h5⟩, fun k hk => Nat.lt_of_lt_of_le (h.lt k hk) hs⟩
theorem Cd.code {f : FuncId} {args : Array Value} {Q : Ending → Prop} {s' : St} (h : Cd K D wr s)
    (hc : ∀ a : Ptrs, a.D = D → Dsk wr a s → Calls Tryz.prog f args wr fun e w' => Q e ∧ ∃ a' : Ptrs, a'.D = a.D ∧ Dsk w' a' s' ∧ Only a wr w' ∧ From a a' wr) :
    Calls Tryz.prog f args wr fun e w' => Q e ∧ Cd K D w' s' ∧ KS K wr w' := by
  obtain ⟨a, h1, h3, h5⟩ := h.ex
  refine (hc a h1 h3).mono fun e w' ⟨r, a', g1, g2, g3, g4⟩ => ⟨r, ⟨⟨a', g1.trans h1, g2, fun k hf hk => ?_⟩, fun k hk => Nat.lt_of_lt_of_le (h.lt k hk) g3.size⟩, KS.only g3 h5⟩
  rcases g4 k hf with e | e
  · exact h5 k e hk
  · have := h.lt k hk; omega
theorem Cd.write (h : Cd K D wr s) {k : Nat} (hf : Few s k) (hk : k < 1000000) (n : Int) (u : ByteArray) :
    Calls Tryz.prog 16 #[.pointer (some ⟨D, 0, none⟩), .int .i64 n, .string u] wr fun e w' => e = .returned (.int .i64 (wrU s n u).1) ∧ Cd K D w' (wrU s n u).2 ∧ KS K wr w' := by
  refine h.code (Q := fun e => e = .returned (.int .i64 (wrU s n u).1)) fun a ha hd => ?_
  subst ha
  unfold wrU
  by_cases hc : 0 ≤ n ∧ n < (s.pages.length : Int) ∧ u.size = 256 ∧ s.fuse ≠ 0
  · rw [if_pos hc]
    obtain ⟨m, rfl⟩ : ∃ m : Nat, n = (m : Int) := ⟨n.toNat, by omega⟩
    exact (write_ok a s m u wr hd (by omega) hc.2.2.1 hc.2.2.2 (by have := hf.waits; omega) (by have := hf.writes; omega)).mono fun _ _ ⟨h1, v, h2, h3, h4⟩ => ⟨h1, { a with wv := v }, rfl, h2, h3, h4⟩
  · rw [if_neg hc]
    refine (write_bad a s n u wr hd (by omega)).mono ?_
    rintro e w' ⟨rfl, rfl⟩
    exact ⟨rfl, a, rfl, hd, Only.refl _ _, From.refl _ _⟩
theorem Cd.read (h : Cd K D wr s) {k : Nat} (hf : Few s k) (hk : k < 1000000) (n : Int) :
    Calls Tryz.prog 65 #[.pointer (some ⟨D, 0, none⟩), .int .i64 n] wr fun e w' => e = .returned (.tuple #[.string (rdU s n).1, .int .i64 (rdU s n).2.1]) ∧ Cd K D w' (rdU s n).2.2 ∧ KS K wr w' := by
  refine h.code (Q := fun e => e = .returned (.tuple #[.string (rdU s n).1, .int .i64 (rdU s n).2.1])) fun a ha hd => ?_
  subst ha
  unfold rdU
  by_cases hc : 0 ≤ n ∧ n < (s.pages.length : Int)
  · rw [if_pos hc]
    obtain ⟨m, rfl⟩ : ∃ m : Nat, n = (m : Int) := ⟨n.toNat, by omega⟩
    refine (read_ok a s m wr hd (by omega) (by have := hf.reads; omega)).mono ?_
    rintro e w' ⟨u, rfl, hu, h2, h3⟩
    exact ⟨by rw [Int.toNat_natCast, got_at hu], a, rfl, h2, h3, From.refl _ _⟩
  · rw [if_neg hc]
    refine (read_bad a s n wr hd (by omega)).mono ?_
    rintro e w' ⟨rfl, hb⟩
    exact ⟨rfl, a, rfl, hd.below hb, Only.below hb, From.refl _ _⟩
theorem Cd.flush (h : Cd K D wr s) {k : Nat} (hf : Few s k) (hk : k < 1000000) :
    Calls Tryz.prog 35 #[.pointer (some ⟨D, 0, none⟩)] wr fun e w' => e = .returned (.int .i64 (flU s).1) ∧ Cd K D w' (flU s).2 ∧ KS K wr w' := by
  refine h.code (Q := fun e => e = .returned (.int .i64 (flU s).1)) fun a ha hd => ?_
  subst ha
  unfold flU
  by_cases hc : s.fuse = 0
  · rw [if_pos hc]
    refine (flush_dead a s wr hd hc).mono ?_
    rintro e w' ⟨rfl, rfl⟩
    exact ⟨rfl, a, rfl, hd, Only.refl _ _, From.refl _ _⟩
  · rw [if_neg hc]
    exact (flush_ok a s wr hd hc (by have := hf.flushes; omega)).mono fun _ _ ⟨h1, v, h2, h3, h4⟩ => ⟨h1, { a with wv := v }, rfl, h2, h3, h4⟩
end
end Go.Proofs.YtaonifdfhlbaiaaGreatDoor.Dk

/- The document's own disk in memory: as the program's, the fields in another order. -/
namespace Go.Proofs.YtaonifdfhlbaiaaGreatDoor.Dk
open Go.RowKit
open Go.Lib (hid)
structure Rk (w : World) (d : Ptrs) (s : St) : Prop where
  head : w.heap[d.D]? = some (.cells #[.slice (some ⟨d.P, 0, none⟩) s.pages.length d.cp, d.wv, .int .i64 s.reads, .int .i64 s.writes, .int .i64 s.flushes, .int .i64 s.fuse] 59 (0, 0))
  pages : ∃ cur, w.heap[d.P]? = some (.cells cur 9 (0, 0)) ∧ cur.size = d.cp ∧ s.pages.length ≤ d.cp ∧ d.cp ≤ maxLen ∧ cur.toList.take s.pages.length = sv s.pages
  waits : w.ownsRow 0 88 2 d.wv s.waits.length (wcells s.waits)
  dp : d.D ≠ d.P
  dw : d.wv.ownBlock ≠ some d.D
  pw : d.wv.ownBlock ≠ some d.P
  good : Good s
theorem Rk.ltD {w : World} {d : Ptrs} {s : St} (h : Rk w d s) : d.D < w.heap.size := (Array.getElem?_eq_some_iff.1 h.head).1
theorem Rk.ltP {w : World} {d : Ptrs} {s : St} (h : Rk w d s) : d.P < w.heap.size := by
  obtain ⟨cur, hc, _⟩ := h.pages; exact (Array.getElem?_eq_some_iff.1 hc).1
theorem Rk.lt {w : World} {d : Ptrs} {s : St} (h : Rk w d s) : ∀ k, Foot d k → k < w.heap.size := by
  rintro k (rfl | rfl | hk)
  · exact h.ltD
  · exact h.ltP
  · exact (h.waits.lt k hk).2
/-- what leaves a disk's blocks alone leaves the disk -/
theorem Rk.kept {w w' : World} {d : Ptrs} {s : St} (h : Rk w d s) (hb : ∀ k, Foot d k → w'.heap[k]? = w.heap[k]?) : Rk w' d s := by
  refine ⟨by rw [hb _ (.inl rfl)]; exact h.head, ?_, ?_, h.dp, h.dw, h.pw, h.good⟩
  · rw [hb _ (.inr (.inl rfl))]; exact h.pages
  · refine ⟨h.waits.1, ?_⟩
    rcases h.waits.2 with hn | ⟨g, cap, cur, hv, hb0, hg, rest⟩
    · exact .inl hn
    · refine .inr ⟨g, cap, cur, hv, hb0, ?_, rest⟩
      rw [hb g (.inr (.inr (by rw [hv]; rfl)))]; exact hg
theorem Rk.below {w w' : World} {d : Ptrs} {s : St} (h : Rk w d s) (hb : Below w.heap.size w w') : Rk w' d s := h.kept fun k hk => hb.block k (h.lt k hk)
theorem Rk.drew {w : World} {d : Ptrs} {s : St} (h : Rk w d s) : Rk w.drew d s := ⟨h.head, h.pages, h.waits, h.dp, h.dw, h.pw, h.good⟩
theorem Rk.drewN {w : World} {d : Ptrs} {s : St} (h : Rk w d s) (n : Nat) : Rk (w.drewN n) d s := ⟨h.head, h.pages, h.waits, h.dp, h.dw, h.pw, h.good⟩
theorem Rk.other {w w' : World} {d d2 : Ptrs} {s : St} (h : Rk w d s) (ho : Only d2 w w') (hd : ∀ k, Foot d k → ¬ Foot d2 k) : Rk w' d s :=
  h.kept fun k hk => ho.block k (h.lt k hk) (hd k hk)
/-- the struct's cells -/
theorem Rk.cells {w : World} {d : Ptrs} {s : St} (h : Rk w d s) :
    w.cell? ⟨d.D, 0, none⟩ = some (.slice (some ⟨d.P, 0, none⟩) s.pages.length d.cp) ∧ w.cell? ⟨d.D, 1, none⟩ = some d.wv ∧ w.cell? ⟨d.D, 2, none⟩ = some (.int .i64 s.reads) ∧
    w.cell? ⟨d.D, 3, none⟩ = some (.int .i64 s.writes) ∧ w.cell? ⟨d.D, 4, none⟩ = some (.int .i64 s.flushes) ∧ w.cell? ⟨d.D, 5, none⟩ = some (.int .i64 s.fuse) := by
  refine ⟨?_, ?_, ?_, ?_, ?_, ?_⟩ <;> rw [cell_of_row _ _ _ _ _ _ h.head] <;> rfl
theorem Rk.free {w : World} {d : Ptrs} {s : St} (h : Rk w d s) (i : Nat) : w.frozen? ⟨d.D, i, none⟩ = false := frozen_of_row _ _ _ _ _ h.head
/-- a page's cell -/
theorem Rk.page {w : World} {d : Ptrs} {s : St} (h : Rk w d s) (i : Nat) (hi : i < s.pages.length) : w.cell? ⟨d.P, i, none⟩ = some (.string s.pages[i]) := by
  obtain ⟨cur, hc, _, _, _, ht⟩ := h.pages
  rw [cell_of_row _ _ _ _ _ _ hc]
  have e : (cur.toList.take s.pages.length)[i]? = (sv s.pages)[i]? := by rw [ht]
  rw [List.getElem?_take_of_lt hi] at e
  simp [sv, hi] at e
  simpa using e
theorem Rk.pfree {w : World} {d : Ptrs} {s : St} (h : Rk w d s) (i : Nat) : w.frozen? ⟨d.P, i, none⟩ = false := by
  obtain ⟨cur, hc, _⟩ := h.pages
  exact frozen_of_row _ _ _ _ _ hc
/-- a field of the struct is stored -/
theorem Rk.store {w : World} {d : Ptrs} {s : St} (h : Rk w d s) (i : Nat) (v : Value) (s' : St) (hp : s'.pages = s.pages) (hw : s'.waits = s.waits) (hg : Good s')
    (hc : (#[.slice (some ⟨d.P, 0, none⟩) s.pages.length d.cp, d.wv, .int .i64 s.reads, .int .i64 s.writes, .int .i64 s.flushes, .int .i64 s.fuse] : Array Value).setIfInBounds i v =
      #[.slice (some ⟨d.P, 0, none⟩) s.pages.length d.cp, d.wv, .int .i64 s'.reads, .int .i64 s'.writes, .int .i64 s'.flushes, .int .i64 s'.fuse]) :
    Rk (w.setCell ⟨d.D, i, none⟩ v) d s' := by
  have ho : ∀ k, k ≠ d.D → (w.setCell ⟨d.D, i, none⟩ v).heap[k]? = w.heap[k]? := fun k hk => heap_setCell_other _ _ _ _ hk
  refine ⟨?_, ?_, ?_, h.dp, h.dw, h.pw, hg⟩
  · rw [heap_setCell_same _ _ _ _ _ _ h.head, hc, hp]
  · rw [hp, ho _ (Ne.symm h.dp)]; exact h.pages
  · rw [hw]
    refine ⟨h.waits.1, ?_⟩
    rcases h.waits.2 with hn | ⟨g, cap, cur, hv, hb0, hg, rest⟩
    · exact .inl hn
    · refine .inr ⟨g, cap, cur, hv, hb0, ?_, rest⟩
      rw [ho g (fun e => h.dw (by rw [hv, e]; rfl))]; exact hg
/-- what a write that waits reads as -/
theorem Rk.wait {w : World} {d : Ptrs} {s : St} (h : Rk w d s) {g n cap : Nat} (hv : d.wv = .slice (some ⟨g, 0, none⟩) n cap) (k : Nat) (hk : k < s.waits.length) :
    w.cell? ⟨g, k * 2, none⟩ = some (.int .i64 (s.waits[k].1 : Int)) ∧ w.cell? ⟨g, k * 2 + 1, none⟩ = some (.string s.waits[k].2) := by
  have hc := h.waits.cells (g := g) (by rw [hv]; rfl)
  have hat : ∀ (l : List (Nat × ByteArray)) (k : Nat) (hk : k < l.length), (wcells l)[k * 2]? = some (.int .i64 (l[k].1 : Int)) ∧ (wcells l)[k * 2 + 1]? = some (.string l[k].2) := by
    intro l
    induction l with
    | nil => intro k hk; simp at hk
    | cons x l ih =>
      intro k hk
      have e : wcells (x :: l) = .int .i64 (x.1 : Int) :: .string x.2 :: wcells l := rfl
      rw [e]
      cases k with
      | zero => simp
      | succ k =>
        have := ih k (by simpa using hk)
        rw [show (k + 1) * 2 = k * 2 + 1 + 1 by omega, show k * 2 + 1 + 1 + 1 = k * 2 + 1 + 1 + 1 from rfl]
        simpa using this
  have hadd : ∀ j, (⟨g, 0, none⟩ : Addr).add j = ⟨g, j, none⟩ := fun j => by unfold Addr.add; split <;> simp_all
  obtain ⟨h1, h2⟩ := hat s.waits k hk
  have c1 := hc _ _ h1
  have c2 := hc _ _ h2
  rw [hadd] at c1 c2
  exact ⟨c1, c2⟩
/-- a page is stored -/
theorem Rk.putPage {w : World} {d : Ptrs} {s : St} (h : Rk w d s) (i : Nat) (t : ByteArray) (s' : St) (hp : s'.pages = s.pages.set i t) (hw : s'.waits = s.waits) (hf : s'.fuse = s.fuse) (hr : s'.reads = s.reads) (hwr : s'.writes = s.writes) (hfl : s'.flushes = s.flushes) (hg : Good s') :
    Rk (w.setCell ⟨d.P, i, none⟩ (.string t)) d s' := by
  obtain ⟨cur, hc, hsz, hle, hmx, htk⟩ := h.pages
  have hlen : s'.pages.length = s.pages.length := by rw [hp]; simp
  refine ⟨?_, ⟨cur.setIfInBounds i (.string t), ?_, by simpa using hsz, by rw [hlen]; exact hle, hmx, ?_⟩, ?_, h.dp, h.dw, h.pw, hg⟩
  · rw [heap_setCell_other _ _ _ _ h.dp, h.head, hlen, hf, hr, hwr, hfl]
  · exact heap_setCell_same _ _ _ _ _ _ hc
  · rw [hlen, hp]
    rw [Array.toList_setIfInBounds, List.take_set, htk]
    simp [sv, List.map_set]
  · rw [hw]
    refine ⟨h.waits.1, ?_⟩
    rcases h.waits.2 with hn | ⟨g, cap, cur', hv, hb0, hg', rest⟩
    · exact .inl hn
    · refine .inr ⟨g, cap, cur', hv, hb0, ?_, rest⟩
      rw [heap_setCell_other _ _ _ _ (fun e => h.pw (by rw [hv, e]; rfl))]; exact hg'
theorem Rk.alloc {w : World} {d : Ptrs} {s : St} (h : Rk w d s) (o : Obj) : Rk (w.alloc o) d s := h.below ((Below.refl _ _).alloc (Nat.le_refl _) o)
/-- what the disk is when its waits have grown -/
theorem Rk.pushed {w w2 : World} {d : Ptrs} {s : St} (h : Rk w d s) {g cap n : Nat} {t : ByteArray} (hn : n < s.pages.length) (ht : t.size = 256) (hf : s.waits.length < 1000000)
    (ho : w2.ownsRow 0 88 2 (.slice (some ⟨g, 0, none⟩) (s.waits.length + 1) cap) (s.waits.length + 1) (wcells s.waits ++ [.int .i64 n, .string t])) (hg : w.grownBy w2 d.wv.ownBlock) (hat : d.wv.ownBlock = some g ∨ g = w.heap.size) :
    Rk (w2.setCell ⟨d.D, 1, none⟩ (.slice (some ⟨g, 0, none⟩) (s.waits.length + 1) cap)) { d with wv := .slice (some ⟨g, 0, none⟩) (s.waits.length + 1) cap } (pushS s n t) := by
  have hgD : g ≠ d.D := by
    rcases hat with h1 | h1
    · intro e; exact h.dw (by rw [h1, e])
    · have := h.ltD; omega
  have hgP : g ≠ d.P := by
    rcases hat with h1 | h1
    · intro e; exact h.pw (by rw [h1, e])
    · have := h.ltP; omega
  have hD : w2.heap[d.D]? = w.heap[d.D]? := hg.block _ h.ltD (Ne.symm h.dw)
  have hP : w2.heap[d.P]? = w.heap[d.P]? := hg.block _ h.ltP (Ne.symm h.pw)
  refine ⟨?_, ?_, ?_, h.dp, ?_, ?_, push_good h.good hn ht hf⟩
  · rw [heap_setCell_same _ _ _ _ _ _ (by rw [hD]; exact h.head)]; rfl
  · show ∃ cur, (w2.setCell _ _).heap[d.P]? = _ ∧ _
    rw [heap_setCell_other _ _ _ _ (Ne.symm h.dp), hP]; exact h.pages
  · have e1 : (pushS s n t).waits.length = s.waits.length + 1 := by simp [pushS]
    have e2 : wcells (pushS s n t).waits = wcells s.waits ++ [.int .i64 n, .string t] := wcells_push _ _ _
    rw [e1, e2]
    refine ⟨ho.1, ?_⟩
    rcases ho.2 with ⟨hv, _⟩ | ⟨g', cap', cur, hv, hb0, hg', rest⟩
    · cases hv
    · refine .inr ⟨g', cap', cur, hv, hb0, ?_, rest⟩
      have : g' = g := by cases hv; rfl
      rw [this, heap_setCell_other _ _ _ _ hgD, ← this]; exact hg'
  · show some g ≠ some d.D
    intro e; exact hgD (by injection e)
  · show some g ≠ some d.P
    intro e; exact hgP (by injection e)
/-- where the waits stand, if there are any -/
theorem Rk.waitsAt {w : World} {d : Ptrs} {s : St} (h : Rk w d s) : ∃ p cap, d.wv = .slice p s.waits.length cap := by
  rcases h.waits.2 with ⟨hv, h0⟩ | ⟨g, cap, cur, hv, _⟩
  · exact ⟨none, 0, by rw [hv, h0]⟩
  · exact ⟨_, cap, hv⟩
theorem Rk.someAt {w : World} {d : Ptrs} {s : St} (h : Rk w d s) {p : Option Addr} {cap : Nat} (hv : d.wv = .slice p s.waits.length cap) (hn : 0 < s.waits.length) : ∃ gw, p = some ⟨gw, 0, none⟩ := by
  rcases h.waits.2 with ⟨_, h0⟩ | ⟨g, cap', cur, hv', _⟩
  · omega
  · rw [hv] at hv'; injection hv' with h1; exact ⟨g, h1⟩
/-- the waits are let go -/
theorem Rk.gone {w : World} {d : Ptrs} {s : St} (h : Rk w d s) : Rk (w.setCell ⟨d.D, 1, none⟩ (.slice none 0 0)) { d with wv := .slice none 0 0 } (noWaits s) := by
  refine ⟨?_, ?_, World.ownsRow_nil _ _ _ _, h.dp, by simp [Value.ownBlock], by simp [Value.ownBlock], noWaits_good h.good⟩
  · rw [heap_setCell_same _ _ _ _ _ _ h.head]; rfl
  · show ∃ cur, (w.setCell _ _).heap[d.P]? = _ ∧ _
    rw [heap_setCell_other _ _ _ _ (Ne.symm h.dp)]; exact h.pages
end Go.Proofs.YtaonifdfhlbaiaaGreatDoor.Dk

/- The document's own disk: burn, Write, Flush. -/
namespace Go.Proofs.YtaonifdfhlbaiaaGreatDoor.Dk
open Go.RowKit
open Go.Lib (hid)

set_option maxHeartbeats 400000 in
theorem rburn_ok (d : Ptrs) (s : St) (w : World) (h : Rk w d s) :
    Calls Tryz.prog 45 #[.pointer (some ⟨d.D, 0, none⟩)] w fun e w' => e = .returned (.tuple #[]) ∧ Rk w' d (burnS s) ∧ Only d w w' := by
  have c := h.cells
  have f := h.free 5
  have hg := h.good.fuse
  by_cases hf : 0 < s.fuse
  · have hd : Rk (w.setCell ⟨d.D, 5, none⟩ (.int .i64 (s.fuse - 1))) d (burnS s) :=
      h.store 5 _ (burnS s) rfl rfl (burn_good h.good) (by simp [burnS, burnI, hf])
    have HS := hid (And.intro hd ((Only.refl d w).store 5 (.int .i64 (s.fuse - 1)))); clear h hd
    go_enter Tryz.func45, Tryz.ntmps45
    go_wp2_with fail
    refine bodyPost_end (v := .tuple #[]) (by simp [results, Tryz.results45, go_sem]) rfl ⟨rfl, ?_⟩
    exact HS.out
  · have e : burnS s = s := by unfold burnS burnI; rw [if_neg hf]
    have HS := hid h; clear h
    rw [e]
    go_enter Tryz.func45, Tryz.ntmps45
    go_wp2_with fail
    refine bodyPost_end (v := .tuple #[]) (by simp [results, Tryz.results45, go_sem]) rfl ⟨rfl, ?_⟩
    exact ⟨HS.out, Only.refl _ _⟩
theorem rinfo : (Tryz.prog.info? 88).map (fun i => (i.zero, i.size, i.bytes)) = some (some (.agg #[.int .i64 0, .string ⟨#[]⟩]), 2, 24) := by kernel_rfl
set_option maxRecDepth 100000 in
set_option maxHeartbeats 1000000 in
theorem rwrite_ok (d : Ptrs) (s : St) (n : Nat) (t : ByteArray) (w : World) (h : Rk w d s) (hn : n < s.pages.length) (ht : t.size = 256) (hfz : s.fuse ≠ 0) (hf : s.waits.length < 1000000) (hw : s.writes < 1000000) :
    Calls Tryz.prog 17 #[.pointer (some ⟨d.D, 0, none⟩), .int .i64 n, .string t] w fun e w' => e = .returned (.int .i64 0) ∧ ∃ v, Rk w' { d with wv := v } (writeS s n t) ∧ Only d w w' ∧ From d { d with wv := v } w := by
  obtain ⟨i0, hi0, hz0, hz1, hz2⟩ := info_parts rinfo
  have e1 : decide ((n : Int) < 0) = false := by simp
  have e2 : decide ((s.pages.length : Int) ≤ (n : Int)) = false := decide_eq_false (by omega)
  have e2' : decide (s.pages.length ≤ n) = false := decide_eq_false (by omega)
  have e3 : ((t.size : Int) != 256) = false := by simp; omega
  have e4 : (s.fuse == 0) = false := by simpa using hfz
  have hmax : s.waits.length + 1 ≤ maxLen := by unfold maxLen; omega
  have hby : (s.waits.length + 1) * 24 ≤ 140737488355328 := by omega
  have HH := hid h
  obtain ⟨c0, c1, c2, c3, c4, c5⟩ := h.cells
  have HN := hid (And.intro hn (And.intro ht hf))
  have HW := hid hw
  clear h hn ht hf hfz hw
  go_enter Tryz.func17, Tryz.ntmps17
  go_wp2_with fail
  refine (rburn_ok d s _ HH.out).mono ?_
  rintro e w1 ⟨rfl, hd, ho⟩
  have H1 := hid hd; have HO1 := hid ho
  clear e1 e2 e2' e3 e4 c0 c1 c2 c3 c4 c5 ho
  obtain ⟨-, c1, -, -, -, -⟩ := hd.cells
  clear hd
  go_wp2_with (at_builtin; refine wpList_append_lies _ rfl _ _ 57 rfl 0 88 i0 (.agg #[.int .i64 0, .string ⟨#[]⟩]) 2 24 Tryz.underlying57 hi0 hz0 hz1 hz2 rfl (by decide) d.wv s.waits.length (wcells s.waits) rfl (H1.out.waits.alloc _) ⟨w1.heap.size, 0, none⟩ 1 1 [.int .i64 n, .string t] (by rfl) (by rfl) (World.news_of_block (cs := #[.int .i64 n, .string t]) (t := 88) (fr := (0, 0)) (heap_alloc_new w1 _)) (by simp [Value.oneCell']) (by omega) hmax hby (by omega) (w1.heap.size + 1) (by simp) ?_)
  intro gg cap w2 hown hgrow hat hlt
  have hA := H1.out.below ((Below.refl w1.heap.size w1).alloc (Nat.le_refl _) (.cells #[.int .i64 n, .string t] 88))
  have hD := hA.pushed HN.out.1 HN.out.2.1 HN.out.2.2 hown hgrow (by simpa using hat)
  have hon : Only d w (w1.alloc (.cells #[.int .i64 n, .string t] 88)) := HO1.out.alloc _
  have hon2 := Only.pushed hon (v := .slice (some ⟨gg, 0, none⟩) (s.waits.length + 1) cap) hgrow
  have hfr : From d { d with wv := .slice (some ⟨gg, 0, none⟩) (s.waits.length + 1) cap } w := by
    rintro k (rfl | rfl | hk)
    · exact .inl (.inl rfl)
    · exact .inl (.inr (.inl rfl))
    · have : gg = k := by injection hk
      subst this
      rcases hat with h1 | h1
      · exact .inl (.inr (.inr h1))
      · right; have := HO1.out.size; omega
  have q4 : w2.cell? ⟨d.D, 1, none⟩ = some d.wv := by rw [hgrow.cell_far _ (by have := H1.out.ltD; simp; omega) (fun e => H1.out.dw e.symm)]; exact hA.cells.2.1
  have q3 : w2.frozen? ⟨d.D, 1, none⟩ = false := by rw [hgrow.frozen_far _ (by have := H1.out.ltD; simp; omega) (fun e => H1.out.dw e.symm)]; exact hA.free 1
  have HD := hid hD; have HON := hid hon2; have HF := hid hfr
  have hwb := hD.good.writes
  have hwb1 : 0 ≤ s.writes := hwb.1
  have hwb2 : s.writes ≤ 1000000 := hwb.2
  have x3 : (w2.setCell ⟨d.D, 1, none⟩ (.slice (some ⟨gg, 0, none⟩) (s.waits.length + 1) cap)).cell? ⟨d.D, 3, none⟩ = some (.int .i64 s.writes) := hD.cells.2.2.2.1
  have f3 : (w2.setCell ⟨d.D, 1, none⟩ (.slice (some ⟨gg, 0, none⟩) (s.waits.length + 1) cap)).frozen? ⟨d.D, 3, none⟩ = false := hD.free 3
  have hd4 : Rk ((w2.setCell ⟨d.D, 1, none⟩ (.slice (some ⟨gg, 0, none⟩) (s.waits.length + 1) cap)).setCell ⟨d.D, 3, none⟩ (.int .i64 (s.writes + 1))) { d with wv := .slice (some ⟨gg, 0, none⟩) (s.waits.length + 1) cap } (writeS s n t) :=
    hD.store 3 _ (countW (pushS (burnS s) n t)) rfl rfl (countW_good hD.good HW.out) rfl
  have HD4 := hid hd4
  have HON4 := hid (hon2.store 3 (.int .i64 (s.writes + 1)))
  clear hA hD hon hon2 hfr hown hgrow hat hlt hwb hd4 c1
  go_wp2_with fail
  go_ret
  exact ⟨rfl, _, HD4.out, HON4.out, HF.out⟩
set_option maxHeartbeats 1000000 in
theorem rwrite_bad (d : Ptrs) (s : St) (n : Int) (t : ByteArray) (w : World) (h : Rk w d s) (hb : n < 0 ∨ s.pages.length ≤ n ∨ t.size ≠ 256 ∨ s.fuse = 0) :
    Calls Tryz.prog 17 #[.pointer (some ⟨d.D, 0, none⟩), .int .i64 n, .string t] w fun e w' => e = .returned (.int .i64 1) ∧ w = w' := by
  obtain ⟨c0, c1, c2, c3, c4, c5⟩ := h.cells
  clear h
  by_cases h1 : n < 0
  · have e1 : decide (n < 0) = true := decide_eq_true h1
    clear hb h1
    go_enter Tryz.func17, Tryz.ntmps17
    go_wp2_with fail
    go_ret
    exact ⟨rfl, rfl⟩
  · have e1 : decide (n < 0) = false := decide_eq_false h1
    by_cases h2 : (s.pages.length : Int) ≤ n
    · have e2 : decide ((s.pages.length : Int) ≤ n) = true := decide_eq_true h2
      clear hb h1 h2
      go_enter Tryz.func17, Tryz.ntmps17
      go_wp2_with fail
      go_ret
      exact ⟨rfl, rfl⟩
    · have e2 : decide ((s.pages.length : Int) ≤ n) = false := decide_eq_false h2
      by_cases h3 : t.size = 256
      · have e3 : ((t.size : Int) != 256) = false := by simp; omega
        have h4 : s.fuse = 0 := by omega
        have e4 : (s.fuse == 0) = true := by simpa using h4
        clear hb h1 h2 h3 h4
        go_enter Tryz.func17, Tryz.ntmps17
        go_wp2_with fail
        go_ret
        exact ⟨rfl, rfl⟩
      · have e3 : ((t.size : Int) != 256) = true := by simp; omega
        clear hb h1 h2 h3
        go_enter Tryz.func17, Tryz.ntmps17
        go_wp2_with fail
        go_ret
        exact ⟨rfl, rfl⟩
set_option maxHeartbeats 400000 in
theorem rflush_dead (d : Ptrs) (s : St) (w : World) (h : Rk w d s) (hfz : s.fuse = 0) :
    Calls Tryz.prog 39 #[.pointer (some ⟨d.D, 0, none⟩)] w fun e w' => e = .returned (.int .i64 0) ∧ w = w' := by
  have e3 : (s.fuse == 0) = true := by simpa using hfz
  obtain ⟨c0, c1, c2, c3, c4, c5⟩ := h.cells
  clear h hfz
  go_enter Tryz.func39, Tryz.ntmps39
  go_wp2_with fail
  go_ret
  exact ⟨rfl, rfl⟩
set_option maxRecDepth 100000 in
set_option maxHeartbeats 4000000 in
theorem rflush_ok (d : Ptrs) (s : St) (w : World) (h : Rk w d s) (hfz : s.fuse ≠ 0) (hfl : s.flushes < 1000000) :
    Calls Tryz.prog 39 #[.pointer (some ⟨d.D, 0, none⟩)] w fun e w' => e = .returned (.int .i64 (s.waits.length : Int)) ∧ ∃ v, Rk w' { d with wv := v } (flushS s) ∧ Only d w w' ∧ From d { d with wv := v } w := by
  have e3 : (s.fuse == 0) = false := by simpa using hfz
  obtain ⟨c0, c1, c2, c3, c4, c5⟩ := h.cells
  have HH := hid h
  have HFL := hid hfl
  clear h hfz hfl
  go_enter Tryz.func39, Tryz.ntmps39
  go_wp2_with fail
  refine (rburn_ok d s _ HH.out).mono ?_
  rintro e w1 ⟨rfl, hd, ho⟩
  have H1 := hid hd; have HO1 := hid ho
  clear e3 c0 c1 c2 c3 c4 c5 hd ho
  obtain ⟨p, cap, hv⟩ := HH.out.waitsAt
  have HV := hid hv
  go_wp2_with fail
  go_loopw [3] (fun i wr => ∃ k : Nat, k ≤ s.waits.length ∧ i = .int .i64 k ∧ Rk wr d (partS (burnS s) k) ∧ Only d w wr) (fun i _ => s.waits.length - (intOf i).toNat)
  case atStart => exact ⟨0, by omega, rfl, H1.out, HO1.out⟩
  case round =>
    obtain ⟨k, hk, rfl, hD, hO⟩ := hrel
    have HD := hid hD; have HO := hid hO
    obtain ⟨c0, c1, c2, c3, c4, c5⟩ := hD.cells
    rw [hv] at c1
    change wr.cell? _ = some (Value.int .i64 s.flushes) at c4
    have hfew : s.waits.length ≤ 1000000 := HH.out.good.few
    clear hD hO hv
    by_cases hlt : k < s.waits.length
    · have e1 : decide ((k : Int) < (s.waits.length : Int)) = true := by simpa using hlt
      have e1' : decide (k < s.waits.length) = true := by simpa using hlt
      have z0 : (0 : Int) ≤ (k : Int) := by omega
      have z1 : (k : Int) < (s.waits.length : Int) := by omega
      obtain ⟨gw, rfl⟩ := HH.out.someAt HV.out (by omega)
      obtain ⟨x, hx⟩ : ∃ x, s.waits[k].1 = x := ⟨_, rfl⟩
      obtain ⟨t, ht⟩ : ∃ t, s.waits[k].2 = t := ⟨_, rfl⟩
      have cw : wr.cell? ⟨gw, k * 2, none⟩ = some (.int .i64 (x : Int)) ∧ wr.cell? ⟨gw, k * 2 + 1, none⟩ = some (.string t) := by
        have := HD.out.wait HV.out k hlt
        rw [← hx, ← ht]; exact this
      obtain ⟨cw1, cw2⟩ := cw
      have hxl : x < (partS (burnS s) k).pages.length := by
        have := (HH.out.good.wait s.waits[k] (List.getElem_mem hlt)).1
        rw [hx] at this
        show x < (applyW s.pages _).length
        rw [applyW_length]; exact this
      have hmore : (partS (burnS s) (k + 1)).pages = (partS (burnS s) k).pages.set x t := by
        have h := part_more s k hlt
        rw [hx, ht] at h; exact h
      have HM := hid hmore
      have c6 := HD.out.page x hxl
      have f6 := HD.out.pfree x
      have hpl : (partS (burnS s) k).pages.length ≤ 1000 := (part_good (burn_good HH.out.good) k).n2
      have z2 : (x : Int) < ((partS (burnS s) k).pages.length : Int) := by omega
      have z3 : (0 : Int) ≤ (x : Int) := by omega
      have HD2 := hid (HD.out.putPage x t (partS (burnS s) (k + 1)) HM.out rfl rfl rfl rfl rfl (part_good (burn_good HH.out.good) (k + 1)))
      have HO2 := hid (HO.out.putPage x (.string t))
      have HW := hid (show wrap64 ((k : Int) + 1) = ((k + 1 : Nat) : Int) from Go.IntWalk.wrap64_in _ (by omega))
      have HLT := hid hlt
      have n1 : d.D ≠ d.P := HD.out.dp
      have n2 : d.P ≠ d.D := Ne.symm HD.out.dp
      have n3 : gw ≠ d.P := fun e => HD.out.pw (by rw [HV.out, e]; rfl)
      have n4 : d.P ≠ gw := Ne.symm n3
      clear hx ht hmore
      go_wp2_with fail
      go_region_held3 (fun w' => w'.cell? ⟨d.D, 0, none⟩ = some (.slice (some ⟨d.P, 0, none⟩) (partS (burnS s) k).pages.length d.cp) ∧ w'.cell? ⟨d.D, 1, none⟩ = some (.slice (some ⟨gw, 0, none⟩) s.waits.length cap) ∧ w'.cell? ⟨gw, k * 2, none⟩ = some (.int .i64 (x : Int)) ∧ w'.cell? ⟨gw, k * 2 + 1, none⟩ = some (.string t)) (first | exact ⟨c0, c1, cw1, cw2⟩ | go_keep) (fail)
      go_wp2_with fail
      go_roundw
      case rel => exact ⟨k + 1, HLT.out, by go_num, HD2.out.drew, HO2.out.drew⟩
      case measure => simp [intOf]; omega
    · obtain rfl : k = s.waits.length := by omega
      have e1 : decide ((s.waits.length : Int) < (s.waits.length : Int)) = false := by simp
      have f1 := HD.out.free 1
      have hg := HD.out.gone
      have HG := hid hg
      have HGO := hid (HO.out.store 1 (.slice none 0 0))
      have x4 : (wr.setCell ⟨d.D, 1, none⟩ (.slice none 0 0)).cell? ⟨d.D, 4, none⟩ = some (.int .i64 s.flushes) := hg.cells.2.2.2.2.1
      have f4 : (wr.setCell ⟨d.D, 1, none⟩ (.slice none 0 0)).frozen? ⟨d.D, 4, none⟩ = false := hg.free 4
      have hb1 : 0 ≤ s.flushes := HH.out.good.flushes.1
      have hb2 : s.flushes ≤ 1000000 := HH.out.good.flushes.2
      have HG4 := hid (show Rk ((wr.setCell ⟨d.D, 1, none⟩ (.slice none 0 0)).setCell ⟨d.D, 4, none⟩ (.int .i64 (s.flushes + 1))) { d with wv := .slice none 0 0 } (flushS s) from
        hg.store 4 _ (countF (noWaits (partS (burnS s) (burnS s).waits.length))) rfl rfl (countF_good hg.good HFL.out) rfl)
      have HGO4 := hid (HGO.out.store 4 (.int .i64 (s.flushes + 1)))
      clear hg hk hlt
      go_wp2_with fail
      go_ret
      refine ⟨rfl, _, HG4.out, HGO4.out, ?_⟩
      rintro k (rfl | rfl | hk)
      · exact .inl (.inl rfl)
      · exact .inl (.inr (.inl rfl))
      · cases hk
end Go.Proofs.YtaonifdfhlbaiaaGreatDoor.Dk

/- The document's own disk: Read, Waits. -/
namespace Go.Proofs.YtaonifdfhlbaiaaGreatDoor.Dk
open Go.RowKit
open Go.Lib (hid)

set_option maxHeartbeats 400000 in
theorem rread_bad (d : Ptrs) (s : St) (n : Int) (w : World) (h : Rk w d s) (hb : n < 0 ∨ s.pages.length ≤ n) :
    Calls Tryz.prog 68 #[.pointer (some ⟨d.D, 0, none⟩), .int .i64 n] w fun e w' => e = .returned (.tuple #[.string ⟨#[]⟩, .int .i64 1]) ∧ w = w' := by
  obtain ⟨c0, c1, c2, c3, c4, c5⟩ := h.cells
  clear h
  by_cases h1 : n < 0
  · have e1 : decide (n < 0) = true := decide_eq_true h1
    clear hb h1
    go_enter Tryz.func68, Tryz.ntmps68
    go_wp2_with fail
    go_ret2
    exact ⟨rfl, rfl⟩
  · have e1 : decide (n < 0) = false := decide_eq_false h1
    have h2 : (s.pages.length : Int) ≤ n := by omega
    have e2 : decide ((s.pages.length : Int) ≤ n) = true := decide_eq_true h2
    clear hb h1 h2
    go_enter Tryz.func68, Tryz.ntmps68
    go_wp2_with fail
    go_ret2
    exact ⟨rfl, rfl⟩
set_option maxRecDepth 100000 in
set_option maxHeartbeats 1000000 in
theorem rread_ok (d : Ptrs) (s : St) (n : Nat) (w : World) (h : Rk w d s) (hn : n < s.pages.length) (hr : s.reads < 1000000) :
    Calls Tryz.prog 68 #[.pointer (some ⟨d.D, 0, none⟩), .int .i64 (n : Int)] w fun e w' => ∃ t, e = .returned (.tuple #[.string t, .int .i64 0]) ∧ (applyW s.pages s.waits)[n]? = some t ∧ Rk w' d (readS s) ∧ Only d w w' := by
  have HRK := hid (h.store 2 (.int .i64 (s.reads + 1)) (readS s) rfl rfl (readS_good h.good hr) rfl)
  have HON := hid ((Only.refl d w).store 2 (.int .i64 (s.reads + 1)))
  obtain ⟨c0, c1, c2, c3, c4, c5⟩ := h.cells
  have f2 := h.free 2
  have hr1 := h.good.reads.1
  have hr2 := h.good.reads.2
  have hfew := h.good.few
  have hpl := h.good.n2
  obtain ⟨p, cap, hv⟩ := h.waitsAt
  have HH := hid h
  have HV := hid hv
  have HN := hid hn
  have e1 : decide ((n : Int) < 0) = false := by simp
  have e2 : decide ((s.pages.length : Int) ≤ (n : Int)) = false := decide_eq_false (by omega)
  have e2' : decide (s.pages.length ≤ n) = false := decide_eq_false (by omega)
  have z0 : (0 : Int) ≤ (n : Int) := by omega
  have z1 : (n : Int) < (s.pages.length : Int) := by omega
  have x1 : (w.setCell ⟨d.D, 2, none⟩ (.int .i64 (s.reads + 1))).cell? ⟨d.D, 1, none⟩ = some (.slice p s.waits.length cap) := by rw [← hv]; exact HRK.out.cells.2.1
  have x0 : (w.setCell ⟨d.D, 2, none⟩ (.int .i64 (s.reads + 1))).cell? ⟨d.D, 0, none⟩ = some (.slice (some ⟨d.P, 0, none⟩) s.pages.length d.cp) := HRK.out.cells.1
  clear h hn hr
  rw [hv] at c1
  clear hv
  go_enter Tryz.func68, Tryz.ntmps68
  go_wp2_with fail
  clear c0 c1 c2 c3 c4 c5 f2 e1 e2 e2'
  generalize w.setCell ⟨d.D, 2, none⟩ (.int .i64 (s.reads + 1)) = W at *
  go_loopw [6] (fun i wr => ∃ k : Nat, k ≤ s.waits.length ∧ i = .int .i64 ((k : Int) - 1) ∧ wr = W ∧ ∀ q (hq : q < s.waits.length), k ≤ q → s.waits[q].1 ≠ n) (fun i _ => (intOf i + 1).toNat)
  case atStart => exact ⟨s.waits.length, by omega, by go_num, rfl, fun q hq hk => by omega⟩
  case round =>
    obtain ⟨k, hk, hi, rfl, hno⟩ := hrel
    have HNO := hid hno
    clear hno
    cases k with
    | zero =>
      obtain rfl := hi
      have hp := HRK.out.page n HN.out
      have HLAST := hid (last_eq s.pages n HN.out (s.pages[n]'HN.out) _ s.waits rfl (.inr ⟨fun j hj => HNO.out j hj (Nat.zero_le _), List.getElem?_eq_getElem HN.out⟩))
      change wr.cell? _ = some (Value.string (s.pages[n]'HN.out)) at hp
      generalize s.pages[n]'HN.out = t at hp HLAST
      clear hk
      go_wp2_with fail
      go_ret2
      exact ⟨t, rfl, HLAST.out, HRK.out, HON.out⟩
    | succ k =>
      rw [show ((k + 1 : Nat) : Int) - 1 = (k : Int) by omega] at hi
      obtain rfl := hi
      have hlt : k < s.waits.length := by omega
      have z2 : (0 : Int) ≤ (k : Int) := by omega
      have z3 : (k : Int) < (s.waits.length : Int) := by omega
      obtain ⟨gw, rfl⟩ := HH.out.someAt HV.out (by omega)
      obtain ⟨cw1, cw2⟩ := HRK.out.wait HV.out k hlt
      change wr.cell? _ = some (Value.int .i64 ((s.waits[k].1 : Nat) : Int)) at cw1
      change wr.cell? _ = some (Value.string s.waits[k].2) at cw2
      have HLT := hid hlt
      have HLAST := hid (fun (he : s.waits[k].1 = n) => last_eq s.pages n HN.out (s.waits[k].2) _ s.waits rfl (.inl ⟨k, hlt, he, rfl, fun j hj hkj => HNO.out j hj (by omega)⟩))
      have HNX := hid (fun (he : s.waits[k].1 ≠ n) => (show ∀ q (hq : q < s.waits.length), k ≤ q → s.waits[q].1 ≠ n from fun q hq hkq => by
        by_cases e : q = k
        · subst e; exact he
        · exact HNO.out q hq (by omega)))
      generalize s.waits[k].2 = t at cw2 HLAST
      generalize s.waits[k].1 = y at cw1 HLAST HNX
      by_cases he : y = n
      · have HLT2 := hid (HLAST.out he)
        subst he
        have e3 : ((y : Int) == (y : Int)) = true := by simp
        clear HLAST
        clear hk hlt
        go_wp2_with fail
        go_ret2
        exact ⟨t, rfl, HLT2.out, HRK.out, HON.out⟩
      · have e3 : ((y : Int) == (n : Int)) = false := by simp; omega
        have HE := hid he
        clear hk hlt he
        go_wp2_with fail
        go_roundw
        case rel => exact ⟨k, by have := HLT.out; omega, by go_num, by first | trivial | rfl, HNX.out HE.out⟩
        case measure => simp [intOf] <;> omega
theorem wpages_iv (l : List (Nat × ByteArray)) : wpages l = iv (l.map fun p => (p.1 : Int)) := by simp [wpages, iv]
end Go.Proofs.YtaonifdfhlbaiaaGreatDoor.Dk

/- The small calls of entry: which page may be staged; what a text's kind has. -/
namespace Go.Proofs.YtaonifdfhlbaiaaGreatDoor.En
open Go.RowKit
open Go.Lib (hid)
/-- may such a page be staged? -/
def mayS (k n : Int) (b : ByteArray) : Prop := (k = 0 → b.toList.isEmpty = true) ∧ 0 ≤ k ∧ k < 5 ∧ 0 ≤ n ∧ n ≤ 999 ∧ b.size ≤ 230
set_option maxHeartbeats 400000 in
theorem staged_yes (k n : Int) (b : ByteArray) (w : World) (h : mayS k n b) :
    Calls Tryz.prog 102 #[.agg #[.int .i64 k, .int .i64 n, .string b]] w fun e w' => e = .returned (.bool true) ∧ Below w.heap.size w w' := by
  unfold mayS at h
  obtain ⟨h1, h2, h3, h4, h5, h6⟩ := h
  have e5 : decide ((b.size : Int) ≤ 230) = true := by simp; omega
  by_cases h0 : k = 0
  · subst h0
    have e1 := h1 rfl
    clear h1
    go_enter Tryz.func102, Tryz.ntmps102
    go_wp2_with fail
    go_ret
    exact ⟨rfl, (Below.refl _ _).alloc (Nat.le_refl _) _⟩
  · have e0 : (k == 0) = false := by simpa using h0
    clear h0 h1
    go_enter Tryz.func102, Tryz.ntmps102
    go_wp2_with fail
    go_ret
    exact ⟨rfl, (Below.refl _ _).alloc (Nat.le_refl _) _⟩
set_option maxHeartbeats 1000000 in
theorem staged_no (k n : Int) (b : ByteArray) (w : World) (h : ¬ mayS k n b) :
    Calls Tryz.prog 102 #[.agg #[.int .i64 k, .int .i64 n, .string b]] w fun e w' => e = .returned (.bool false) ∧ Below w.heap.size w w' := by
  unfold mayS at h
  by_cases h0 : k = 0
  · subst h0
    by_cases h1 : b.toList.isEmpty = true
    · by_cases h4 : 0 ≤ n
      · by_cases h5 : n ≤ 999
        · exfalso; apply h
          have : b.size = 0 := by
            rw [ByteArray.toList_eq] at h1
            have h2 := List.isEmpty_iff.1 h1
            have h3 : b.data.toList.length = 0 := by rw [h2]; rfl
            simpa using h3
          exact ⟨fun _ => h1, by decide, by decide, h4, h5, by omega⟩
        · have e4 : decide (n ≤ 999) = false := by simp; omega
          clear h h5
          go_enter Tryz.func102, Tryz.ntmps102
          go_wp2_with fail
          go_ret
          exact ⟨rfl, (Below.refl _ _).alloc (Nat.le_refl _) _⟩
      · have e4 : decide (0 ≤ n) = false := by simp; omega
        clear h h4
        go_enter Tryz.func102, Tryz.ntmps102
        go_wp2_with fail
        go_ret
        exact ⟨rfl, (Below.refl _ _).alloc (Nat.le_refl _) _⟩
    · have e1 : b.toList.isEmpty = false := by simpa using h1
      clear h h1
      go_enter Tryz.func102, Tryz.ntmps102
      go_wp2_with fail
      go_ret
      exact ⟨rfl, (Below.refl _ _).alloc (Nat.le_refl _) _⟩
  · have e0 : (k == 0) = false := by simpa using h0
    by_cases h2 : 0 ≤ k
    · by_cases h3 : k < 5
      · by_cases h4 : 0 ≤ n
        · by_cases h5 : n ≤ 999
          · have e5 : decide ((b.size : Int) ≤ 230) = false := by
              simp only [decide_eq_false_iff_not]; intro h6; exact h ⟨fun h7 => absurd h7 h0, h2, h3, h4, h5, by omega⟩
            clear h h0
            go_enter Tryz.func102, Tryz.ntmps102
            go_wp2_with fail
            go_ret
            exact ⟨rfl, (Below.refl _ _).alloc (Nat.le_refl _) _⟩
          · have e4 : decide (n ≤ 999) = false := by simp; omega
            clear h h5 h0
            go_enter Tryz.func102, Tryz.ntmps102
            go_wp2_with fail
            go_ret
            exact ⟨rfl, (Below.refl _ _).alloc (Nat.le_refl _) _⟩
        · have e4 : decide (0 ≤ n) = false := by simp; omega
          clear h h4 h0
          go_enter Tryz.func102, Tryz.ntmps102
          go_wp2_with fail
          go_ret
          exact ⟨rfl, (Below.refl _ _).alloc (Nat.le_refl _) _⟩
      · have e4 : decide (k < 5) = false := by simp; omega
        clear h h3 h0
        go_enter Tryz.func102, Tryz.ntmps102
        go_wp2_with fail
        go_ret
        exact ⟨rfl, (Below.refl _ _).alloc (Nat.le_refl _) _⟩
    · have e4 : decide (0 ≤ k) = false := by simp; omega
      clear h h2 h0
      go_enter Tryz.func102, Tryz.ntmps102
      go_wp2_with fail
      go_ret
      exact ⟨rfl, (Below.refl _ _).alloc (Nat.le_refl _) _⟩
theorem staged_any (k n : Int) (b : ByteArray) (w : World) (r : Bool) (h : r = true ↔ mayS k n b) :
    Calls Tryz.prog 102 #[.agg #[.int .i64 k, .int .i64 n, .string b]] w fun e w' => e = .returned (.bool r) ∧ Below w.heap.size w w' := by
  cases r with
  | true => exact staged_yes k n b w (h.1 rfl)
  | false => exact staged_no k n b w (fun hm => by cases h.2 hm)
end Go.Proofs.YtaonifdfhlbaiaaGreatDoor.En

/- What entry asks of an entry: rest and Check. -/
namespace Go.Proofs.YtaonifdfhlbaiaaGreatDoor.En
open Go.RowKit
open Go.Lib (hid)
/-- are two pages the same? -/
def pageB (a b a' b' : Int) (c c' : ByteArray) : Bool := a == a' && (b == b' && c.toList == c'.toList)
theorem eq23 (a b a' b' : Int) (c c' : ByteArray) (w : World) :
    (binOp .eql 62 (.agg #[.int .i64 a, .int .i64 b, .string c]) (.agg #[.int .i64 a', .int .i64 b', .string c'])).run Tryz.prog w = .ok (.bool (pageB a b a' b' c c')) w := by
  have ht : Tryz.prog.underlying 62 = some (.struct (Tryz.prog.fieldsOf 62)) := by kernel_rfl
  have hp : Tryz.prog.stoodInHeld 62 = false := by kernel_rfl
  rw [run_eql_struct, show (10000 : Nat) = 9999 + 1 from rfl, run_equalIn_struct _ _ _ _ _ ht hp]
  simp only [Program.fieldsOf, Tryz.underlying62]
  unfold pageB
  by_cases h1 : a = a'
  · by_cases h2 : b = b'
    · by_cases h3 : c.toList = c'.toList <;> simp [Op.eqFields, go_sem, h1, h2, h3]
    · simp [Op.eqFields, go_sem, h1, h2]
  · simp [Op.eqFields, go_sem, h1]
/-- no page -/
def noP (pk pn : Int) (b : ByteArray) : Bool := pageB pk pn 0 0 b ⟨#[]⟩
/-- what is not alike in all kinds -/
def restP (kd ix pk pn : Int) (b : ByteArray) (ct sm : Int) : Prop :=
  (kd = 1 ∧ mayS pk pn b ∧ ct = 0 ∧ sm = 0) ∨ (kd = 2 ∧ 1 ≤ ct ∧ ct = ix ∧ noP pk pn b = true) ∨ (kd = 3 ∧ noP pk pn b = true ∧ ct = 0 ∧ sm = 0)
theorem ent_cells {kd tx ix pk pn ct sm : Int} {b : ByteArray} {w w' : World} (hb : Below (w.alloc (.cells #[.int .i64 kd, .int .i64 tx, .int .i64 ix, .int .i64 pk, .int .i64 pn, .string b, .int .i64 ct, .int .u32 sm] 72)).heap.size (w.alloc (.cells #[.int .i64 kd, .int .i64 tx, .int .i64 ix, .int .i64 pk, .int .i64 pn, .string b, .int .i64 ct, .int .u32 sm] 72)) w') :
    w'.cell? ⟨w.heap.size, 6, none⟩ = some (.int .i64 ct) ∧ w'.cell? ⟨w.heap.size, 7, none⟩ = some (.int .u32 sm) := by
  constructor
  · rw [hb.cell (p := ⟨w.heap.size, 6, none⟩) (by simp), cell_of_row _ _ _ _ _ _ (heap_alloc_new _ _)]; rfl
  · rw [hb.cell (p := ⟨w.heap.size, 7, none⟩) (by simp), cell_of_row _ _ _ _ _ _ (heap_alloc_new _ _)]; rfl
set_option maxHeartbeats 1000000 in
theorem rest1_st (tx ix pk pn ct sm : Int) (b : ByteArray) (w : World) (h : ¬ mayS pk pn b) :
    Calls Tryz.prog 78 #[.agg #[.int .i64 1, .int .i64 tx, .int .i64 ix, .int .i64 pk, .int .i64 pn, .string b, .int .i64 ct, .int .u32 sm]] w fun e w' => e = .returned (.bool false) ∧ Below w.heap.size w w' := by
  have H := hid (show false = true ↔ mayS pk pn b from ⟨(fun h' => nomatch h'), (fun h' => absurd h' h)⟩); clear h
  go_enter Tryz.func78, Tryz.ntmps78
  go_wp2_with (go_at_call 102; refine (staged_any pk pn b _ false H.out).mono ?_; rintro e w' ⟨rfl, hb⟩; have c6 := (ent_cells hb).1; have c7 := (ent_cells hb).2; have HB := hid hb; clear hb)
  go_ret
  exact ⟨rfl, ((Below.refl _ _).alloc (Nat.le_refl _) _).trans (HB.out.mono (by simp))⟩
set_option maxHeartbeats 1000000 in
theorem rest1_ct (tx ix pk pn ct sm : Int) (b : ByteArray) (w : World) (h : mayS pk pn b) (hc : ct ≠ 0) :
    Calls Tryz.prog 78 #[.agg #[.int .i64 1, .int .i64 tx, .int .i64 ix, .int .i64 pk, .int .i64 pn, .string b, .int .i64 ct, .int .u32 sm]] w fun e w' => e = .returned (.bool false) ∧ Below w.heap.size w w' := by
  have H := hid (show true = true ↔ mayS pk pn b from ⟨fun _ => h, fun _ => rfl⟩); clear h
  have e0 : (ct == 0) = false := by simpa using hc
  clear hc
  go_enter Tryz.func78, Tryz.ntmps78
  go_wp2_with (go_at_call 102; refine (staged_any pk pn b _ true H.out).mono ?_; rintro e w' ⟨rfl, hb⟩; have c6 := (ent_cells hb).1; have c7 := (ent_cells hb).2; have HB := hid hb; clear hb)
  go_ret
  exact ⟨rfl, ((Below.refl _ _).alloc (Nat.le_refl _) _).trans (HB.out.mono (by simp))⟩
set_option maxHeartbeats 1000000 in
theorem rest1_sm (tx ix pk pn ct sm : Int) (b : ByteArray) (w : World) (h : mayS pk pn b) (hc : sm ≠ 0) :
    Calls Tryz.prog 78 #[.agg #[.int .i64 1, .int .i64 tx, .int .i64 ix, .int .i64 pk, .int .i64 pn, .string b, .int .i64 ct, .int .u32 sm]] w fun e w' => e = .returned (.bool false) ∧ Below w.heap.size w w' := by
  have H := hid (show true = true ↔ mayS pk pn b from ⟨fun _ => h, fun _ => rfl⟩); clear h
  have e0 : (sm == 0) = false := by simpa using hc
  clear hc
  by_cases hz : ct = 0
  · subst hz
    go_enter Tryz.func78, Tryz.ntmps78
    go_wp2_with (go_at_call 102; refine (staged_any pk pn b _ true H.out).mono ?_; rintro e w' ⟨rfl, hb⟩; have c6 := (ent_cells hb).1; have c7 := (ent_cells hb).2; have HB := hid hb; clear hb)
    go_ret
    exact ⟨rfl, ((Below.refl _ _).alloc (Nat.le_refl _) _).trans (HB.out.mono (by simp))⟩
  · have e1 : (ct == 0) = false := by simpa using hz
    clear hz
    go_enter Tryz.func78, Tryz.ntmps78
    go_wp2_with (go_at_call 102; refine (staged_any pk pn b _ true H.out).mono ?_; rintro e w' ⟨rfl, hb⟩; have c6 := (ent_cells hb).1; have c7 := (ent_cells hb).2; have HB := hid hb; clear hb)
    go_ret
    exact ⟨rfl, ((Below.refl _ _).alloc (Nat.le_refl _) _).trans (HB.out.mono (by simp))⟩
set_option maxHeartbeats 1000000 in
theorem rest1_yes (tx ix pk pn : Int) (b : ByteArray) (w : World) (h : mayS pk pn b) :
    Calls Tryz.prog 78 #[.agg #[.int .i64 1, .int .i64 tx, .int .i64 ix, .int .i64 pk, .int .i64 pn, .string b, .int .i64 0, .int .u32 0]] w fun e w' => e = .returned (.bool true) ∧ Below w.heap.size w w' := by
  have H := hid (show true = true ↔ mayS pk pn b from ⟨fun _ => h, fun _ => rfl⟩); clear h
  go_enter Tryz.func78, Tryz.ntmps78
  go_wp2_with (go_at_call 102; refine (staged_any pk pn b _ true H.out).mono ?_; rintro e w' ⟨rfl, hb⟩; have c6 := (ent_cells hb).1; have c7 := (ent_cells hb).2; have HB := hid hb; clear hb)
  go_ret
  exact ⟨rfl, ((Below.refl _ _).alloc (Nat.le_refl _) _).trans (HB.out.mono (by simp))⟩
set_option maxHeartbeats 1000000 in
theorem rest3_np (tx ix pk pn ct sm : Int) (b : ByteArray) (w : World) (h : noP pk pn b = false) :
    Calls Tryz.prog 78 #[.agg #[.int .i64 3, .int .i64 tx, .int .i64 ix, .int .i64 pk, .int .i64 pn, .string b, .int .i64 ct, .int .u32 sm]] w fun e w' => e = .returned (.bool false) ∧ Below w.heap.size w w' := by
  have heq := eq23
  have hp : pageB pk pn 0 0 b ⟨#[]⟩ = false := h
  clear h
  go_enter Tryz.func78, Tryz.ntmps78
  go_wp2_with fail
  go_ret
  exact ⟨rfl, (Below.refl _ _).alloc (Nat.le_refl _) _⟩
set_option maxHeartbeats 1000000 in
theorem rest3_ct (tx ix pk pn ct sm : Int) (b : ByteArray) (w : World) (h : noP pk pn b = true) (hc : ct ≠ 0) :
    Calls Tryz.prog 78 #[.agg #[.int .i64 3, .int .i64 tx, .int .i64 ix, .int .i64 pk, .int .i64 pn, .string b, .int .i64 ct, .int .u32 sm]] w fun e w' => e = .returned (.bool false) ∧ Below w.heap.size w w' := by
  have heq := eq23
  have hp : pageB pk pn 0 0 b ⟨#[]⟩ = true := h
  clear h
  have e0 : (ct == 0) = false := by simpa using hc
  clear hc
  go_enter Tryz.func78, Tryz.ntmps78
  go_wp2_with fail
  go_ret
  exact ⟨rfl, (Below.refl _ _).alloc (Nat.le_refl _) _⟩
set_option maxHeartbeats 1000000 in
theorem rest3_sm (tx ix pk pn ct sm : Int) (b : ByteArray) (w : World) (h : noP pk pn b = true) (hc : ct = 0) (hs : sm ≠ 0) :
    Calls Tryz.prog 78 #[.agg #[.int .i64 3, .int .i64 tx, .int .i64 ix, .int .i64 pk, .int .i64 pn, .string b, .int .i64 ct, .int .u32 sm]] w fun e w' => e = .returned (.bool false) ∧ Below w.heap.size w w' := by
  have heq := eq23
  have hp : pageB pk pn 0 0 b ⟨#[]⟩ = true := h
  clear h
  subst hc
  have e1 : (sm == 0) = false := by simpa using hs
  clear hs
  go_enter Tryz.func78, Tryz.ntmps78
  go_wp2_with fail
  go_ret
  exact ⟨rfl, (Below.refl _ _).alloc (Nat.le_refl _) _⟩
set_option maxHeartbeats 1000000 in
theorem rest3_yes (tx ix pk pn ct sm : Int) (b : ByteArray) (w : World) (h : noP pk pn b = true) (hc : ct = 0) (hs : sm = 0) :
    Calls Tryz.prog 78 #[.agg #[.int .i64 3, .int .i64 tx, .int .i64 ix, .int .i64 pk, .int .i64 pn, .string b, .int .i64 ct, .int .u32 sm]] w fun e w' => e = .returned (.bool true) ∧ Below w.heap.size w w' := by
  have heq := eq23
  have hp : pageB pk pn 0 0 b ⟨#[]⟩ = true := h
  clear h
  subst hc hs
  go_enter Tryz.func78, Tryz.ntmps78
  go_wp2_with fail
  go_ret
  exact ⟨rfl, (Below.refl _ _).alloc (Nat.le_refl _) _⟩
set_option maxHeartbeats 1000000 in
theorem rest2_lo (tx ix pk pn ct sm : Int) (b : ByteArray) (w : World) (hc : ¬ 1 ≤ ct) :
    Calls Tryz.prog 78 #[.agg #[.int .i64 2, .int .i64 tx, .int .i64 ix, .int .i64 pk, .int .i64 pn, .string b, .int .i64 ct, .int .u32 sm]] w fun e w' => e = .returned (.bool false) ∧ Below w.heap.size w w' := by
  have e0 : decide (1 ≤ ct) = false := by simpa using hc
  clear hc
  go_enter Tryz.func78, Tryz.ntmps78
  go_wp2_with fail
  go_ret
  exact ⟨rfl, (Below.refl _ _).alloc (Nat.le_refl _) _⟩
set_option maxHeartbeats 1000000 in
theorem rest2_ix (tx ix pk pn ct sm : Int) (b : ByteArray) (w : World) (hc : 1 ≤ ct) (hi : ct ≠ ix) :
    Calls Tryz.prog 78 #[.agg #[.int .i64 2, .int .i64 tx, .int .i64 ix, .int .i64 pk, .int .i64 pn, .string b, .int .i64 ct, .int .u32 sm]] w fun e w' => e = .returned (.bool false) ∧ Below w.heap.size w w' := by
  have e0 : decide (1 ≤ ct) = true := by simpa using hc
  clear hc
  have e1 : (ct == ix) = false := by simpa using hi
  clear hi
  go_enter Tryz.func78, Tryz.ntmps78
  go_wp2_with fail
  go_ret
  exact ⟨rfl, (Below.refl _ _).alloc (Nat.le_refl _) _⟩
set_option maxHeartbeats 1000000 in
theorem rest2_pg (tx ix pk pn ct sm : Int) (b : ByteArray) (w : World) (hc : 1 ≤ ct) (hi : ct = ix) (r : Bool) (h : noP pk pn b = r) :
    Calls Tryz.prog 78 #[.agg #[.int .i64 2, .int .i64 tx, .int .i64 ix, .int .i64 pk, .int .i64 pn, .string b, .int .i64 ct, .int .u32 sm]] w fun e w' => e = .returned (.bool r) ∧ Below w.heap.size w w' := by
  have heq := eq23
  have hp : pageB pk pn 0 0 b ⟨#[]⟩ = r := h
  clear h
  subst hi
  have e0 : decide (1 ≤ ct) = true := by simpa using hc
  clear hc
  go_enter Tryz.func78, Tryz.ntmps78
  go_wp2_with fail
  go_ret
  exact ⟨rfl, (Below.refl _ _).alloc (Nat.le_refl _) _⟩
set_option maxHeartbeats 1000000 in
theorem rest_kd (kd tx ix pk pn ct sm : Int) (b : ByteArray) (w : World) (h1 : kd ≠ 1) (h2 : kd ≠ 2) (h3 : kd ≠ 3) :
    Calls Tryz.prog 78 #[.agg #[.int .i64 kd, .int .i64 tx, .int .i64 ix, .int .i64 pk, .int .i64 pn, .string b, .int .i64 ct, .int .u32 sm]] w fun e w' => e = .returned (.bool false) ∧ Below w.heap.size w w' := by
  have e1 : (kd == 1) = false := by simpa using h1
  have e2 : (kd == 2) = false := by simpa using h2
  have e3 : (kd == 3) = false := by simpa using h3
  clear h1 h2 h3
  go_enter Tryz.func78, Tryz.ntmps78
  go_wp2_with fail
  go_ret
  exact ⟨rfl, (Below.refl _ _).alloc (Nat.le_refl _) _⟩
end Go.Proofs.YtaonifdfhlbaiaaGreatDoor.En
