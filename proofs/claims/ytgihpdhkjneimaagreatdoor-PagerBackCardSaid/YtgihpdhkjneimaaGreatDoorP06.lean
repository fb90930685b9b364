/- Merged out of DkBase, DkSmall, DkOf, DkNew, DkCome, DkForget. -/
import Derived.Test.YtgihpdhkjneimaaGreatDoorP03
import Derived.Laws.AppendOwn
import Derived.Deep.QuietTactic
import Derived.BigQuiet
import Derived.Laws.CopyOwn
import Derived.Lib.SliceRun
/- A disk in memory: its blocks, what they hold, and what may turn of it. -/
namespace Go.Proofs.YtgihpdhkjneimaaGreatDoor.Dk
open Go.RowKit
open Go.Lib (hid)

/-- a disk's state: pages, writes that wait, fuse, counts -/
structure St where
  pages : List ByteArray
  waits : List (Nat × ByteArray)
  fuse : Int
  reads : Int
  writes : Int
  flushes : Int

/-- where a disk stands: its struct's block, its pages' block and how many have room there, and the slice of its waits -/
structure Ptrs where
  D : Nat
  P : Nat
  cp : Nat
  wv : Value

def Foot (d : Ptrs) (k : Nat) : Prop := k = d.D ∨ k = d.P ∨ d.wv.ownBlock = some k

/-- texts as cells -/
def sv (l : List ByteArray) : List Value := l.map Value.string
/-- writes as cells -/
def wcells (l : List (Nat × ByteArray)) : List Value := l.flatMap fun p => [.int .i64 p.1, .string p.2]
theorem sv_length (l : List ByteArray) : (sv l).length = l.length := by simp [sv]
theorem wcells_length (l : List (Nat × ByteArray)) : (wcells l).length = l.length * 2 := by
  induction l with
  | nil => rfl
  | cons p l ih => simp only [wcells, List.flatMap_cons, List.length_append, List.length_cons, List.length_nil] at ih ⊢; omega

/-- a state as it may be -/
structure Good (s : St) : Prop where
  n1 : 1 ≤ s.pages.length
  n2 : s.pages.length ≤ 1000
  sizes : ∀ p ∈ s.pages, p.size = 256
  wait : ∀ x ∈ s.waits, x.1 < s.pages.length ∧ x.2.size = 256
  few : s.waits.length ≤ 1000000
  fuse : -1 ≤ s.fuse ∧ s.fuse ≤ 9223372036854775807
  reads : 0 ≤ s.reads ∧ s.reads ≤ 1000000
  writes : 0 ≤ s.writes ∧ s.writes ≤ 1000000
  flushes : 0 ≤ s.flushes ∧ s.flushes ≤ 1000000

structure Dsk (w : World) (d : Ptrs) (s : St) : Prop where
  head : w.heap[d.D]? = some (.cells #[.slice (some ⟨d.P, 0, none⟩) s.pages.length d.cp, d.wv, .int .i64 s.fuse, .int .i64 s.reads, .int .i64 s.writes, .int .i64 s.flushes] 89 (0, 0))
  pages : ∃ cur, w.heap[d.P]? = some (.cells cur 9 (0, 0)) ∧ cur.size = d.cp ∧ s.pages.length ≤ d.cp ∧ d.cp ≤ maxLen ∧ cur.toList.take s.pages.length = sv s.pages
  waits : w.ownsRow 0 99 2 d.wv s.waits.length (wcells s.waits)
  dp : d.D ≠ d.P
  dw : d.wv.ownBlock ≠ some d.D
  pw : d.wv.ownBlock ≠ some d.P
  good : Good s

/-- what may have turned: the disk's own blocks, and nothing else that was there -/
structure Only (d : Ptrs) (w w' : World) : Prop where
  os : w'.os = w.os
  tape : w'.tape = w.tape
  output : w'.output = w.output
  size : w.heap.size ≤ w'.heap.size
  block : ∀ k, k < w.heap.size → ¬ Foot d k → w'.heap[k]? = w.heap[k]?
/-- the disk's blocks are those that it had, or new ones -/
def From (d d' : Ptrs) (w : World) : Prop := ∀ k, Foot d' k → Foot d k ∨ w.heap.size ≤ k

theorem Only.refl (d : Ptrs) (w : World) : Only d w w := ⟨rfl, rfl, rfl, Nat.le_refl _, fun _ _ _ => rfl⟩
theorem From.refl (d : Ptrs) (w : World) : From d d w := fun _ h => .inl h
theorem Only.trans {d d' : Ptrs} {w w1 w2 : World} (h : Only d w w1) (hf : From d d' w) (g : Only d' w1 w2) : Only d w w2 :=
  ⟨g.os.trans h.os, g.tape.trans h.tape, g.output.trans h.output, Nat.le_trans h.size g.size, fun k hk hn => by
    have hn' : ¬ Foot d' k := fun hk' => by
      rcases hf k hk' with h1 | h1
      · exact hn h1
      · omega
    rw [g.block k (Nat.lt_of_lt_of_le hk h.size) hn', h.block k hk hn]⟩
theorem From.trans {d d' d2 : Ptrs} {w w1 : World} (h : From d d' w) (g : From d' d2 w1) (hs : w.heap.size ≤ w1.heap.size) : From d d2 w := fun k hk => by
  rcases g k hk with h1 | h1
  · exact h k h1
  · exact .inr (Nat.le_trans hs h1)
theorem Only.below {d : Ptrs} {w w1 : World} (h : Below w.heap.size w w1) : Only d w w1 := ⟨h.os, h.tape, h.output, h.size, fun k hk _ => h.block k hk⟩
theorem Only.to_below {d : Ptrs} {w w1 : World} {N : Nat} (h : Only d w w1) (hN : N ≤ w.heap.size) (hf : ∀ k, Foot d k → N ≤ k) : Below N w w1 :=
  ⟨h.os, h.tape, h.output, h.size, fun k hk => h.block k (Nat.lt_of_lt_of_le hk hN) (fun hk' => by have := hf k hk'; omega)⟩

theorem Dsk.ltD {w : World} {d : Ptrs} {s : St} (h : Dsk w d s) : d.D < w.heap.size := (Array.getElem?_eq_some_iff.1 h.head).1
theorem Dsk.ltP {w : World} {d : Ptrs} {s : St} (h : Dsk w d s) : d.P < w.heap.size := by
  obtain ⟨cur, hc, _⟩ := h.pages; exact (Array.getElem?_eq_some_iff.1 hc).1
theorem Dsk.lt {w : World} {d : Ptrs} {s : St} (h : Dsk w d s) : ∀ k, Foot d k → k < w.heap.size := by
  rintro k (rfl | rfl | hk)
  · exact h.ltD
  · exact h.ltP
  · exact (h.waits.lt k hk).2
/-- what leaves a disk's blocks alone leaves the disk -/
theorem Dsk.kept {w w' : World} {d : Ptrs} {s : St} (h : Dsk w d s) (hb : ∀ k, Foot d k → w'.heap[k]? = w.heap[k]?) : Dsk w' d s := by
  refine ⟨by rw [hb _ (.inl rfl)]; exact h.head, ?_, ?_, h.dp, h.dw, h.pw, h.good⟩
  · rw [hb _ (.inr (.inl rfl))]; exact h.pages
  · refine ⟨h.waits.1, ?_⟩
    rcases h.waits.2 with hn | ⟨g, cap, cur, hv, hb0, hg, rest⟩
    · exact .inl hn
    · refine .inr ⟨g, cap, cur, hv, hb0, ?_, rest⟩
      rw [hb g (.inr (.inr (by rw [hv]; rfl)))]; exact hg
theorem Dsk.below {w w' : World} {d : Ptrs} {s : St} (h : Dsk w d s) (hb : Below w.heap.size w w') : Dsk w' d s := h.kept fun k hk => hb.block k (h.lt k hk)
theorem Dsk.drew {w : World} {d : Ptrs} {s : St} (h : Dsk w d s) : Dsk w.drew d s := ⟨h.head, h.pages, h.waits, h.dp, h.dw, h.pw, h.good⟩
theorem Dsk.drewN {w : World} {d : Ptrs} {s : St} (h : Dsk w d s) (n : Nat) : Dsk (w.drewN n) d s := ⟨h.head, h.pages, h.waits, h.dp, h.dw, h.pw, h.good⟩
theorem Dsk.other {w w' : World} {d d2 : Ptrs} {s : St} (h : Dsk w d s) (ho : Only d2 w w') (hd : ∀ k, Foot d k → ¬ Foot d2 k) : Dsk w' d s :=
  h.kept fun k hk => ho.block k (h.lt k hk) (hd k hk)

/-- the struct's cells -/
theorem Dsk.cells {w : World} {d : Ptrs} {s : St} (h : Dsk w d s) :
    w.cell? ⟨d.D, 0, none⟩ = some (.slice (some ⟨d.P, 0, none⟩) s.pages.length d.cp) ∧ w.cell? ⟨d.D, 1, none⟩ = some d.wv ∧ w.cell? ⟨d.D, 2, none⟩ = some (.int .i64 s.fuse) ∧
    w.cell? ⟨d.D, 3, none⟩ = some (.int .i64 s.reads) ∧ w.cell? ⟨d.D, 4, none⟩ = some (.int .i64 s.writes) ∧ w.cell? ⟨d.D, 5, none⟩ = some (.int .i64 s.flushes) := by
  refine ⟨?_, ?_, ?_, ?_, ?_, ?_⟩ <;> rw [cell_of_row _ _ _ _ _ _ h.head] <;> rfl
theorem Dsk.free {w : World} {d : Ptrs} {s : St} (h : Dsk w d s) (i : Nat) : w.frozen? ⟨d.D, i, none⟩ = false := frozen_of_row _ _ _ _ _ h.head
/-- a page's cell -/
theorem Dsk.page {w : World} {d : Ptrs} {s : St} (h : Dsk w d s) (i : Nat) (hi : i < s.pages.length) : w.cell? ⟨d.P, i, none⟩ = some (.string s.pages[i]) := by
  obtain ⟨cur, hc, _, _, _, ht⟩ := h.pages
  rw [cell_of_row _ _ _ _ _ _ hc]
  have e : (cur.toList.take s.pages.length)[i]? = (sv s.pages)[i]? := by rw [ht]
  rw [List.getElem?_take_of_lt hi] at e
  simp [sv, hi] at e
  simpa using e
theorem Dsk.pfree {w : World} {d : Ptrs} {s : St} (h : Dsk w d s) (i : Nat) : w.frozen? ⟨d.P, i, none⟩ = false := by
  obtain ⟨cur, hc, _⟩ := h.pages
  exact frozen_of_row _ _ _ _ _ hc

/-- a field of the struct is stored -/
theorem Dsk.store {w : World} {d : Ptrs} {s : St} (h : Dsk w d s) (i : Nat) (v : Value) (s' : St) (hp : s'.pages = s.pages) (hw : s'.waits = s.waits) (hg : Good s')
    (hc : (#[.slice (some ⟨d.P, 0, none⟩) s.pages.length d.cp, d.wv, .int .i64 s.fuse, .int .i64 s.reads, .int .i64 s.writes, .int .i64 s.flushes] : Array Value).setIfInBounds i v =
      #[.slice (some ⟨d.P, 0, none⟩) s.pages.length d.cp, d.wv, .int .i64 s'.fuse, .int .i64 s'.reads, .int .i64 s'.writes, .int .i64 s'.flushes]) :
    Dsk (w.setCell ⟨d.D, i, none⟩ v) d s' := by
  have ho : ∀ k, k ≠ d.D → (w.setCell ⟨d.D, i, none⟩ v).heap[k]? = w.heap[k]? := fun k hk => heap_setCell_other _ _ _ _ hk
  refine ⟨?_, ?_, ?_, h.dp, h.dw, h.pw, hg⟩
  · rw [heap_setCell_same _ _ _ _ _ _ h.head, hc, hp]
  · rw [hp, ho _ (Ne.symm h.dp)]; exact h.pages
  · rw [hw]
    refine ⟨h.waits.1, ?_⟩
    rcases h.waits.2 with hn | ⟨g, cap, cur, hv, hb0, hg, rest⟩
    · exact .inl hn
    · refine .inr ⟨g, cap, cur, hv, hb0, ?_, rest⟩
      rw [ho g (fun e => h.dw (by rw [hv, e]; rfl))]; exact hg
theorem Only.store {d : Ptrs} {w w1 : World} (h : Only d w w1) (i : Nat) (v : Value) : Only d w (w1.setCell ⟨d.D, i, none⟩ v) :=
  ⟨h.os, h.tape, h.output, by rw [World.size_setCell]; exact h.size, fun k hk hn => by rw [heap_setCell_other _ _ _ _ (fun e => hn (.inl e)), h.block k hk hn]⟩
end Go.Proofs.YtgihpdhkjneimaaGreatDoor.Dk

/- The small calls of disk: what each returns, and what the disk is behind it. -/
namespace Go.Proofs.YtgihpdhkjneimaaGreatDoor.Dk
open Go.RowKit
open Go.Lib (hid)

set_option maxHeartbeats 400000 in
theorem size_ok (d : Ptrs) (s : St) (w : World) (h : Dsk w d s) :
    Calls Tryz.prog 75 #[.pointer (some ⟨d.D, 0, none⟩)] w fun e w' => e = .returned (.int .i64 (s.pages.length : Int)) ∧ w = w' := by
  have c := h.cells
  have hg := h.good.n2
  have HS := hid h; clear h
  go_enter Tryz.func75, Tryz.ntmps75
  go_wp2_with fail
  go_ret
  exact ⟨rfl, rfl⟩
set_option maxHeartbeats 400000 in
theorem size_nil (w : World) :
    Calls Tryz.prog 75 #[.pointer none] w fun e w' => e = .returned (.int .i64 0) ∧ w = w' := by
  go_enter Tryz.func75, Tryz.ntmps75
  go_wp2_with fail
  go_ret
  exact ⟨rfl, rfl⟩
set_option maxHeartbeats 400000 in
theorem has_ok (d : Ptrs) (s : St) (n : Int) (w : World) (h : Dsk w d s) :
    Calls Tryz.prog 123 #[.pointer (some ⟨d.D, 0, none⟩), .int .i64 n] w fun e w' => e = .returned (.bool (decide (0 ≤ n ∧ n < s.pages.length))) ∧ w = w' := by
  have HS := hid h; clear h
  by_cases h0 : 0 ≤ n
  · by_cases h1 : n < s.pages.length
    · have e1 : decide (n < (s.pages.length : Int)) = true := by simpa using h1
      have e2 : decide (0 ≤ n ∧ n < (s.pages.length : Int)) = true := by simp; omega
      rw [e2]
      clear e2
      go_enter Tryz.func123, Tryz.ntmps123
      go_wp2_with (go_at_call 75; refine (size_ok d s _ HS.out).mono ?_; rintro e w' ⟨rfl, rfl⟩)
      go_ret
      exact ⟨rfl, rfl⟩
    · have e1 : decide (n < (s.pages.length : Int)) = false := by simpa using h1
      have e2 : decide (0 ≤ n ∧ n < (s.pages.length : Int)) = false := by simp; omega
      rw [e2]
      clear e2 h1
      go_enter Tryz.func123, Tryz.ntmps123
      go_wp2_with (go_at_call 75; refine (size_ok d s _ HS.out).mono ?_; rintro e w' ⟨rfl, rfl⟩)
      go_ret
      exact ⟨rfl, rfl⟩
  · have e1 : decide (0 ≤ n) = false := by simpa using h0
    have e2 : decide (0 ≤ n ∧ n < (s.pages.length : Int)) = false := by simp; omega
    rw [e2]
    clear e2 h0
    go_enter Tryz.func123, Tryz.ntmps123
    go_wp2_with fail
    go_ret
    exact ⟨rfl, rfl⟩
set_option maxHeartbeats 400000 in
theorem has_nil (n : Int) (w : World) :
    Calls Tryz.prog 123 #[.pointer none, .int .i64 n] w fun e w' => e = .returned (.bool false) ∧ w = w' := by
  by_cases h0 : 0 ≤ n
  · have e1 : decide (n < 0) = false := by simp; omega
    go_enter Tryz.func123, Tryz.ntmps123
    go_wp2_with (go_at_call 75; refine (size_nil _).mono ?_; rintro e w' ⟨rfl, rfl⟩)
    go_ret
    exact ⟨rfl, rfl⟩
  · have e1 : decide (0 ≤ n) = false := by simpa using h0
    clear h0
    go_enter Tryz.func123, Tryz.ntmps123
    go_wp2_with fail
    go_ret
    exact ⟨rfl, rfl⟩
set_option maxHeartbeats 400000 in
theorem dead_ok (d : Ptrs) (s : St) (w : World) (h : Dsk w d s) :
    Calls Tryz.prog 124 #[.pointer (some ⟨d.D, 0, none⟩)] w fun e w' => e = .returned (.bool (s.fuse == 0)) ∧ w = w' := by
  have c := h.cells
  have HS := hid h; clear h
  go_enter Tryz.func124, Tryz.ntmps124
  go_wp2_with fail
  go_ret
  exact ⟨rfl, rfl⟩
/-- a step of the fuse -/
def burnI (f : Int) : Int := if 0 < f then f - 1 else f
def burnS (s : St) : St := { s with fuse := burnI s.fuse }
theorem burn_good {s : St} (h : Good s) : Good (burnS s) := by
  refine ⟨h.n1, h.n2, h.sizes, h.wait, h.few, ?_, h.reads, h.writes, h.flushes⟩
  have := h.fuse
  show -1 ≤ burnI s.fuse ∧ burnI s.fuse ≤ _
  unfold burnI; split <;> omega
set_option maxHeartbeats 400000 in
theorem burn_ok (d : Ptrs) (s : St) (w : World) (h : Dsk w d s) :
    Calls Tryz.prog 125 #[.pointer (some ⟨d.D, 0, none⟩)] w fun e w' => e = .returned (.tuple #[]) ∧ Dsk w' d (burnS s) ∧ Only d w w' := by
  have c := h.cells
  have f := h.free 2
  have hg := h.good.fuse
  by_cases hf : 0 < s.fuse
  · have hd : Dsk (w.setCell ⟨d.D, 2, none⟩ (.int .i64 (s.fuse - 1))) d (burnS s) :=
      h.store 2 _ (burnS s) rfl rfl (burn_good h.good) (by simp [burnS, burnI, hf])
    have HS := hid (And.intro hd ((Only.refl d w).store 2 (.int .i64 (s.fuse - 1)))); clear h hd
    go_enter Tryz.func125, Tryz.ntmps125
    go_wp2_with fail
    refine bodyPost_end (v := .tuple #[]) (by simp [results, Tryz.results125, go_sem]) rfl ⟨rfl, ?_⟩
    exact HS.out
  · have e : burnS s = s := by unfold burnS burnI; rw [if_neg hf]
    have HS := hid h; clear h
    rw [e]
    go_enter Tryz.func125, Tryz.ntmps125
    go_wp2_with fail
    refine bodyPost_end (v := .tuple #[]) (by simp [results, Tryz.results125, go_sem]) rfl ⟨rfl, ?_⟩
    exact ⟨HS.out, Only.refl _ _⟩
set_option maxHeartbeats 400000 in
theorem own_ok (t : ByteArray) (w : World) (h : t.size ≤ 1000000) :
    Calls Tryz.prog 72 #[.string t] w fun e w' => e = .returned (.string t) ∧ Below w.heap.size w w' := by
  have h2 : t.size ≤ 281474976710656 := by omega
  have H := hid h2; clear h h2
  go_enter Tryz.func72, Tryz.ntmps72
  go_wp2_with (first
    | (go_at_call 130; refine (Tryz.stringslite_Clone t _ H.out).mono ?_; rintro e w' ⟨rfl, hb⟩; have HB := hid hb; clear hb)
    | go_in)
  go_ret
  exact ⟨rfl, HB.out⟩

set_option maxHeartbeats 400000 in
theorem counts_ok (d : Ptrs) (s : St) (w : World) (h : Dsk w d s) :
    Calls Tryz.prog 30 #[.pointer (some ⟨d.D, 0, none⟩)] w fun e w' => e = .returned (.tuple #[.int .i64 s.reads, .int .i64 s.writes, .int .i64 s.flushes]) ∧ ∃ n, w' = w.drewN n := by
  have c := h.cells
  have HS := hid h; clear h
  go_enter Tryz.func30, Tryz.ntmps30
  go_wp2_with fail
  go_quiet (fail)
  go_wp2_with fail
  refine bodyPost_ret (v := .tuple #[.int .i64 s.reads, .int .i64 s.writes, .int .i64 s.flushes]) (by simp [results, Tryz.results30, go_sem]) rfl ⟨rfl, ?_⟩
  exact ⟨_, rfl⟩
set_option maxHeartbeats 400000 in
theorem counts_nil (w : World) :
    Calls Tryz.prog 30 #[.pointer none] w fun e w' => e = .returned (.tuple #[.int .i64 0, .int .i64 0, .int .i64 0]) ∧ w = w' := by
  go_enter Tryz.func30, Tryz.ntmps30
  go_wp2_with fail
  refine bodyPost_ret (v := .tuple #[.int .i64 0, .int .i64 0, .int .i64 0]) (by simp [results, Tryz.results30, go_sem]) rfl ⟨rfl, ?_⟩
  exact rfl
/-- the fuse is made so many steps -/
def fuseS (s : St) (n : Int) : St := { s with fuse := max n (-1) }
theorem fuse_good {s : St} (h : Good s) (n : Int) (hn : n ≤ 9223372036854775807) : Good (fuseS s n) := by
  refine ⟨h.n1, h.n2, h.sizes, h.wait, h.few, ?_, h.reads, h.writes, h.flushes⟩
  show -1 ≤ max n (-1) ∧ max n (-1) ≤ _
  omega
set_option maxHeartbeats 400000 in
theorem fuse_ok (d : Ptrs) (s : St) (n : Int) (w : World) (h : Dsk w d s) (hn : n ≤ 9223372036854775807) :
    Calls Tryz.prog 14 #[.pointer (some ⟨d.D, 0, none⟩), .int .i64 n] w fun e w' => e = .returned (.tuple #[]) ∧ Dsk w' d (fuseS s n) ∧ Only d w w' := by
  have c := h.cells
  have f := h.free 2
  have hd : Dsk (w.setCell ⟨d.D, 2, none⟩ (.int .i64 (max n (-1)))) d (fuseS s n) := h.store 2 _ (fuseS s n) rfl rfl (fuse_good h.good n hn) (by simp [fuseS])
  have HS := hid (And.intro hd ((Only.refl d w).store 2 (.int .i64 (max n (-1))))); clear h hd
  go_enter Tryz.func14, Tryz.ntmps14
  go_wp2_with fail
  refine bodyPost_end (v := .tuple #[]) (by simp [results, Tryz.results14, go_sem]) rfl ⟨rfl, ?_⟩
  exact HS.out
set_option maxHeartbeats 400000 in
theorem fuse_nil (n : Int) (w : World) :
    Calls Tryz.prog 14 #[.pointer none, .int .i64 n] w fun e w' => e = .returned (.tuple #[]) ∧ w = w' := by
  go_enter Tryz.func14, Tryz.ntmps14
  go_wp2_with fail
  refine bodyPost_end (v := .tuple #[]) (by simp [results, Tryz.results14, go_sem]) rfl ⟨rfl, ?_⟩
  exact rfl

set_option maxHeartbeats 400000 in
theorem image_ok (d : Ptrs) (s : St) (w : World) (h : Dsk w d s) :
    Calls Tryz.prog 22 #[.pointer (some ⟨d.D, 0, none⟩)] w fun e w' => ∃ v, e = .returned v ∧ w'.ownsRow w.heap.size 9 1 v s.pages.length (sv s.pages) ∧ Below w.heap.size w w' := by
  have c := h.cells
  have hn := h.good.n2
  have HP : Hid (∀ j, j < s.pages.length → w.cell? ⟨d.P, 0 + j, none⟩ = some (.string (s.pages.getD j ByteArray.empty))) := hid fun j hj => by
    rw [Nat.zero_add, h.page j hj]; simp [hj]
  have HS := hid h; clear h
  go_enter Tryz.func22, Tryz.ntmps22
  go_wp2_with (go_at_call 58; refine (Tryz.slices_Clone_string d.P 0 s.pages.length d.cp s.pages _ (Nat.le_refl _) (by omega) HP.out).mono ?_; rintro e w1 ⟨v, rfl, ho, _, hb⟩; have HO := hid ho; have HB := hid hb; clear ho hb)
  go_ret
  exact ⟨v, rfl, by have := HO.out; rwa [List.take_length] at this, HB.out⟩
set_option maxHeartbeats 400000 in
theorem image_nil (w : World) :
    Calls Tryz.prog 22 #[.pointer none] w fun e w' => e = .returned (.slice none 0 0) ∧ w = w' := by
  go_enter Tryz.func22, Tryz.ntmps22
  go_wp2_with fail
  go_ret
  exact ⟨rfl, rfl⟩

/-- behind clear and a cut, nothing waits -/
def noWaits (s : St) : St := { s with waits := [] }
theorem noWaits_good {s : St} (h : Good s) : Good (noWaits s) :=
  ⟨h.n1, h.n2, h.sizes, (fun _ hx => (List.not_mem_nil hx).elim), (Nat.zero_le _), h.fuse, h.reads, h.writes, h.flushes⟩
end Go.Proofs.YtgihpdhkjneimaaGreatDoor.Dk

/- Of and New of disk. -/
namespace Go.Proofs.YtgihpdhkjneimaaGreatDoor.Dk
open Go.RowKit
open Go.Lib (hid)

/-- a disk of an image, as new -/
def newS (l : List ByteArray) : St := ⟨l, [], -1, 0, 0, 0⟩
theorem newS_good {l : List ByteArray} (h1 : 1 ≤ l.length) (h2 : l.length ≤ 1000) (h3 : ∀ p ∈ l, p.size = 256) : Good (newS l) :=
  ⟨h1, h2, h3, (fun _ hx => (List.not_mem_nil hx).elim), Nat.zero_le _, by show (-1 : Int) ≤ -1 ∧ (-1 : Int) ≤ 9223372036854775807; omega, by show (0 : Int) ≤ 0 ∧ (0 : Int) ≤ 1000000; omega, by show (0 : Int) ≤ 0 ∧ (0 : Int) ≤ 1000000; omega, by show (0 : Int) ≤ 0 ∧ (0 : Int) ≤ 1000000; omega⟩

/-- a copy of a list of texts, in a row of its own -/
theorem clone_row (b off n c : Nat) (zs : List ByteArray) (w : World) (hn : zs.length = n) (h1 : 1 ≤ n) (h2 : n ≤ 1000)
    (hc : ∀ j, j < zs.length → w.cell? ⟨b, off + j, none⟩ = some (.string (zs.getD j ByteArray.empty))) :
    Calls Tryz.prog 58 #[.slice (some ⟨b, off, none⟩) n c] w fun e w' => ∃ g cap cur, e = .returned (.slice (some ⟨g, 0, none⟩) n cap) ∧ w.heap.size ≤ g ∧ w'.heap[g]? = some (.cells cur 9 (0, 0)) ∧ n ≤ cap ∧ cap ≤ maxLen ∧ cur.size = cap ∧ cur.toList.take n = sv zs ∧ Below w.heap.size w w' := by
  refine (Tryz.slices_Clone_string b off n c zs _ (by omega) (by omega) hc).mono ?_
  rintro e w1 ⟨v, rfl, ho, hne, hb⟩
  rcases ho.2 with ⟨hv, _⟩ | ⟨g, cap, cur, rfl, h3, h4, h5, h6, h7, h8⟩
  · exact absurd hv hne
  · refine ⟨g, cap, cur, rfl, h3, h4, h5, h6, by omega, ?_, hb⟩
    have e : zs.take n = zs := List.take_of_length_le (by omega)
    rw [Nat.mul_one, e] at h8
    exact h8

set_option maxRecDepth 100000 in
set_option maxHeartbeats 1000000 in
theorem of_ok (b off n c : Nat) (zs : List ByteArray) (w : World) (hn : zs.length = n) (h1 : 1 ≤ n) (h2 : n ≤ 1000) (h3 : ∀ p ∈ zs, p.size = 256)
    (hc : ∀ j, j < zs.length → w.cell? ⟨b, off + j, none⟩ = some (.string (zs.getD j ByteArray.empty))) :
    Calls Tryz.prog 31 #[.slice (some ⟨b, off, none⟩) n c] w fun e w' => ∃ d, e = .returned (.tuple #[.pointer (some ⟨d.D, 0, none⟩), .int .i64 0]) ∧ Dsk w' d (newS zs) ∧ Below w.heap.size w w' ∧ (∀ k, Foot d k → w.heap.size ≤ k) := by
  have HC := hid hc
  have HN := hid hn
  have H3 := hid h3
  clear hc h3 hn
  go_enter Tryz.func31, Tryz.ntmps31
  go_wp2_with (go_at_call 58; refine (clone_row b off n c zs _ HN.out h1 h2 HC.out).mono ?_; rintro e w1 ⟨g, cap, cur, rfl, hgb, hg, hle, hmx, hsz, htk, hb⟩; have HGB := hid hgb; have HG := hid hg; have HSZ := hid hsz; have HT := hid htk; have HB := hid hb; clear hgb hg hsz htk hb)
  have HCUR : Hid (∀ (k : Nat) (hk : k < n), cur[k]? = some (.string (zs[k]'(by have := HN.out; omega)))) := hid fun k hk => by
    have e := congrArg (·[k]?) HT.out
    rw [List.getElem?_take_of_lt hk] at e
    have hk' : k < zs.length := by have := HN.out; omega
    simp [sv, hk'] at e
    simpa using e
  go_loopw [19] (fun i wr => ∃ k : Nat, k ≤ n ∧ i = .int .i64 k ∧ wr.heap[g]? = some (.cells cur 9 (0, 0)) ∧ Below w.heap.size w wr) (fun i _ => n - (intOf i).toNat)
  case atStart => exact ⟨0, by omega, rfl, HG.out, HB.out⟩
  case round =>
    obtain ⟨k, hk, rfl, hgr, hbr⟩ := hrel
    have HGR := hid hgr; have HBR := hid hbr; clear hgr hbr
    by_cases hlt : k < n
    · have hk' : k < zs.length := by have := HN.out; omega
      have hcell : wr.cell? ⟨g, k, none⟩ = some (.string zs[k]) := by rw [cell_of_row _ _ _ _ _ _ HGR.out]; exact HCUR.out k hlt
      have hsz : zs[k].size = 256 := H3.out _ (List.getElem_mem hk')
      generalize ht : zs[k] = t at hcell hsz
      have HTK := hid ht; clear ht
      have e2 : ((t.size : Int) != 256) = false := by simp; omega
      have HSZ2 : Hid (t.size ≤ 1000000) := hid (by omega)
      clear hsz
      go_wp2_with (go_at_call 72; refine (own_ok t _ HSZ2.out).mono ?_; rintro e w2 ⟨rfl, hb⟩; have hg2 : w2.heap[g]? = some (.cells cur 9 (0, 0)) := (by rw [hb.block _ (Array.getElem?_eq_some_iff.1 HGR.out).1]; exact HGR.out); have c2 : w2.cell? ⟨g, k, none⟩ = some (.string t) := (by rw [cell_of_row _ _ _ _ _ _ hg2, HCUR.out k hlt, HTK.out]); have f2 : w2.frozen? ⟨g, k, none⟩ = false := frozen_of_row _ _ _ _ _ hg2; have HG2 := hid hg2; have HB2 := Fd.on_below HBR hb; clear hb hg2)
      go_roundw
      case rel =>
        refine ⟨k + 1, by omega, by go_num, ?_, HB2.out.setCell HGB.out _⟩
        rw [heap_setCell_same _ _ _ _ _ _ HG2.out]
        congr 2
        apply Array.ext_getElem?
        intro j
        rw [Array.getElem?_setIfInBounds]
        by_cases e : k = j
        · subst e
          have := HCUR.out k hlt
          rw [HTK.out] at this
          rw [if_pos rfl, this]
          have hks : k < cur.size := (Array.getElem?_eq_some_iff.1 this).1
          rw [if_pos hks]
        · rw [if_neg e]
      case measure => simp [intOf]; omega
    · obtain rfl : k = n := by omega
      go_wp2_with fail
      go_ret2
      have hgl : g < wr.heap.size := (Array.getElem?_eq_some_iff.1 HGR.out).1
      have hl : (newS zs).pages.length = k := HN.out
      refine ⟨⟨wr.heap.size, g, cap, .slice none 0 0⟩, rfl, ⟨?_, ⟨cur, ?_, HSZ.out, by rw [hl]; exact hle, hmx, by rw [hl]; exact HT.out⟩, ⟨rfl, .inl ⟨rfl, rfl⟩⟩, ?_, ?_, ?_, newS_good (by have := HN.out; omega) (by have := HN.out; omega) H3.out⟩, HBR.out.alloc HBR.out.size _, ?_⟩
      · rw [hl]; exact heap_alloc_new _ _
      · show (wr.alloc _).heap[g]? = _
        rw [Below.heap_alloc wr _ g hgl]; exact HGR.out
      · show wr.heap.size ≠ g
        omega
      · intro h; cases h
      · intro h; cases h
      · rintro j (rfl | rfl | hj)
        · exact HBR.out.size
        · exact HGB.out
        · cases hj
set_option maxHeartbeats 400000 in
theorem of_few (v : Value) (n c : Nat) (w : World) (hv : v = .slice none 0 0 ∧ n = 0 ∨ ∃ a, v = .slice (some a) n c) (hn : n < 1 ∨ 1000 < n) (hm : n ≤ maxLen) :
    Calls Tryz.prog 31 #[v] w fun e w' => e = .returned (.tuple #[.pointer none, .int .i64 1]) ∧ w = w' := by
  unfold maxLen at hm
  rcases hv with ⟨rfl, rfl⟩ | ⟨a, rfl⟩
  · go_enter Tryz.func31, Tryz.ntmps31
    go_wp2_with fail
    go_ret2
    exact ⟨rfl, rfl⟩
  · by_cases h1 : n < 1
    · obtain rfl : n = 0 := by omega
      go_enter Tryz.func31, Tryz.ntmps31
      go_wp2_with fail
      go_ret2
      exact ⟨rfl, rfl⟩
    · have h2 : (1000 : Int) < (n : Int) := by omega
      have h3 : decide ((n : Int) < 1) = false := by simp; omega
      clear hn h1
      go_enter Tryz.func31, Tryz.ntmps31
      go_wp2_with fail
      go_ret2
      exact ⟨rfl, rfl⟩
end Go.Proofs.YtgihpdhkjneimaaGreatDoor.Dk

/- Repeat of slices, for one text, and New of disk. -/
namespace Go.Proofs.YtgihpdhkjneimaaGreatDoor.Dk
open Go.RowKit
open Go.Lib (hid)

theorem info9 : (Tryz.prog.info? 9).map (fun i => (i.zero, i.size, i.bytes)) = some (some (.string ⟨#[]⟩), 1, 16) := by kernel_rfl
theorem size9 : (Tryz.prog.info? 9).map (·.size) = some 1 := by kernel_rfl
/-- so many of one text, as cells -/
def csT (m : Nat) (t : ByteArray) : List Value := List.replicate m (.string t)
/-- a row of n texts of which the first k are laid -/
def rowT (n k : Nat) (t : ByteArray) : List Value := csT k t ++ csT (n - k) ⟨#[]⟩
theorem csT_length (m : Nat) (t : ByteArray) : (csT m t).length = m := by simp [csT]
theorem rowT_length (n k : Nat) (t : ByteArray) (h : k ≤ n) : (rowT n k t).length = n := by simp [rowT, csT]; omega
theorem rowT_more (n k m : Nat) (t : ByteArray) : splice (rowT n k t) k (csT m t) = rowT n (k + m) t := by
  unfold splice rowT csT
  rw [List.take_append_of_le_length (by simp), List.drop_append, List.length_replicate, List.length_replicate, List.take_of_length_le (by simp)]
  have e1 : k + m - k = m := by omega
  have e2 : (List.replicate k (Value.string t)).drop (k + m) = [] := by simp
  rw [e1, e2, List.nil_append, List.drop_replicate, ← List.append_assoc, List.replicate_append_replicate]
  have e3 : n - k - m = n - (k + m) := by omega
  rw [e3]
theorem csT_at (m : Nat) (t : ByteArray) (j : Nat) (v : Value) (h : (csT m t)[j]? = some v) : j < m ∧ v = .string t := by
  unfold csT at h
  rw [List.getElem?_replicate] at h
  by_cases hj : j < m
  · rw [if_pos hj] at h; exact ⟨hj, by injection h with h; exact h.symm⟩
  · rw [if_neg hj] at h; cases h
theorem csT_one (m : Nat) (t : ByteArray) : ∀ v ∈ csT m t, v.oneCell' = true := fun v hv => by
  unfold csT at hv
  rw [(List.mem_replicate.1 hv).2]; rfl
theorem rowT_at (n k : Nat) (t : ByteArray) (j : Nat) (hj : j < k) : (rowT n k t)[j]? = some (.string t) := by
  unfold rowT csT
  rw [List.getElem?_append_left (by simpa using hj)]
  simp [hj]
theorem rowT_full (n : Nat) (t : ByteArray) : rowT n n t = sv (List.replicate n t) := by
  simp [rowT, csT, sv]
theorem src_row {w : World} {g n k : Nat} {t : ByteArray} (h : w.heap[g]? = some (.cells (rowT n k t).toArray 9 (0, 0))) (m : Nat) (hm : m ≤ k) :
    ∀ j v, (csT m t)[j]? = some v → w.cell? ((⟨g, 0, none⟩ : Addr).add j) = some v := fun j v hj => by
  obtain ⟨hj, rfl⟩ := csT_at _ _ _ _ hj
  have hadd : (⟨g, 0, none⟩ : Addr).add j = ⟨g, j, none⟩ := by unfold Addr.add; split <;> simp_all
  rw [hadd, cell_of_row _ _ _ _ _ _ h, List.getElem?_toArray]
  exact rowT_at _ _ _ _ (by omega)
theorem smake (n : Nat) (h : n ≤ 1000) (t : ByteArray) (w : World) :
    (Instr.makeSlice 43 (.int .i64 (n : Int)) (.int .i64 (n : Int))).run Tryz.prog w = .ok (.slice (some ⟨w.heap.size, 0, none⟩) n n) (w.alloc (.cells (rowT n 0 t).toArray 9)) := by
  obtain ⟨i, hi, hz, hs, hb⟩ := info_parts info9
  have := run_makeSlice (P := Tryz.prog) (w := w) 43 9 i (.string ⟨#[]⟩) Tryz.underlying43 hi hz .i64 .i64 n n (by omega) (by omega) (by rw [hs]; omega) (by rw [hb]; omega) (by omega)
  rw [this]
  have e : madeCells (Value.string ⟨#[]⟩).cells (n * 1) = (rowT n 0 t).toArray := by
    apply Array.ext
    · simp [madeCells, rowT, csT]
    · intro i h1 h2
      simp [madeCells, Value.cells, Nat.mod_one, rowT, csT]
  simp only [Int.toNat_natCast, hs, e]
theorem mul1 (n : Nat) (h : n ≤ 1000) (w : World) : Calls Tryz.prog 73 #[.int .u64 1, .int .u64 n] w fun e w' => e = .returned (.tuple #[.int .u64 0, .int .u64 n]) ∧ w = w' := by
  refine (Tryz.bits_Mul 1 n (by omega) (by omega) w).mono ?_
  rintro e w' ⟨rfl, rfl⟩
  refine ⟨?_, rfl⟩
  rw [Nat.one_mul, Nat.div_eq_of_lt (by omega), Nat.mod_eq_of_lt (by omega)]; rfl

set_option maxRecDepth 100000 in
set_option maxHeartbeats 1000000 in
theorem repeat_one (b c n : Nat) (t : ByteArray) (w : World) (h1 : 1 ≤ n) (h2 : n ≤ 1000) (hc : w.cell? ⟨b, 0, none⟩ = some (.string t)) (hbw : b < w.heap.size) :
    Calls Tryz.prog 32 #[.slice (some ⟨b, 0, none⟩) 1 c, .int .i64 n] w fun e w' => ∃ g, e = .returned (.slice (some ⟨g, 0, none⟩) n n) ∧ w'.heap[g]? = some (.cells (sv (List.replicate n t)).toArray 9 (0, 0)) ∧ w.heap.size ≤ g ∧ Below w.heap.size w w' := by
  have hm := smake n h2 t w
  have HC := hid hc; clear hc
  go_enter Tryz.func32, Tryz.ntmps32
  go_wp2_with (first
    | (go_at_call 73; refine (mul1 n h2 _).mono ?_; rintro e w' ⟨rfl, rfl⟩)
    | refine wpList_copy_splice rfl (.tmp 31) (.tmp 32) 43 43 rfl 9 Tryz.underlying43 size9 _ _ _ _ _ _ rfl rfl w.heap.size 0 (rowT n 0 t) 9 (heap_alloc_new _ _) (csT 1 t) ?d1 ?d2 ?d3 (csT_one 1 t) w.heap.size w ((Below.refl w.heap.size w).alloc (Nat.le_refl _) _) (Nat.le_refl _) ?_)
  case d1 => rw [csT_length]; exact (Nat.min_eq_left h1).symm
  case d2 =>
    intro _ j v hj
    obtain ⟨hj, rfl⟩ := csT_at _ _ _ _ hj
    obtain rfl : j = 0 := by omega
    exact HC.out
  case d3 => rw [csT_length, rowT_length _ _ _ (by omega)]; omega
  intro w1 hg1 hb1
  have hg1 := hg1.out
  rw [rowT_more, Nat.zero_add] at hg1
  have HG1 := hid hg1; have HB1 := hid hb1; clear hg1 hb1 hm
  generalize hg : w.heap.size = g at HG1 HB1 hbw ⊢
  go_wp2_with fail
  go_loopw [8] (fun i wr => ∃ k : Nat, 1 ≤ k ∧ k ≤ n ∧ i = .int .i64 k ∧ wr.heap[g]? = some (.cells (rowT n k t).toArray 9 (0, 0)) ∧ Below g w wr) (fun i _ => n - (intOf i).toNat)
  case atStart => exact ⟨1, by omega, by omega, by rw [csT_length], HG1.out, HB1.out⟩
  case round =>
    obtain ⟨k, hk1, hk2, rfl, hgr, hbr⟩ := hrel
    have HGR := hid hgr; have HBR := hid hbr; clear hgr hbr
    by_cases hlt : k < n
    · have HNE : Hid (¬ n = k) := hid (by omega)
      obtain ⟨m, hm⟩ : ∃ m, m = Nat.min k (n - k) := ⟨_, rfl⟩
      have hm1 : 1 ≤ m := by rw [hm]; exact Nat.le_min.2 ⟨hk1, by omega⟩
      have hm2 : m ≤ k := by rw [hm]; exact Nat.min_le_left _ _
      have hm3 : k + m ≤ n := by have : m ≤ n - k := by rw [hm]; exact Nat.min_le_right _ _
                                 omega
      have HM := hid hm; clear hm
      have hw : IntKind.i64.wrap ((k : Int) + (m : Int)) = (k : Int) + (m : Int) := Go.IntWalk.i64_in _ (by omega)
      have HW := hid hw; clear hw
      have hcl := csT_length m t
      go_wp2_with fail
      go_region_law ((refine step_copy_splice (by rfl) (.tmp 41) (.tmp 44) 43 43 (by rfl) 9 Tryz.underlying43 size9 (if n = k then some ⟨g, 0, none⟩ else some ⟨g, k, none⟩) (some ⟨g, 0, none⟩) (n - k) (n - k) k n (by go_simp) (by go_simp) g k (rowT n k t) 9 HGR.out (csT m t) ((csT_length m t).trans HM.out) (fun _ => ⟨if_neg HNE.out, _, rfl, src_row (w := wr.drew) HGR.out m hm2⟩) (by rw [csT_length, rowT_length _ _ _ hk2]; exact hm3) (csT_one _ t) g w HBR.out.drew (Nat.le_refl _) ?_); intro w4 hg4 hb4)
      all_goals
        have hg4 := hg4.out
        rw [rowT_more] at hg4
        have HG4 := hid hg4; have HB4 := hid hb4; clear hg4 hb4
        go_wp2_with fail
        go_roundw
        case rel => exact ⟨k + m, by omega, by omega, by rw [HW.out]; go_num, HG4.out, HB4.out⟩
        case measure => simp [intOf, HW.out]; omega
    · obtain rfl : k = n := by omega
      go_wp2_with fail
      go_ret
      exact ⟨g, rfl, by rw [← rowT_full]; exact HGR.out, Nat.le_of_eq hg, hg ▸ HBR.out⟩

set_option maxHeartbeats 400000 in
theorem new_bad (n : Int) (w : World) (h : n < 1 ∨ 1000 < n) : Calls Tryz.prog 9 #[.int .i64 n] w fun e w' => e = .returned (.tuple #[.pointer none, .int .i64 1]) ∧ w = w' := by
  by_cases h1 : n < 1
  · go_enter Tryz.func9, Tryz.ntmps9
    go_wp2_with fail
    go_ret2
    exact ⟨rfl, rfl⟩
  · have h2 : (1000 : Int) < n := by omega
    go_enter Tryz.func9, Tryz.ntmps9
    go_wp2_with fail
    go_ret2
    exact ⟨rfl, rfl⟩
/-- an empty page, and a new disk's pages -/
def blankB : ByteArray := ⟨Pg.blankL.toArray⟩
theorem blankB_size : blankB.size = 256 := by
  show (Pg.blankL.toArray).size = 256
  rw [List.size_toArray]; exact Pg.zs_length 256
theorem blank_t (t : ByteArray) (h : blankB = t) (w : World) : Calls Tryz.prog 33 #[] w fun e w' => e = .returned (.string t) ∧ Below w.heap.size w w' := by
  subst h; exact Pg.blank_any w
def blanks (n : Nat) : List ByteArray := List.replicate n blankB
theorem blanks_cells {w : World} {g n : Nat} {t : ByteArray} (h : w.heap[g]? = some (.cells (sv (List.replicate n t)).toArray 9 (0, 0))) :
    ∀ j, j < (List.replicate n t).length → w.cell? ⟨g, 0 + j, none⟩ = some (.string ((List.replicate n t).getD j ByteArray.empty)) := fun j hj => by
  rw [cell_of_row _ _ _ _ _ _ h, Nat.zero_add]
  have hj' : j < n := by simpa using hj
  simp [sv, hj', List.getD]
set_option maxHeartbeats 400000 in
theorem new_ok (n : Nat) (w : World) (h1 : 1 ≤ n) (h2 : n ≤ 1000) :
    Calls Tryz.prog 9 #[.int .i64 n] w fun e w' => ∃ d, e = .returned (.tuple #[.pointer (some ⟨d.D, 0, none⟩), .int .i64 0]) ∧ Dsk w' d (newS (blanks n)) ∧ Below w.heap.size w w' ∧ (∀ k, Foot d k → w.heap.size ≤ k) := by
  obtain ⟨t, ht⟩ : ∃ t, blankB = t := ⟨_, rfl⟩
  have HT := hid ht; clear ht
  have HSZ : Hid (∀ p ∈ List.replicate n t, p.size = 256) := hid fun p hp => by rw [(List.mem_replicate.1 hp).2, ← HT.out]; exact blankB_size
  go_enter Tryz.func9, Tryz.ntmps9
  go_wp2_with (first
    | (go_at_call 33; refine (blank_t t HT.out _).mono ?_; rintro e w1 ⟨rfl, hb⟩; have HB := hid hb; clear hb)
    | (go_at_call 32; refine (repeat_one w1.heap.size 1 n t _ h1 h2 (by rw [cell_of_row _ _ _ _ _ _ (heap_alloc_new _ _)]; rfl) (by simp)).mono ?_; rintro e w2 ⟨g, rfl, hg, hge, hb2⟩; have HG := hid hg; have HGE := hid hge; have HB2 := hid hb2; clear hg hge hb2)
    | (go_at_call 31; refine (of_ok g 0 n n (List.replicate n t) _ (by simp) h1 h2 HSZ.out (blanks_cells HG.out)).mono ?_; rintro e w3 ⟨d, rfl, hd, hb3, hf⟩; have HD := hid hd; have HB3 := hid hb3; have HF := hid hf; clear hd hb3 hf))
  go_ret2
  have hs1 : w.heap.size ≤ w1.heap.size := HB.out.size
  have hs2 : w.heap.size ≤ w2.heap.size := by have := HB2.out.size; simp at this; omega
  refine ⟨d, rfl, ?_, ?_, fun k hk => Nat.le_trans hs2 (HF.out k hk)⟩
  · have := HD.out; rw [← HT.out] at this; exact this
  · exact (HB.out.alloc hs1 _).trans ((HB2.out.mono (by simp; omega)).trans (HB3.out.mono hs2))
end Go.Proofs.YtgihpdhkjneimaaGreatDoor.Dk

/- The crash of disk: which of the writes that wait come to their pages. -/
namespace Go.Proofs.YtgihpdhkjneimaaGreatDoor.Dk
open Go.RowKit
open Go.Lib (hid)

/-- a text with no bytes -/
def emptyB : ByteArray := ⟨#[]⟩
/-- the texts with which the writes come so far -/
structure Outs (w : World) (A g : Nat) (outs : List ByteArray) : Prop where
  slot : w.heap[A]? = some (.cells #[.slice (some ⟨g, 0, none⟩) outs.length outs.length] 43 (0, 0))
  row : w.heap[g]? = some (.cells (sv outs).toArray 9 (0, 0))
theorem Outs.below {w w' : World} {A g : Nat} {outs : List ByteArray} (h : Outs w A g outs) (hb : Below w.heap.size w w') : Outs w' A g outs :=
  ⟨by rw [hb.block _ (Array.getElem?_eq_some_iff.1 h.slot).1]; exact h.slot, by rw [hb.block _ (Array.getElem?_eq_some_iff.1 h.row).1]; exact h.row⟩
theorem Outs.drew {w : World} {A g : Nat} {outs : List ByteArray} (h : Outs w A g outs) : Outs w.drew A g outs := ⟨h.slot, h.row⟩
theorem Outs.ptr {w : World} {A g : Nat} {outs : List ByteArray} (h : Outs w A g outs) : w.cell? ⟨A, 0, none⟩ = some (.slice (some ⟨g, 0, none⟩) outs.length outs.length) := by
  rw [cell_of_row _ _ _ _ _ _ h.slot]; rfl
theorem Outs.cell {w : World} {A g : Nat} {outs : List ByteArray} (h : Outs w A g outs) (i : Nat) (hi : i < outs.length) : w.cell? ⟨g, i, none⟩ = some (.string outs[i]) := by
  rw [cell_of_row _ _ _ _ _ _ h.row]
  simp [sv, hi]
theorem Outs.free {w : World} {A g : Nat} {outs : List ByteArray} (h : Outs w A g outs) (i : Nat) : w.frozen? ⟨g, i, none⟩ = false := frozen_of_row _ _ _ _ _ h.row

/-- a write that may come and does not yet -/
def freeB (outs : List ByteArray) (i : Int) : Bool := decide (0 ≤ i) && (decide (i < outs.length) && (outs.getD i.toNat emptyB).toList.isEmpty)

set_option maxHeartbeats 400000 in
theorem free_ok (A g : Nat) (outs : List ByteArray) (i : Int) (w : World) (h : Outs w A g outs) :
    Calls Tryz.prog 98 #[.int .i64 i, .pointer (some ⟨A, 0, none⟩)] w fun e w' => e = .returned (.bool (freeB outs i)) ∧ w = w' := by
  have c := h.ptr
  have HH := hid h; clear h
  unfold freeB
  by_cases h0 : 0 ≤ i
  · obtain ⟨k, rfl⟩ := Int.eq_ofNat_of_zero_le h0
    by_cases h1 : k < outs.length
    · have e1 : decide ((k : Int) < (outs.length : Int)) = true := by simpa using h1
      have e0 : decide (0 ≤ (k : Int)) = true := by simp
      have ck := HH.out.cell k h1
      have eg : outs.getD (k : Int).toNat emptyB = outs[k] := by simp [List.getD, h1]
      rw [e0, e1, eg]
      generalize outs[k] = t at ck ⊢
      clear eg e0
      cases e2 : t.toList.isEmpty
      all_goals
        go_enter Tryz.func98, Tryz.ntmps98
        go_wp2_with fail
        go_ret
        exact ⟨by simp, rfl⟩
    · have e1 : decide ((k : Int) < (outs.length : Int)) = false := by simpa using h1
      rw [e1]
      have h2 : (outs.length : Int) ≤ (k : Int) := by omega
      go_enter Tryz.func98, Tryz.ntmps98
      go_wp2_with fail
      go_ret
      exact ⟨by simp, rfl⟩
  · have e0 : decide (0 ≤ i) = false := by simpa using h0
    rw [e0]
    have h1 : i < 0 := by omega
    clear h0
    go_enter Tryz.func98, Tryz.ntmps98
    go_wp2_with fail
    go_ret
    exact ⟨by simp, rfl⟩
end Go.Proofs.YtgihpdhkjneimaaGreatDoor.Dk

/- forget and Waits of disk. -/
namespace Go.Proofs.YtgihpdhkjneimaaGreatDoor.Dk
open Go.RowKit
open Go.Lib (hid)

/-- so many writes of nothing, as cells -/
def zw (n : Nat) : List Value := (List.replicate n [Value.int .i64 0, Value.string ⟨#[]⟩]).flatten
theorem zw_length (n : Nat) : (zw n).length = n * 2 := by
  induction n with
  | zero => rfl
  | succ n ih => simp only [zw, List.replicate_succ, List.flatten_cons, List.length_append, List.length_cons, List.length_nil] at ih ⊢; omega

theorem zw_at (n i : Nat) : (zw n)[i]? = if i < n * 2 then some (if i % 2 = 0 then Value.int .i64 0 else Value.string ⟨#[]⟩) else none := by
  induction n generalizing i with
  | zero => simp [zw]
  | succ n ih =>
    have e : zw (n + 1) = Value.int .i64 0 :: Value.string ⟨#[]⟩ :: zw n := by simp [zw, List.replicate_succ]
    rw [e]
    match i with
    | 0 => simp
    | 1 => simp; omega
    | i + 2 =>
      rw [List.getElem?_cons_succ, List.getElem?_cons_succ, ih]
      have h1 : (i + 2) % 2 = i % 2 := by omega
      rw [h1]
      by_cases h : i < n * 2
      · have h2 : i + 2 < (n + 1) * 2 := by omega
        simp only [h, h2, if_true]
      · have h2 : ¬ i + 2 < (n + 1) * 2 := by omega
        simp only [h, h2, if_false]
theorem zero_cells (n : Nat) : (Builtin.zeroCells #[Value.int .i64 0, Value.string ⟨#[]⟩] n).toList = zw n := by
  apply List.ext_getElem?
  intro i
  rw [zw_at]
  unfold Builtin.zeroCells
  by_cases h : i < n * 2
  · rw [if_pos h]
    rcases Nat.mod_two_eq_zero_or_one i with h0 | h0
    · simp [h, h0]
    · simp [h, h0]
  · rw [if_neg h]
    simp; omega
theorem zero68 (w : World) : (zeroValue 99).run Tryz.prog w = .ok (.agg #[.int .i64 0, .string ⟨#[]⟩]) w := by
  have h : (Tryz.prog.info? 99).map (fun i => (i.zero, i.size)) = some (some (.agg #[.int .i64 0, .string ⟨#[]⟩]), 2) := by kernel_rfl
  exact (zero_of_info (P := Tryz.prog) h).1 w
/-- 'clear' of a slice of writes -/
theorem run_clear (w : World) (ty : TypeId) (g n c : Nat) (cur : Array Value) (hn : 0 < n) (hg : w.heap[g]? = some (.cells cur 99 (0, 0))) (hs : n * 2 ≤ cur.size) :
    (Builtin.clear_ #[85] ty #[.slice (some ⟨g, 0, none⟩) n c]).run Tryz.prog w = .ok (.tuple #[]) (w.setCells g 0 (zw n)) := by
  have hc : ∀ j, j < (zw n).length → (w.cell? ⟨g, 0 + 0 + j, none⟩).isSome = true := fun j hj => by
    rw [zw_length] at hj
    rw [cell_of_row _ _ _ _ _ _ hg]; simp; omega
  have hf : ∀ j, j < (zw n).length → w.frozen? ⟨g, 0 + 0 + j, none⟩ = false := fun j _ => frozen_of_row _ _ _ _ _ hg
  have h1 : ∀ v ∈ zw n, v.oneCell' = true := fun v hv => by
    simp only [zw, List.mem_flatten, List.mem_replicate] at hv
    obtain ⟨l, ⟨_, rfl⟩, hv⟩ := hv
    simp at hv
    rcases hv with rfl | rfl <;> rfl
  have hst := run_storeCells_cells (P := Tryz.prog) g 0 (zw n) 0 w hc hf h1
  simp only [Nat.add_zero] at hst
  obtain ⟨m, rfl⟩ : ∃ m, n = m + 1 := ⟨n - 1, by omega⟩
  have hzc := zero_cells (m + 1)
  simp [Builtin.clear_, run_underlying Tryz.underlying85, Value.cells, hzc, hst]

theorem run_clear0 (w : World) (ty : TypeId) (a : Option Addr) (c : Nat) :
    (Builtin.clear_ #[85] ty #[.slice a 0 c]).run Tryz.prog w = .ok (.tuple #[]) w := by
  cases a <;> simp [Builtin.clear_, run_underlying Tryz.underlying85]

theorem setCells_row (g : Nat) (e : TypeId) : ∀ (vs : List Value) (o : Nat) (w : World) (cur : Array Value), w.heap[g]? = some (.cells cur e (0, 0)) →
    (∃ cur', (w.setCells g o vs).heap[g]? = some (.cells cur' e (0, 0)) ∧ cur'.size = cur.size) ∧ (∀ k, k ≠ g → (w.setCells g o vs).heap[k]? = w.heap[k]?) ∧ (w.setCells g o vs).heap.size = w.heap.size ∧
      (w.setCells g o vs).os = w.os ∧ (w.setCells g o vs).tape = w.tape ∧ (w.setCells g o vs).output = w.output
  | [], o, w, cur, h => ⟨⟨cur, h, rfl⟩, fun _ _ => rfl, rfl, rfl, rfl, rfl⟩
  | v :: vs, o, w, cur, h => by
    have h1 : (w.setCell ⟨g, o, none⟩ v).heap[g]? = some (.cells (cur.setIfInBounds o v) e (0, 0)) := heap_setCell_same _ _ _ _ _ _ h
    obtain ⟨⟨c2, h2, h3⟩, h4, h5, h6, h7, h8⟩ := setCells_row g e vs (o + 1) (w.setCell ⟨g, o, none⟩ v) _ h1
    refine ⟨⟨c2, h2, by rw [h3]; simp⟩, fun k hk => ?_, ?_, h6, h7, h8⟩
    · show ((w.setCell ⟨g, o, none⟩ v).setCells g (o + 1) vs).heap[k]? = _
      rw [h4 k hk, heap_setCell_other _ _ _ _ hk]
    · show ((w.setCell ⟨g, o, none⟩ v).setCells g (o + 1) vs).heap.size = _
      rw [h5, World.size_setCell]

/-- behind the clearing of a row of its own, and the cut of its slice -/
theorem Dsk.cleared {w : World} {d : Ptrs} {s : St} (h : Dsk w d s) {g cap : Nat} {cur : Array Value} (hv : d.wv = .slice (some ⟨g, 0, none⟩) s.waits.length cap)
    (hg : w.heap[g]? = some (.cells cur 99 (0, 0))) (hcap : cap ≤ maxLen) (hsz : cur.size = cap * 2) :
    Dsk ((w.setCells g 0 (zw s.waits.length)).setCell ⟨d.D, 1, none⟩ (.slice (some ⟨g, 0, none⟩) 0 cap)) { d with wv := .slice (some ⟨g, 0, none⟩) 0 cap } (noWaits s) ∧
    Only d w ((w.setCells g 0 (zw s.waits.length)).setCell ⟨d.D, 1, none⟩ (.slice (some ⟨g, 0, none⟩) 0 cap)) ∧ From d { d with wv := .slice (some ⟨g, 0, none⟩) 0 cap } w := by
  have hgD : g ≠ d.D := fun e => h.dw (by rw [hv, e]; rfl)
  have hgP : g ≠ d.P := fun e => h.pw (by rw [hv, e]; rfl)
  obtain ⟨⟨c2, h2, h3⟩, h4, h5, h6, h7, h8⟩ := setCells_row g 99 (zw s.waits.length) 0 w cur hg
  refine ⟨⟨?_, ?_, ?_, h.dp, ?_, ?_, noWaits_good h.good⟩, ⟨h6, h7, h8, by rw [World.size_setCell, h5]; exact Nat.le_refl _, fun k hk hn => ?_⟩, ?_⟩
  · rw [heap_setCell_same _ _ _ _ _ _ (by rw [h4 _ (Ne.symm hgD)]; exact h.head)]; rfl
  · show ∃ cur, ((w.setCells _ _ _).setCell _ _).heap[d.P]? = _ ∧ _
    rw [heap_setCell_other _ _ _ _ (Ne.symm h.dp), h4 _ (Ne.symm hgP)]; exact h.pages
  · refine ⟨rfl, .inr ⟨g, cap, c2, rfl, Nat.zero_le _, ?_, Nat.zero_le _, hcap, by rw [h3, hsz], by simp [noWaits, wcells]⟩⟩
    rw [heap_setCell_other _ _ _ _ hgD]; exact h2
  · show some g ≠ some d.D
    intro e; exact hgD (by injection e)
  · show some g ≠ some d.P
    intro e; exact hgP (by injection e)
  · have hkg : k ≠ g := fun e => hn (.inr (.inr (by rw [hv, e]; rfl)))
    rw [heap_setCell_other _ _ _ _ (fun e => hn (.inl e)), h4 k hkg]
  · rintro k (rfl | rfl | hk)
    · exact .inl (.inl rfl)
    · exact .inl (.inr (.inl rfl))
    · exact .inl (.inr (.inr (by rw [hv]; exact hk)))
theorem From.self (d : Ptrs) (w : World) : From d { d with wv := d.wv } w := fun _ h => .inl h
set_option maxHeartbeats 400000 in
theorem forget_none (d : Ptrs) (s : St) (w : World) (h : Dsk w d s) (hn : s.waits = []) :
    Calls Tryz.prog 60 #[.pointer (some ⟨d.D, 0, none⟩)] w fun e w' => e = .returned (.int .i64 0) ∧ ∃ v, Dsk w' { d with wv := v } (noWaits s) ∧ Only d w w' ∧ From d { d with wv := v } w := by
  have hc := fun ty a c w => run_clear0 w ty a c
  have hown := h.waits
  rw [hn] at hown
  have hd : Dsk (w.setCell ⟨d.D, 1, none⟩ d.wv) d (noWaits s) := h.store 1 d.wv (noWaits s) rfl hn.symm (noWaits_good h.good) rfl
  have hon : Only d w (w.setCell ⟨d.D, 1, none⟩ d.wv) := (Only.refl d w).store 1 d.wv
  rcases hown.2 with ⟨hv, _⟩ | ⟨g, cap, cur, hv, _, hg, _, hcap, hsz, _⟩
  · have c := h.cells
    rw [hv] at c hd hon
    have f := h.free 1
    have HS := hid (And.intro hd hon); clear h hown hd hon hv
    go_enter Tryz.func60, Tryz.ntmps60
    go_wp2_with fail
    go_ret
    exact ⟨rfl, d.wv, HS.out.1, HS.out.2, From.self d w⟩
  · have hv' : d.wv = .slice (some ⟨g, 0, none⟩) 0 cap := hv
    have c := h.cells
    rw [hv'] at c hd hon
    have f := h.free 1
    have HS := hid (And.intro hd hon); clear h hown hd hon hv hv'
    go_enter Tryz.func60, Tryz.ntmps60
    go_wp2_with fail
    go_ret
    exact ⟨rfl, d.wv, HS.out.1, HS.out.2, From.self d w⟩
set_option maxHeartbeats 400000 in
theorem forget_some (d : Ptrs) (s : St) (w : World) (h : Dsk w d s) (hn : 0 < s.waits.length) :
    Calls Tryz.prog 60 #[.pointer (some ⟨d.D, 0, none⟩)] w fun e w' => e = .returned (.int .i64 (s.waits.length : Int)) ∧ ∃ v, Dsk w' { d with wv := v } (noWaits s) ∧ Only d w w' ∧ From d { d with wv := v } w := by
  rcases h.waits.2 with ⟨_, h0⟩ | ⟨g, cap, cur, hv, _, hg, hle, hcap, hsz, _⟩
  · omega
  · have hc := fun ty => run_clear w ty g s.waits.length cap cur hn hg (by rw [hsz]; omega)
    have hcl := h.cleared hv hg hcap hsz
    have hgD : g ≠ d.D := fun e => h.dw (by rw [hv, e]; rfl)
    obtain ⟨_, h4, _, _, _, _⟩ := setCells_row g 99 (zw s.waits.length) 0 w cur hg
    have c := h.cells
    rw [hv] at c
    have c2 : (w.setCells g 0 (zw s.waits.length)).cell? ⟨d.D, 1, none⟩ = some (.slice (some ⟨g, 0, none⟩) s.waits.length cap) := by
      unfold World.cell?; rw [h4 _ (Ne.symm hgD)]; exact c.2.1
    have f := h.free 1
    have f2 : (w.setCells g 0 (zw s.waits.length)).frozen? ⟨d.D, 1, none⟩ = false := by
      unfold World.frozen?; rw [h4 _ (Ne.symm hgD)]; exact f
    have hm : s.waits.length ≤ maxLen := Nat.le_trans hle hcap
    have HS := hid hcl; clear hcl h h4 hg hsz hgD hv
    go_enter Tryz.func60, Tryz.ntmps60
    go_wp2_with fail
    go_ret
    exact ⟨rfl, _, HS.out⟩
end Go.Proofs.YtgihpdhkjneimaaGreatDoor.Dk
