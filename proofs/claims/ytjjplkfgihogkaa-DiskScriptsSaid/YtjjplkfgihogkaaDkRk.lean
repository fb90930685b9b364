/- The document's own disk in memory: as the program's, the fields in another order. -/
import Derived.Test.YtjjplkfgihogkaaDkLv
namespace Go.Proofs.Ytjjplkfgihogkaa.Dk
open Go.RowKit
open Go.Lib (hid)
structure Rk (w : World) (d : Ptrs) (s : St) : Prop where
  head : w.heap[d.D]? = some (.cells #[.slice (some ⟨d.P, 0, none⟩) s.pages.length d.cp, d.wv, .int .i64 s.reads, .int .i64 s.writes, .int .i64 s.flushes, .int .i64 s.fuse] 43 (0, 0))
  pages : ∃ cur, w.heap[d.P]? = some (.cells cur 9 (0, 0)) ∧ cur.size = d.cp ∧ s.pages.length ≤ d.cp ∧ d.cp ≤ maxLen ∧ cur.toList.take s.pages.length = sv s.pages
  waits : w.ownsRow 0 66 2 d.wv s.waits.length (wcells s.waits)
  dp : d.D ≠ d.P
  dw : d.wv.ownBlock ≠ some d.D
  pw : d.wv.ownBlock ≠ some d.P
  good : Good s
theorem Rk.ltD {w : World} {d : Ptrs} {s : St} (h : Rk w d s) : d.D < w.heap.size := (Array.getElem?_eq_some_iff.1 h.head).1
theorem Rk.ltP {w : World} {d : Ptrs} {s : St} (h : Rk w d s) : d.P < w.heap.size := by
  obtain ⟨cur, hc, _⟩ := h.pages; exact (Array.getElem?_eq_some_iff.1 hc).1
theorem Rk.lt {w : World} {d : Ptrs} {s : St} (h : Rk w d s) : ∀ k, Foot d k → k < w.heap.size := by
  rintro k (rfl | rfl | hk)
  · exact h.ltD
  · exact h.ltP
  · exact (h.waits.lt k hk).2
/-- what leaves a disk's blocks alone leaves the disk -/
theorem Rk.kept {w w' : World} {d : Ptrs} {s : St} (h : Rk w d s) (hb : ∀ k, Foot d k → w'.heap[k]? = w.heap[k]?) : Rk w' d s := by
  refine ⟨by rw [hb _ (.inl rfl)]; exact h.head, ?_, ?_, h.dp, h.dw, h.pw, h.good⟩
  · rw [hb _ (.inr (.inl rfl))]; exact h.pages
  · refine ⟨h.waits.1, ?_⟩
    rcases h.waits.2 with hn | ⟨g, cap, cur, hv, hb0, hg, rest⟩
    · exact .inl hn
    · refine .inr ⟨g, cap, cur, hv, hb0, ?_, rest⟩
      rw [hb g (.inr (.inr (by rw [hv]; rfl)))]; exact hg
theorem Rk.below {w w' : World} {d : Ptrs} {s : St} (h : Rk w d s) (hb : Below w.heap.size w w') : Rk w' d s := h.kept fun k hk => hb.block k (h.lt k hk)
theorem Rk.drew {w : World} {d : Ptrs} {s : St} (h : Rk w d s) : Rk w.drew d s := ⟨h.head, h.pages, h.waits, h.dp, h.dw, h.pw, h.good⟩
theorem Rk.drewN {w : World} {d : Ptrs} {s : St} (h : Rk w d s) (n : Nat) : Rk (w.drewN n) d s := ⟨h.head, h.pages, h.waits, h.dp, h.dw, h.pw, h.good⟩
theorem Rk.other {w w' : World} {d d2 : Ptrs} {s : St} (h : Rk w d s) (ho : Only d2 w w') (hd : ∀ k, Foot d k → ¬ Foot d2 k) : Rk w' d s :=
  h.kept fun k hk => ho.block k (h.lt k hk) (hd k hk)
/-- the struct's cells -/
theorem Rk.cells {w : World} {d : Ptrs} {s : St} (h : Rk w d s) :
    w.cell? ⟨d.D, 0, none⟩ = some (.slice (some ⟨d.P, 0, none⟩) s.pages.length d.cp) ∧ w.cell? ⟨d.D, 1, none⟩ = some d.wv ∧ w.cell? ⟨d.D, 2, none⟩ = some (.int .i64 s.reads) ∧
    w.cell? ⟨d.D, 3, none⟩ = some (.int .i64 s.writes) ∧ w.cell? ⟨d.D, 4, none⟩ = some (.int .i64 s.flushes) ∧ w.cell? ⟨d.D, 5, none⟩ = some (.int .i64 s.fuse) := by
  refine ⟨?_, ?_, ?_, ?_, ?_, ?_⟩ <;> rw [cell_of_row _ _ _ _ _ _ h.head] <;> rfl
theorem Rk.free {w : World} {d : Ptrs} {s : St} (h : Rk w d s) (i : Nat) : w.frozen? ⟨d.D, i, none⟩ = false := frozen_of_row _ _ _ _ _ h.head
/-- a page's cell -/
theorem Rk.page {w : World} {d : Ptrs} {s : St} (h : Rk w d s) (i : Nat) (hi : i < s.pages.length) : w.cell? ⟨d.P, i, none⟩ = some (.string s.pages[i]) := by
  obtain ⟨cur, hc, _, _, _, ht⟩ := h.pages
  rw [cell_of_row _ _ _ _ _ _ hc]
  have e : (cur.toList.take s.pages.length)[i]? = (sv s.pages)[i]? := by rw [ht]
  rw [List.getElem?_take_of_lt hi] at e
  simp [sv, hi] at e
  simpa using e
theorem Rk.pfree {w : World} {d : Ptrs} {s : St} (h : Rk w d s) (i : Nat) : w.frozen? ⟨d.P, i, none⟩ = false := by
  obtain ⟨cur, hc, _⟩ := h.pages
  exact frozen_of_row _ _ _ _ _ hc
/-- a field of the struct is stored -/
theorem Rk.store {w : World} {d : Ptrs} {s : St} (h : Rk w d s) (i : Nat) (v : Value) (s' : St) (hp : s'.pages = s.pages) (hw : s'.waits = s.waits) (hg : Good s')
    (hc : (#[.slice (some ⟨d.P, 0, none⟩) s.pages.length d.cp, d.wv, .int .i64 s.reads, .int .i64 s.writes, .int .i64 s.flushes, .int .i64 s.fuse] : Array Value).setIfInBounds i v =
      #[.slice (some ⟨d.P, 0, none⟩) s.pages.length d.cp, d.wv, .int .i64 s'.reads, .int .i64 s'.writes, .int .i64 s'.flushes, .int .i64 s'.fuse]) :
    Rk (w.setCell ⟨d.D, i, none⟩ v) d s' := by
  have ho : ∀ k, k ≠ d.D → (w.setCell ⟨d.D, i, none⟩ v).heap[k]? = w.heap[k]? := fun k hk => heap_setCell_other _ _ _ _ hk
  refine ⟨?_, ?_, ?_, h.dp, h.dw, h.pw, hg⟩
  · rw [heap_setCell_same _ _ _ _ _ _ h.head, hc, hp]
  · rw [hp, ho _ (Ne.symm h.dp)]; exact h.pages
  · rw [hw]
    refine ⟨h.waits.1, ?_⟩
    rcases h.waits.2 with hn | ⟨g, cap, cur, hv, hb0, hg, rest⟩
    · exact .inl hn
    · refine .inr ⟨g, cap, cur, hv, hb0, ?_, rest⟩
      rw [ho g (fun e => h.dw (by rw [hv, e]; rfl))]; exact hg
/-- what a write that waits reads as -/
theorem Rk.wait {w : World} {d : Ptrs} {s : St} (h : Rk w d s) {g n cap : Nat} (hv : d.wv = .slice (some ⟨g, 0, none⟩) n cap) (k : Nat) (hk : k < s.waits.length) :
    w.cell? ⟨g, k * 2, none⟩ = some (.int .i64 (s.waits[k].1 : Int)) ∧ w.cell? ⟨g, k * 2 + 1, none⟩ = some (.string s.waits[k].2) := by
  have hc := h.waits.cells (g := g) (by rw [hv]; rfl)
  have hat : ∀ (l : List (Nat × ByteArray)) (k : Nat) (hk : k < l.length), (wcells l)[k * 2]? = some (.int .i64 (l[k].1 : Int)) ∧ (wcells l)[k * 2 + 1]? = some (.string l[k].2) := by
    intro l
    induction l with
    | nil => intro k hk; simp at hk
    | cons x l ih =>
      intro k hk
      have e : wcells (x :: l) = .int .i64 (x.1 : Int) :: .string x.2 :: wcells l := rfl
      rw [e]
      cases k with
      | zero => simp
      | succ k =>
        have := ih k (by simpa using hk)
        rw [show (k + 1) * 2 = k * 2 + 1 + 1 by omega, show k * 2 + 1 + 1 + 1 = k * 2 + 1 + 1 + 1 from rfl]
        simpa using this
  have hadd : ∀ j, (⟨g, 0, none⟩ : Addr).add j = ⟨g, j, none⟩ := fun j => by unfold Addr.add; split <;> simp_all
  obtain ⟨h1, h2⟩ := hat s.waits k hk
  have c1 := hc _ _ h1
  have c2 := hc _ _ h2
  rw [hadd] at c1 c2
  exact ⟨c1, c2⟩
/-- a page is stored -/
theorem Rk.putPage {w : World} {d : Ptrs} {s : St} (h : Rk w d s) (i : Nat) (t : ByteArray) (s' : St) (hp : s'.pages = s.pages.set i t) (hw : s'.waits = s.waits) (hf : s'.fuse = s.fuse) (hr : s'.reads = s.reads) (hwr : s'.writes = s.writes) (hfl : s'.flushes = s.flushes) (hg : Good s') :
    Rk (w.setCell ⟨d.P, i, none⟩ (.string t)) d s' := by
  obtain ⟨cur, hc, hsz, hle, hmx, htk⟩ := h.pages
  have hlen : s'.pages.length = s.pages.length := by rw [hp]; simp
  refine ⟨?_, ⟨cur.setIfInBounds i (.string t), ?_, by simpa using hsz, by rw [hlen]; exact hle, hmx, ?_⟩, ?_, h.dp, h.dw, h.pw, hg⟩
  · rw [heap_setCell_other _ _ _ _ h.dp, h.head, hlen, hf, hr, hwr, hfl]
  · exact heap_setCell_same _ _ _ _ _ _ hc
  · rw [hlen, hp]
    rw [Array.toList_setIfInBounds, List.take_set, htk]
    simp [sv, List.map_set]
  · rw [hw]
    refine ⟨h.waits.1, ?_⟩
    rcases h.waits.2 with hn | ⟨g, cap, cur', hv, hb0, hg', rest⟩
    · exact .inl hn
    · refine .inr ⟨g, cap, cur', hv, hb0, ?_, rest⟩
      rw [heap_setCell_other _ _ _ _ (fun e => h.pw (by rw [hv, e]; rfl))]; exact hg'
theorem Rk.alloc {w : World} {d : Ptrs} {s : St} (h : Rk w d s) (o : Obj) : Rk (w.alloc o) d s := h.below ((Below.refl _ _).alloc (Nat.le_refl _) o)
/-- what the disk is when its waits have grown -/
theorem Rk.pushed {w w2 : World} {d : Ptrs} {s : St} (h : Rk w d s) {g cap n : Nat} {t : ByteArray} (hn : n < s.pages.length) (ht : t.size = 256) (hf : s.waits.length < 1000000)
    (ho : w2.ownsRow 0 66 2 (.slice (some ⟨g, 0, none⟩) (s.waits.length + 1) cap) (s.waits.length + 1) (wcells s.waits ++ [.int .i64 n, .string t])) (hg : w.grownBy w2 d.wv.ownBlock) (hat : d.wv.ownBlock = some g ∨ g = w.heap.size) :
    Rk (w2.setCell ⟨d.D, 1, none⟩ (.slice (some ⟨g, 0, none⟩) (s.waits.length + 1) cap)) { d with wv := .slice (some ⟨g, 0, none⟩) (s.waits.length + 1) cap } (pushS s n t) := by
  have hgD : g ≠ d.D := by
    rcases hat with h1 | h1
    · intro e; exact h.dw (by rw [h1, e])
    · have := h.ltD; omega
  have hgP : g ≠ d.P := by
    rcases hat with h1 | h1
    · intro e; exact h.pw (by rw [h1, e])
    · have := h.ltP; omega
  have hD : w2.heap[d.D]? = w.heap[d.D]? := hg.block _ h.ltD (Ne.symm h.dw)
  have hP : w2.heap[d.P]? = w.heap[d.P]? := hg.block _ h.ltP (Ne.symm h.pw)
  refine ⟨?_, ?_, ?_, h.dp, ?_, ?_, push_good h.good hn ht hf⟩
  · rw [heap_setCell_same _ _ _ _ _ _ (by rw [hD]; exact h.head)]; rfl
  · show ∃ cur, (w2.setCell _ _).heap[d.P]? = _ ∧ _
    rw [heap_setCell_other _ _ _ _ (Ne.symm h.dp), hP]; exact h.pages
  · have e1 : (pushS s n t).waits.length = s.waits.length + 1 := by simp [pushS]
    have e2 : wcells (pushS s n t).waits = wcells s.waits ++ [.int .i64 n, .string t] := wcells_push _ _ _
    rw [e1, e2]
    refine ⟨ho.1, ?_⟩
    rcases ho.2 with ⟨hv, _⟩ | ⟨g', cap', cur, hv, hb0, hg', rest⟩
    · cases hv
    · refine .inr ⟨g', cap', cur, hv, hb0, ?_, rest⟩
      have : g' = g := by cases hv; rfl
      rw [this, heap_setCell_other _ _ _ _ hgD, ← this]; exact hg'
  · show some g ≠ some d.D
    intro e; exact hgD (by injection e)
  · show some g ≠ some d.P
    intro e; exact hgP (by injection e)
/-- where the waits stand, if there are any -/
theorem Rk.waitsAt {w : World} {d : Ptrs} {s : St} (h : Rk w d s) : ∃ p cap, d.wv = .slice p s.waits.length cap := by
  rcases h.waits.2 with ⟨hv, h0⟩ | ⟨g, cap, cur, hv, _⟩
  · exact ⟨none, 0, by rw [hv, h0]⟩
  · exact ⟨_, cap, hv⟩
theorem Rk.someAt {w : World} {d : Ptrs} {s : St} (h : Rk w d s) {p : Option Addr} {cap : Nat} (hv : d.wv = .slice p s.waits.length cap) (hn : 0 < s.waits.length) : ∃ gw, p = some ⟨gw, 0, none⟩ := by
  rcases h.waits.2 with ⟨_, h0⟩ | ⟨g, cap', cur, hv', _⟩
  · omega
  · rw [hv] at hv'; injection hv' with h1; exact ⟨g, h1⟩
/-- the waits are let go -/
theorem Rk.gone {w : World} {d : Ptrs} {s : St} (h : Rk w d s) : Rk (w.setCell ⟨d.D, 1, none⟩ (.slice none 0 0)) { d with wv := .slice none 0 0 } (noWaits s) := by
  refine ⟨?_, ?_, World.ownsRow_nil _ _ _ _, h.dp, by simp [Value.ownBlock], by simp [Value.ownBlock], noWaits_good h.good⟩
  · rw [heap_setCell_same _ _ _ _ _ _ h.head]; rfl
  · show ∃ cur, (w.setCell _ _).heap[d.P]? = _ ∧ _
    rw [heap_setCell_other _ _ _ _ (Ne.symm h.dp)]; exact h.pages
end Go.Proofs.Ytjjplkfgihogkaa.Dk
