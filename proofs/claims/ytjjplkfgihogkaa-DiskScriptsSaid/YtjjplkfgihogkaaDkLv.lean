/- A new disk among the calls: each call's contract, by what the disk is alone. -/
import Derived.Test.YtjjplkfgihogkaaDkRd
import Derived.Test.YtjjplkfgihogkaaDkHas
import Derived.Test.YtjjplkfgihogkaaDkCrashNo
import Derived.Test.YtjjplkfgihogkaaDkBad
import Derived.Test.YtjjplkfgihogkaaDkWaits
import Derived.Test.YtjjplkfgihogkaaDkWrite
namespace Go.Proofs.Ytjjplkfgihogkaa.Dk
open Go.RowKit
open Go.Lib (hid)

/-- a disk at D that is new since w, and nothing that was there at w has turned -/
structure Lv (w wr : World) (D : Nat) (s : St) : Prop where
  ex : ∃ d : Ptrs, d.D = D ∧ Dsk wr d s ∧ ∀ k, Foot d k → w.heap.size ≤ k
  below : Below w.heap.size w wr
theorem Lv.good {w wr : World} {D : Nat} {s : St} (h : Lv w wr D s) : Good s := by obtain ⟨d, _, hd, _⟩ := h.ex; exact hd.good
theorem Lv.next {w wr w' : World} {D : Nat} {s : St} (h : Lv w wr D s) (hb : Below wr.heap.size wr w') : Lv w w' D s := by
  obtain ⟨d, h1, hd, hf⟩ := h.ex
  exact ⟨⟨d, h1, hd.below hb, hf⟩, h.below.trans (hb.mono h.below.size)⟩
theorem Lv.alloc {w wr : World} {D : Nat} {s : St} (h : Lv w wr D s) (o : Obj) : Lv w (wr.alloc o) D s := h.next ((Below.refl _ _).alloc (Nat.le_refl _) o)
theorem Lv.drewN {w wr : World} {D : Nat} {s : St} (h : Lv w wr D s) (n : Nat) : Lv w (wr.drewN n) D s := by
  obtain ⟨d, h1, hd, hf⟩ := h.ex
  exact ⟨⟨d, h1, hd.drewN n, hf⟩, ⟨h.below.os, h.below.tape, h.below.output, h.below.size, h.below.block⟩⟩
theorem Lv.drew {w wr : World} {D : Nat} {s : St} (h : Lv w wr D s) : Lv w wr.drew D s := by
  obtain ⟨d, h1, hd, hf⟩ := h.ex
  exact ⟨⟨d, h1, hd.drew, hf⟩, ⟨h.below.os, h.below.tape, h.below.output, h.below.size, h.below.block⟩⟩
theorem Lv.step {w wr w' : World} {d : Ptrs} (d' : Ptrs) {s' : St} (hf : ∀ k, Foot d k → w.heap.size ≤ k) (hb : Below w.heap.size w wr) (hd : Dsk w' d' s') (ho : Only d wr w') (hfr : From d d' wr) (hDD : d'.D = d.D) : Lv w w' d.D s' :=
  ⟨⟨d', hDD, hd, fun k hk => by
    rcases hfr k hk with h | h
    · exact hf k h
    · have := hb.size; omega⟩, hb.trans (ho.to_below hb.size hf)⟩
theorem lv_new (n : Nat) (w wr : World) (hb : Below w.heap.size w wr) (h1 : 1 ≤ n) (h2 : n ≤ 1000) :
    Calls Try.prog 4 #[.int .i64 (n : Int)] wr fun e w' => ∃ D, e = .returned (.tuple #[.pointer (some ⟨D, 0, none⟩), .int .i64 0]) ∧ Lv w w' D (newS (blanks n)) :=
  (new_ok n wr h1 h2).mono fun _ _ ⟨d, h1, h2, h3, h4⟩ => ⟨d.D, h1, ⟨⟨d, rfl, h2, fun k hk => Nat.le_trans hb.size (h4 k hk)⟩, hb.trans (h3.mono hb.size)⟩⟩
theorem lv_write (n : Nat) (t : ByteArray) {w wr : World} {D : Nat} {s : St} (h : Lv w wr D s) (hn : n < s.pages.length) (ht : t.size = 256) (hfz : s.fuse ≠ 0) (hf : s.waits.length < 1000000) (hw : s.writes < 1000000) :
    Calls Try.prog 7 #[.pointer (some ⟨D, 0, none⟩), .int .i64 (n : Int), .string t] wr fun e w' => e = .returned (.int .i64 0) ∧ Lv w w' D (writeS s n t) := by
  obtain ⟨d, rfl, hd, hfo⟩ := h.ex
  exact (write_ok d s n t wr hd hn ht hfz hf hw).mono fun _ _ ⟨h1, v, h2, h3, h4⟩ => ⟨h1, Lv.step { d with wv := v } hfo h.below h2 h3 h4 rfl⟩
theorem lv_write_bad (n : Int) (t : ByteArray) {w wr : World} {D : Nat} {s : St} (h : Lv w wr D s) (hb : n < 0 ∨ s.pages.length ≤ n ∨ t.size ≠ 256 ∨ s.fuse = 0) :
    Calls Try.prog 7 #[.pointer (some ⟨D, 0, none⟩), .int .i64 n, .string t] wr fun e w' => e = .returned (.int .i64 1) ∧ wr = w' := by
  obtain ⟨d, rfl, hd, hfo⟩ := h.ex
  exact write_bad d s n t wr hd hb
theorem lv_flush {w wr : World} {D : Nat} {s : St} (h : Lv w wr D s) (hfz : s.fuse ≠ 0) (hfl : s.flushes < 1000000) :
    Calls Try.prog 12 #[.pointer (some ⟨D, 0, none⟩)] wr fun e w' => e = .returned (.int .i64 (s.waits.length : Int)) ∧ Lv w w' D (flushS s) := by
  obtain ⟨d, rfl, hd, hfo⟩ := h.ex
  exact (flush_ok d s wr hd hfz hfl).mono fun _ _ ⟨h1, v, h2, h3, h4⟩ => ⟨h1, Lv.step { d with wv := v } hfo h.below h2 h3 h4 rfl⟩
theorem lv_read (i : Nat) (t : ByteArray) {w wr : World} {D : Nat} {s : St} (h : Lv w wr D s) (hi : i < s.pages.length) (hr : s.reads < 1000000) (ht : (applyW s.pages s.waits)[i]? = some t) :
    Calls Try.prog 10 #[.pointer (some ⟨D, 0, none⟩), .int .i64 (i : Int)] wr fun e w' => e = .returned (.tuple #[.string t, .int .i64 0]) ∧ Lv w w' D (readS s) := by
  obtain ⟨d, rfl, hd, hfo⟩ := h.ex
  refine (read_ok d s i wr hd hi hr).mono fun _ _ ⟨t', h1, h2, h3, h4⟩ => ?_
  rw [ht] at h2
  cases h2
  exact ⟨h1, Lv.step d hfo h.below h3 h4 (From.refl _ _) rfl⟩
theorem lv_crash (q : Option Addr) (c : Nat) (ks : List Int) (torn a : Int) (o : List ByteArray) {w wr : World} {D : Nat} {s : St} (h : Lv w wr D s) (hks : Kept wr q ks) (hkm : ks.length ≤ maxLen) (hc : comeS s ks torn a = some o) :
    Calls Try.prog 15 #[.pointer (some ⟨D, 0, none⟩), .slice q ks.length c, .int .i64 torn, .int .i64 a] wr fun e w' => e = .returned (.int .i64 0) ∧ Lv w w' D (crashS s o) := by
  obtain ⟨d, rfl, hd, hfo⟩ := h.ex
  exact (crash_ok d s wr hd q c ks hks hkm torn a o hc).mono fun _ _ ⟨h1, v, h2, h3, h4⟩ => ⟨h1, Lv.step { d with wv := v } hfo h.below h2 h3 h4 rfl⟩
theorem lv_counts {w wr : World} {D : Nat} {s : St} (h : Lv w wr D s) :
    Calls Try.prog 17 #[.pointer (some ⟨D, 0, none⟩)] wr fun e w' => e = .returned (.tuple #[.int .i64 s.reads, .int .i64 s.writes, .int .i64 s.flushes]) ∧ ∃ n, w' = wr.drewN n := by
  obtain ⟨d, rfl, hd, hfo⟩ := h.ex
  exact counts_ok d s wr hd
theorem lv_size {w wr : World} {D : Nat} {s : St} (h : Lv w wr D s) :
    Calls Try.prog 23 #[.pointer (some ⟨D, 0, none⟩)] wr fun e w' => e = .returned (.int .i64 (s.pages.length : Int)) ∧ wr = w' := by
  obtain ⟨d, rfl, hd, hfo⟩ := h.ex
  exact size_ok d s wr hd
theorem lv_image {w wr : World} {D : Nat} {s : St} (h : Lv w wr D s) :
    Calls Try.prog 19 #[.pointer (some ⟨D, 0, none⟩)] wr fun e w' => ∃ g cap, e = .returned (.slice (some ⟨g, 0, none⟩) s.pages.length cap) ∧ wr.heap.size ≤ g ∧ g < w'.heap.size ∧ (∀ j (hj : j < s.pages.length), w'.cell? ⟨g, j, none⟩ = some (.string s.pages[j])) ∧ Below wr.heap.size wr w' := by
  obtain ⟨d, rfl, hd, hfo⟩ := h.ex
  refine (image_ok d s wr hd).mono fun e w' ⟨v, h1, h2, h3⟩ => ?_
  have hn := hd.good.n1
  rcases h2.2 with ⟨_, h0⟩ | ⟨g, cap, cur, rfl, h4, h5, h6, h7, h8, h9⟩
  · omega
  · refine ⟨g, cap, h1, h4, (Array.getElem?_eq_some_iff.1 h5).1, fun j hj => ?_, h3⟩
    rw [cell_of_row _ _ _ _ _ _ h5]
    rw [Nat.mul_one] at h9
    have e := congrArg (·[j]?) h9
    rw [List.getElem?_take_of_lt hj] at e
    simp [sv, hj] at e
    simpa using e
theorem lv_waits {w wr : World} {D : Nat} {s : St} (h : Lv w wr D s) :
    Calls Try.prog 21 #[.pointer (some ⟨D, 0, none⟩)] wr fun e w' => ∃ p cap, e = .returned (.slice p s.waits.length cap) ∧ Below wr.heap.size wr w' := by
  obtain ⟨d, rfl, hd, hfo⟩ := h.ex
  refine (waits_ok d s wr hd).mono fun e w' ⟨v, h1, h2, h3⟩ => ?_
  rcases h2.2 with ⟨hv, h0⟩ | ⟨g, cap, cur, rfl, _⟩
  · exact ⟨none, 0, by rw [h1, hv, h0], h3⟩
  · exact ⟨_, cap, h1, h3⟩
end Go.Proofs.Ytjjplkfgihogkaa.Dk
