/- Of and New of disk. -/
import Derived.Test.YtjjplkfgihogkaaDkSmall
namespace Go.Proofs.Ytjjplkfgihogkaa.Dk
open Go.RowKit
open Go.Lib (hid)

/-- a disk of an image, as new -/
def newS (l : List ByteArray) : St := ⟨l, [], -1, 0, 0, 0⟩
theorem newS_good {l : List ByteArray} (h1 : 1 ≤ l.length) (h2 : l.length ≤ 1000) (h3 : ∀ p ∈ l, p.size = 256) : Good (newS l) :=
  ⟨h1, h2, h3, (fun _ hx => (List.not_mem_nil hx).elim), Nat.zero_le _, by show (-1 : Int) ≤ -1 ∧ (-1 : Int) ≤ 9223372036854775807; omega, by show (0 : Int) ≤ 0 ∧ (0 : Int) ≤ 1000000; omega, by show (0 : Int) ≤ 0 ∧ (0 : Int) ≤ 1000000; omega, by show (0 : Int) ≤ 0 ∧ (0 : Int) ≤ 1000000; omega⟩

/-- a copy of a list of texts, in a row of its own -/
theorem clone_row (b off n c : Nat) (zs : List ByteArray) (w : World) (hn : zs.length = n) (h1 : 1 ≤ n) (h2 : n ≤ 1000)
    (hc : ∀ j, j < zs.length → w.cell? ⟨b, off + j, none⟩ = some (.string (zs.getD j ByteArray.empty))) :
    Calls Try.prog 38 #[.slice (some ⟨b, off, none⟩) n c] w fun e w' => ∃ g cap cur, e = .returned (.slice (some ⟨g, 0, none⟩) n cap) ∧ w.heap.size ≤ g ∧ w'.heap[g]? = some (.cells cur 9 (0, 0)) ∧ n ≤ cap ∧ cap ≤ maxLen ∧ cur.size = cap ∧ cur.toList.take n = sv zs ∧ Below w.heap.size w w' := by
  refine (Try.slices_Clone_string b off n c zs _ (by omega) (by omega) hc).mono ?_
  rintro e w1 ⟨v, rfl, ho, hne, hb⟩
  rcases ho.2 with ⟨hv, _⟩ | ⟨g, cap, cur, rfl, h3, h4, h5, h6, h7, h8⟩
  · exact absurd hv hne
  · refine ⟨g, cap, cur, rfl, h3, h4, h5, h6, by omega, ?_, hb⟩
    have e : zs.take n = zs := List.take_of_length_le (by omega)
    rw [Nat.mul_one, e] at h8
    exact h8

set_option maxRecDepth 100000 in
set_option maxHeartbeats 1000000 in
theorem of_ok (b off n c : Nat) (zs : List ByteArray) (w : World) (hn : zs.length = n) (h1 : 1 ≤ n) (h2 : n ≤ 1000) (h3 : ∀ p ∈ zs, p.size = 256)
    (hc : ∀ j, j < zs.length → w.cell? ⟨b, off + j, none⟩ = some (.string (zs.getD j ByteArray.empty))) :
    Calls Try.prog 24 #[.slice (some ⟨b, off, none⟩) n c] w fun e w' => ∃ d, e = .returned (.tuple #[.pointer (some ⟨d.D, 0, none⟩), .int .i64 0]) ∧ Dsk w' d (newS zs) ∧ Below w.heap.size w w' ∧ (∀ k, Foot d k → w.heap.size ≤ k) := by
  have HC := hid hc
  have HN := hid hn
  have H3 := hid h3
  clear hc h3 hn
  go_enter Try.func24, Try.ntmps24
  go_wp2_with (go_at_call 38; refine (clone_row b off n c zs _ HN.out h1 h2 HC.out).mono ?_; rintro e w1 ⟨g, cap, cur, rfl, hgb, hg, hle, hmx, hsz, htk, hb⟩; have HGB := hid hgb; have HG := hid hg; have HSZ := hid hsz; have HT := hid htk; have HB := hid hb; clear hgb hg hsz htk hb)
  have HCUR : Hid (∀ (k : Nat) (hk : k < n), cur[k]? = some (.string (zs[k]'(by have := HN.out; omega)))) := hid fun k hk => by
    have e := congrArg (·[k]?) HT.out
    rw [List.getElem?_take_of_lt hk] at e
    have hk' : k < zs.length := by have := HN.out; omega
    simp [sv, hk'] at e
    simpa using e
  go_loopw [19] (fun i wr => ∃ k : Nat, k ≤ n ∧ i = .int .i64 k ∧ wr.heap[g]? = some (.cells cur 9 (0, 0)) ∧ Below w.heap.size w wr) (fun i _ => n - (intOf i).toNat)
  case atStart => exact ⟨0, by omega, rfl, HG.out, HB.out⟩
  case round =>
    obtain ⟨k, hk, rfl, hgr, hbr⟩ := hrel
    have HGR := hid hgr; have HBR := hid hbr; clear hgr hbr
    by_cases hlt : k < n
    · have hk' : k < zs.length := by have := HN.out; omega
      have hcell : wr.cell? ⟨g, k, none⟩ = some (.string zs[k]) := by rw [cell_of_row _ _ _ _ _ _ HGR.out]; exact HCUR.out k hlt
      have hsz : zs[k].size = 256 := H3.out _ (List.getElem_mem hk')
      generalize ht : zs[k] = t at hcell hsz
      have HTK := hid ht; clear ht
      have e2 : ((t.size : Int) != 256) = false := by simp; omega
      have HSZ2 : Hid (t.size ≤ 1000000) := hid (by omega)
      clear hsz
      go_wp2_with (go_at_call 30; refine (own_ok t _ HSZ2.out).mono ?_; rintro e w2 ⟨rfl, hb⟩; have hg2 : w2.heap[g]? = some (.cells cur 9 (0, 0)) := (by rw [hb.block _ (Array.getElem?_eq_some_iff.1 HGR.out).1]; exact HGR.out); have c2 : w2.cell? ⟨g, k, none⟩ = some (.string t) := (by rw [cell_of_row _ _ _ _ _ _ hg2, HCUR.out k hlt, HTK.out]); have f2 : w2.frozen? ⟨g, k, none⟩ = false := frozen_of_row _ _ _ _ _ hg2; have HG2 := hid hg2; have HB2 := Fd.on_below HBR hb; clear hb hg2)
      go_roundw
      case rel =>
        refine ⟨k + 1, by omega, by go_num, ?_, HB2.out.setCell HGB.out _⟩
        rw [heap_setCell_same _ _ _ _ _ _ HG2.out]
        congr 2
        apply Array.ext_getElem?
        intro j
        rw [Array.getElem?_setIfInBounds]
        by_cases e : k = j
        · subst e
          have := HCUR.out k hlt
          rw [HTK.out] at this
          rw [if_pos rfl, this]
          have hks : k < cur.size := (Array.getElem?_eq_some_iff.1 this).1
          rw [if_pos hks]
        · rw [if_neg e]
      case measure => simp [intOf]; omega
    · obtain rfl : k = n := by omega
      go_wp2_with fail
      go_ret2
      have hgl : g < wr.heap.size := (Array.getElem?_eq_some_iff.1 HGR.out).1
      have hl : (newS zs).pages.length = k := HN.out
      refine ⟨⟨wr.heap.size, g, cap, .slice none 0 0⟩, rfl, ⟨?_, ⟨cur, ?_, HSZ.out, by rw [hl]; exact hle, hmx, by rw [hl]; exact HT.out⟩, ⟨rfl, .inl ⟨rfl, rfl⟩⟩, ?_, ?_, ?_, newS_good (by have := HN.out; omega) (by have := HN.out; omega) H3.out⟩, HBR.out.alloc HBR.out.size _, ?_⟩
      · rw [hl]; exact heap_alloc_new _ _
      · show (wr.alloc _).heap[g]? = _
        rw [Below.heap_alloc wr _ g hgl]; exact HGR.out
      · show wr.heap.size ≠ g
        omega
      · intro h; cases h
      · intro h; cases h
      · rintro j (rfl | rfl | hj)
        · exact HBR.out.size
        · exact HGB.out
        · cases hj
set_option maxHeartbeats 400000 in
theorem of_few (v : Value) (n c : Nat) (w : World) (hv : v = .slice none 0 0 ∧ n = 0 ∨ ∃ a, v = .slice (some a) n c) (hn : n < 1 ∨ 1000 < n) (hm : n ≤ maxLen) :
    Calls Try.prog 24 #[v] w fun e w' => e = .returned (.tuple #[.pointer none, .int .i64 1]) ∧ w = w' := by
  unfold maxLen at hm
  rcases hv with ⟨rfl, rfl⟩ | ⟨a, rfl⟩
  · go_enter Try.func24, Try.ntmps24
    go_wp2_with fail
    go_ret2
    exact ⟨rfl, rfl⟩
  · by_cases h1 : n < 1
    · obtain rfl : n = 0 := by omega
      go_enter Try.func24, Try.ntmps24
      go_wp2_with fail
      go_ret2
      exact ⟨rfl, rfl⟩
    · have h2 : (1000 : Int) < (n : Int) := by omega
      have h3 : decide ((n : Int) < 1) = false := by simp; omega
      clear hn h1
      go_enter Try.func24, Try.ntmps24
      go_wp2_with fail
      go_ret2
      exact ⟨rfl, rfl⟩
end Go.Proofs.Ytjjplkfgihogkaa.Dk
