/- Of of disk, where a page has another size. -/
import Derived.Test.YtjjplkfgihogkaaDkOf
namespace Go.Proofs.Ytjjplkfgihogkaa.Dk
open Go.RowKit
open Go.Lib (hid)

set_option maxRecDepth 100000 in
set_option maxHeartbeats 1000000 in
theorem of_bad (b off n c : Nat) (zs : List ByteArray) (w : World) (hn : zs.length = n) (h1 : 1 ≤ n) (h2 : n ≤ 1000) (h3 : ∃ p ∈ zs, p.size ≠ 256)
    (hc : ∀ j, j < zs.length → w.cell? ⟨b, off + j, none⟩ = some (.string (zs.getD j ByteArray.empty))) :
    Calls Try.prog 24 #[.slice (some ⟨b, off, none⟩) n c] w fun e w' => e = .returned (.tuple #[.pointer none, .int .i64 1]) ∧ Below w.heap.size w w' := by
  have HC := hid hc
  have HN := hid hn
  have H3 := hid h3
  clear hc h3 hn
  go_enter Try.func24, Try.ntmps24
  go_wp2_with (go_at_call 38; refine (clone_row b off n c zs _ HN.out h1 h2 HC.out).mono ?_; rintro e w1 ⟨g, cap, cur, rfl, hgb, hg, hle, hmx, hsz, htk, hb⟩; have HGB := hid hgb; have HG := hid hg; have HSZ := hid hsz; have HT := hid htk; have HB := hid hb; clear hgb hg hsz htk hb)
  have HCUR : Hid (∀ (k : Nat) (hk : k < n), cur[k]? = some (.string (zs[k]'(by have := HN.out; omega)))) := hid fun k hk => by
    have e := congrArg (·[k]?) HT.out
    rw [List.getElem?_take_of_lt hk] at e
    have hk' : k < zs.length := by have := HN.out; omega
    simp [sv, hk'] at e
    simpa using e
  go_loopw [19] (fun i wr => ∃ k : Nat, k ≤ n ∧ i = .int .i64 k ∧ wr.heap[g]? = some (.cells cur 9 (0, 0)) ∧ Below w.heap.size w wr ∧ ∀ p ∈ zs.take k, p.size = 256) (fun i _ => n - (intOf i).toNat)
  case atStart => exact ⟨0, by omega, rfl, HG.out, HB.out, fun _ h => (List.not_mem_nil h).elim⟩
  case round =>
    obtain ⟨k, hk, rfl, hgr, hbr, hall⟩ := hrel
    have HGR := hid hgr; have HBR := hid hbr; have HA := hid hall; clear hgr hbr hall
    by_cases hlt : k < n
    · have hk' : k < zs.length := by have := HN.out; omega
      have hcell : wr.cell? ⟨g, k, none⟩ = some (.string zs[k]) := by rw [cell_of_row _ _ _ _ _ _ HGR.out]; exact HCUR.out k hlt
      have HMORE : Hid (zs[k].size = 256 → ∀ p ∈ zs.take (k + 1), p.size = 256) := hid fun h p hp => by
        rw [List.take_succ_eq_append_getElem hk', List.mem_append, List.mem_singleton] at hp
        rcases hp with hp | rfl
        · exact HA.out p hp
        · exact h
      by_cases hs : zs[k].size = 256
      · have hall2 := hid (HMORE.out hs)
        clear HMORE
        have hsz := hs; clear hs
        generalize ht : zs[k] = t at hcell hsz
        have HTK := hid ht; clear ht
        have e2 : ((t.size : Int) != 256) = false := by simp; omega
        have HSZ2 : Hid (t.size ≤ 1000000) := hid (by omega)
        clear hsz
        go_wp2_with (go_at_call 30; refine (own_ok t _ HSZ2.out).mono ?_; rintro e w2 ⟨rfl, hb⟩; have hg2 : w2.heap[g]? = some (.cells cur 9 (0, 0)) := (by rw [hb.block _ (Array.getElem?_eq_some_iff.1 HGR.out).1]; exact HGR.out); have c2 : w2.cell? ⟨g, k, none⟩ = some (.string t) := (by rw [cell_of_row _ _ _ _ _ _ hg2, HCUR.out k hlt, HTK.out]); have f2 : w2.frozen? ⟨g, k, none⟩ = false := frozen_of_row _ _ _ _ _ hg2; have HG2 := hid hg2; have HB2 := Fd.on_below HBR hb; clear hb hg2)
        go_roundw
        case rel =>
          refine ⟨k + 1, by omega, by go_num, ?_, HB2.out.setCell HGB.out _, hall2.out⟩
          rw [heap_setCell_same _ _ _ _ _ _ HG2.out]
          congr 2
          apply Array.ext_getElem?
          intro j
          rw [Array.getElem?_setIfInBounds]
          by_cases e : k = j
          · subst e
            have := HCUR.out k hlt
            rw [HTK.out] at this
            rw [if_pos rfl, this]
            have hks : k < cur.size := (Array.getElem?_eq_some_iff.1 this).1
            rw [if_pos hks]
          · rw [if_neg e]
        case measure => simp [intOf]; omega
      · clear HMORE
        generalize ht : zs[k] = t at hcell hs
        clear ht
        have e2 : ((t.size : Int) != 256) = true := by simp; omega
        clear hs
        go_wp2_with fail
        go_ret2
        exact ⟨rfl, HBR.out⟩
    · obtain rfl : k = n := by omega
      obtain ⟨p, hp, hne⟩ := H3.out
      refine absurd (HA.out p ?_) hne
      rw [List.take_of_length_le (by have := HN.out; omega)]; exact hp
end Go.Proofs.Ytjjplkfgihogkaa.Dk
