/- Pages that came in, as a list. -/
import Derived.Test.YtigaddpjmgncmaaDoorEnOpn
namespace Go.Proofs.YtigaddpjmgncmaaDoor.En
open Go.RowKit
theorem pgs_list {w : World} {a : Option Addr} {len : Nat} (h : IsPgs w a len) : ∃ L : List PageT, L.length = len ∧ Pgs w a L ∧ ∀ p ∈ L, (-9223372036854775808 ≤ p.1 ∧ p.1 ≤ 9223372036854775807) ∧ (-9223372036854775808 ≤ p.2.1 ∧ p.2.1 ≤ 9223372036854775807) ∧ p.2.2.size ≤ 9223372036854775807 := by
  rcases h.2 with h0 | ⟨b, off, e, hlt, hd⟩
  · exact ⟨[], h0.symm, (fun i hi => absurd hi (by simp)), (fun p hp => absurd hp (by simp))⟩
  · refine ⟨(List.range len).attach.map fun i => ((hd i.1 (List.mem_range.1 i.2)).choose.a0, (hd i.1 (List.mem_range.1 i.2)).choose.a1, (hd i.1 (List.mem_range.1 i.2)).choose.t2), by simp, fun i hi => ?_, fun p hp => ?_⟩
    · have hi' : i < len := by simpa using hi
      have hs := (hd i hi').choose_spec
      refine ⟨b, off, e, hlt, ?_, ?_, ?_⟩
      · simpa using hs.d0
      · simpa using hs.d1
      · simpa using hs.d2
    · obtain ⟨i, -, rfl⟩ := List.mem_map.1 hp
      have hs := (hd i.1 (List.mem_range.1 i.2)).choose_spec
      exact ⟨hs.ok.f0, hs.ok.f1, hs.ok.f2⟩
end Go.Proofs.YtigaddpjmgncmaaDoor.En
