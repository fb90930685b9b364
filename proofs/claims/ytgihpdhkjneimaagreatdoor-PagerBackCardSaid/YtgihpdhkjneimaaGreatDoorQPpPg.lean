/- Pages that came in, in a struct. -/
import Derived.Test.YtgihpdhkjneimaaGreatDoorQPpCrOpn
import Derived.Test.YtgihpdhkjneimaaGreatDoorP21
namespace Go.Proofs.YtgihpdhkjneimaaGreatDoor.Pp
open Go.RowKit
open Go.Proofs.YtgihpdhkjneimaaGreatDoor.Dk
open Go.Proofs.YtgihpdhkjneimaaGreatDoor.En (PageT Pgs)
/-- pages that came in -/
theorem pppgs {w : World} {a : Option Addr} {len : Nat} (h : Dk.IsPgs w a len) : ∃ L : List PageT, L.length = len ∧ Pgs w a L := by
  rcases h.2 with h0 | ⟨b, off, e, hlt, hd⟩
  · exact ⟨[], h0.symm, (fun i hi => absurd hi (by simp))⟩
  · refine ⟨(List.range len).attach.map fun i => ((hd i.1 (List.mem_range.1 i.2)).choose.a0, (hd i.1 (List.mem_range.1 i.2)).choose.a1, (hd i.1 (List.mem_range.1 i.2)).choose.t2), by simp, fun i hi => ?_⟩
    have hi' : i < len := by simpa using hi
    have hs := (hd i hi').choose_spec
    refine ⟨b, off, e, hlt, ?_, ?_, ?_⟩
    · simpa using hs.d0
    · simpa using hs.d1
    · simpa using hs.d2
end Go.Proofs.YtgihpdhkjneimaaGreatDoor.Pp
