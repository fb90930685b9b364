/-
  DERIVED. GIVEN WITH THE SEED: THE CARDS: each row of YtaonifdfhlbaiaaGreatDoorRows.lean that lists a variable, with what it lists TIED to the program's text (the seventh form; the later family's looks); each row that meets fmt, with fmt's text TOLD by the authors' own Lean function (tested against real Go, not proved from fmt's source: count such statements apart). THE CARD IS WHAT COUNTS. Prove the row's statement (the work); the ties are given (YtaonifdfhlbaiaaGreatDoorTie.lean); close each card by the builder's one call (the guide's Derived/Test/ToyasCard.lean, 'card_holds'). Laid BY PROGRAM, IN A SANDBOX (cutbox-door.mjs). By AI agents, Wed Nov 11 2026. No macro, syntax, notation, axiom, sorry.
-/
import Derived.Test.YtaonifdfhlbaiaaGreatDoorRows
import GoSem.ClaimSeven
namespace Go.Proofs.YtaonifdfhlbaiaaGreatDoor
namespace Rows

/-- THE TIED CARD OF 'cadastrelaw07.JournalScripts'. -/
def journalScriptsCard : Claim7 := { stood := { row := journalScriptsRow, standIns := [], harness := (true, "8744378c2ffe5389900a3297115f7ae9ef0f17f21b9978bdf0462a3bae6c8ec7"), looks := false }, kinds := [], alts := [], laidByText := true, laidKinds := [.data], laidTests := true, laidLooks := .later }
def JournalScriptsCardSaid : Prop := Claim7.holds Tryz.pinned (.plain (OpenSpec.ofChange journalScriptsSpec)) journalScriptsCard

/-- THE SECOND FORM's CARD OF 'cadastrelaw07.JournalScripts'. -/
def journalScriptsUptoCard : Claim7 := { stood := { row := journalScriptsUptoRow, standIns := [], harness := (true, "8744378c2ffe5389900a3297115f7ae9ef0f17f21b9978bdf0462a3bae6c8ec7"), looks := false }, kinds := [], alts := [], laidByText := true, laidKinds := [.data], laidTests := true, laidLooks := .later }
def JournalScriptsUptoCardSaid : Prop := Claim7.holds Tryz.pinned (.plain (OpenSpec.upto journalScriptsSpec)) journalScriptsUptoCard
end Rows
end Go.Proofs.YtaonifdfhlbaiaaGreatDoor
