/-
  DERIVED. GIVEN WITH THE SEED: THE CARDS: each row of YtgihpdhkjneimaaGreatDoorRows.lean that lists a variable, with what it lists TIED to the program's text (the seventh form; the later family's looks); each row that meets fmt, with fmt's text TOLD by the authors' own Lean function (tested against real Go, not proved from fmt's source: count such statements apart). THE CARD IS WHAT COUNTS. Prove the row's statement (the work); the ties are given (YtgihpdhkjneimaaGreatDoorTie.lean); close each card by the builder's one call (the guide's Derived/Test/ToyasCard.lean, 'card_holds'). Laid BY PROGRAM, IN A SANDBOX (cutbox-door.mjs). By AI agents, Wed Nov 11 2026. No macro, syntax, notation, axiom, sorry.
-/
import Derived.Test.YtgihpdhkjneimaaGreatDoorRows
import GoSem.ClaimSeven
namespace Go.Proofs.YtgihpdhkjneimaaGreatDoor
namespace Rows

/-- THE TIED CARD OF 'cadastrelaw23.PagerScripts'. -/
def pagerScriptsCard : Claim7 := { stood := { row := pagerScriptsRow, standIns := [], harness := (true, "2d7bddabf12dae611c8122c1f2c39ca4959454f07add55255dd14400b440778a"), looks := false }, kinds := [], alts := [], laidByText := true, laidKinds := [.data], laidTests := true, laidLooks := .later }
def PagerScriptsCardSaid : Prop := Claim7.holds Tryz.pinned (.plain (OpenSpec.ofChange pagerScriptsSpec)) pagerScriptsCard

/-- THE TIED CARD OF 'cadastrelaw23.PagerCrash'. -/
def pagerCrashCard : Claim7 := { stood := { row := pagerCrashRow, standIns := [], harness := (true, "2d7bddabf12dae611c8122c1f2c39ca4959454f07add55255dd14400b440778a"), looks := false }, kinds := [], alts := [], laidByText := true, laidKinds := [.data], laidTests := true, laidLooks := .later }
def PagerCrashCardSaid : Prop := Claim7.holds Tryz.pinned (.plain (OpenSpec.ofChange pagerCrashSpec)) pagerCrashCard

/-- THE TIED CARD OF 'cadastrelaw23.PagerBack'. -/
def pagerBackCard : Claim7 := { stood := { row := pagerBackRow, standIns := [], harness := (true, "2d7bddabf12dae611c8122c1f2c39ca4959454f07add55255dd14400b440778a"), looks := false }, kinds := [], alts := [], laidByText := true, laidKinds := [.data], laidTests := true, laidLooks := .later }
def PagerBackCardSaid : Prop := Claim7.holds Tryz.pinned (.plain (OpenSpec.ofChange pagerBackSpec)) pagerBackCard

/-- THE TIED CARD OF 'cadastrelaw23.PagerNil'. -/
def pagerNilCard : Claim7 := { stood := { row := pagerNilRow, standIns := [], harness := (true, "2d7bddabf12dae611c8122c1f2c39ca4959454f07add55255dd14400b440778a"), looks := false }, kinds := [], alts := [], laidByText := true, laidKinds := [.data], laidTests := true, laidLooks := .later }
def PagerNilCardSaid : Prop := Claim7.holds Tryz.pinned (.plain (OpenSpec.ofChange pagerNilSpec)) pagerNilCard

/-- THE TIED CARD OF 'cadastrelaw23.PagerFew'. -/
def pagerFewCard : Claim7 := { stood := { row := pagerFewRow, standIns := [], harness := (true, "2d7bddabf12dae611c8122c1f2c39ca4959454f07add55255dd14400b440778a"), looks := false }, kinds := [], alts := [], laidByText := true, laidKinds := [.data], laidTests := true, laidLooks := .later }
def PagerFewCardSaid : Prop := Claim7.holds Tryz.pinned (.plain (OpenSpec.ofChange pagerFewSpec)) pagerFewCard

/-- THE SECOND FORM's CARD OF 'cadastrelaw23.PagerScripts'. -/
def pagerScriptsUptoCard : Claim7 := { stood := { row := pagerScriptsUptoRow, standIns := [], harness := (true, "2d7bddabf12dae611c8122c1f2c39ca4959454f07add55255dd14400b440778a"), looks := false }, kinds := [], alts := [], laidByText := true, laidKinds := [.data], laidTests := true, laidLooks := .later }
def PagerScriptsUptoCardSaid : Prop := Claim7.holds Tryz.pinned (.plain (OpenSpec.upto pagerScriptsSpec)) pagerScriptsUptoCard

/-- THE SECOND FORM's CARD OF 'cadastrelaw23.PagerCrash'. -/
def pagerCrashUptoCard : Claim7 := { stood := { row := pagerCrashUptoRow, standIns := [], harness := (true, "2d7bddabf12dae611c8122c1f2c39ca4959454f07add55255dd14400b440778a"), looks := false }, kinds := [], alts := [], laidByText := true, laidKinds := [.data], laidTests := true, laidLooks := .later }
def PagerCrashUptoCardSaid : Prop := Claim7.holds Tryz.pinned (.plain (OpenSpec.upto pagerCrashSpec)) pagerCrashUptoCard

/-- THE SECOND FORM's CARD OF 'cadastrelaw23.PagerBack'. -/
def pagerBackUptoCard : Claim7 := { stood := { row := pagerBackUptoRow, standIns := [], harness := (true, "2d7bddabf12dae611c8122c1f2c39ca4959454f07add55255dd14400b440778a"), looks := false }, kinds := [], alts := [], laidByText := true, laidKinds := [.data], laidTests := true, laidLooks := .later }
def PagerBackUptoCardSaid : Prop := Claim7.holds Tryz.pinned (.plain (OpenSpec.upto pagerBackSpec)) pagerBackUptoCard

/-- THE SECOND FORM's CARD OF 'cadastrelaw23.PagerNil'. -/
def pagerNilUptoCard : Claim7 := { stood := { row := pagerNilUptoRow, standIns := [], harness := (true, "2d7bddabf12dae611c8122c1f2c39ca4959454f07add55255dd14400b440778a"), looks := false }, kinds := [], alts := [], laidByText := true, laidKinds := [.data], laidTests := true, laidLooks := .later }
def PagerNilUptoCardSaid : Prop := Claim7.holds Tryz.pinned (.plain (OpenSpec.upto pagerNilSpec)) pagerNilUptoCard

/-- THE SECOND FORM's CARD OF 'cadastrelaw23.PagerFew'. -/
def pagerFewUptoCard : Claim7 := { stood := { row := pagerFewUptoRow, standIns := [], harness := (true, "2d7bddabf12dae611c8122c1f2c39ca4959454f07add55255dd14400b440778a"), looks := false }, kinds := [], alts := [], laidByText := true, laidKinds := [.data], laidTests := true, laidLooks := .later }
def PagerFewUptoCardSaid : Prop := Claim7.holds Tryz.pinned (.plain (OpenSpec.upto pagerFewSpec)) pagerFewUptoCard
end Rows
end Go.Proofs.YtgihpdhkjneimaaGreatDoor
