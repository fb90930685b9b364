/-
  NARROWER THAN 'FOR EVERY INPUT', by the rows' own cells (each row's printed sentence says how): PagerScripts: laid · PagerCrash: laid · PagerBack: laid · PagerNil: laid · PagerFew: laid.
  DERIVED. THE GIVEN ROWS OF THIS SEAT. 5 by the template 'for every input the law returns true; each argument reads behind the call as it read before'; 0 by the template 'total and deterministic' (their statements: YtgihpdhkjneimaaGreatDoorTotals.lean).
  GIVEN WITH THE SEED: the statements are not yours to turn. If you find one false, say at which input.
  Laid BY PROGRAM, IN A SANDBOX (cutbox-rows.mjs): the forced cells as the released guide's own fill.sh prints them over the translation ed2e8b65b5b9c32a… (all of the seat's roots in one cut). By AI agents, Wed Nov 11 2026. No macro, syntax, notation, axiom, sorry.
-/
import Derived.Test.YtgihpdhkjneimaaGreatDoorChecked
import GoSem.Claim
import GoSem.ClaimJoined
import GoSem.ClaimMapViews
import Derived.JoinedTies
import Derived.KernelRfl
namespace Go.Proofs.YtgihpdhkjneimaaGreatDoor
/- THE CELL 'sum', in the pinned program and in every row, IS THE sha256 OF THE DUMP (.gsa) THAT YtgihpdhkjneimaaGreatDoorProg.lean LOADS. Nothing in Lean hashes anything: it is a label: what it is worth is what the hold of that sum in a sandbox is worth. -/
noncomputable def Tryz.pinned : Pinned := { name := "ytgihpdhkjneimaagreatdoor", sum := "ed2e8b65b5b9c32ace49fcf54666cb9d0d410cc750b0e6ffd32e1c89a291dd1f", checked := Tryz.checked }
namespace Rows
def none {H : Type} : Left H := { results := [], args := [] }

/- WHAT THE LISTED PACKAGE-LEVEL VARIABLES READ AS WHEN THE CALL BEGINS. Each datum BY PROGRAM (the guide's laid-datum.mjs) off the statement by which the dump's own 'gosem.cut.vars' lays the variable. In a bare row this is a premise. The card (YtgihpdhkjneimaaGreatDoorCards.lean) ties it to the program's text. -/
def laid_cadastre_entry_least {H : Type} : DataW H := .agg [.lit (.int .i64 0), .lit (.int .i64 10), .lit (.int .i64 13), .lit (.int .i64 7)]

/-- 'cadastrelaw23.PagerScripts': WHATEVER THE INPUT: true; the input reads as it did. -/
def pagerScriptsSpec : ChangeSpec := { name := "pagerScripts", fn := fun _ => fun
  | [d1, d2, d3] => { results := [.lit (.bool true)], args := [d1, d2, d3] }
  | _ => none }
def pagerScriptsRow : OpenClaim := { program := "ytgihpdhkjneimaagreatdoor", sum := "ed2e8b65b5b9c32ace49fcf54666cb9d0d410cc750b0e6ffd32e1c89a291dd1f", func := "cadastre/cadastrelaw23.PagerScripts", spec := "pagerScripts", inPlace := ["internal/abi.NoEscape", "internal/bytealg.MakeNoZero"], unfollowed := true, recurses := true, named := ["cadastre/entry.least"], apart := false, laid := [("cadastre/entry.least", laid_cadastre_entry_least)] }
def PagerScriptsSaid : Prop := pagerScriptsRow.holds Tryz.pinned (OpenSpec.ofChange pagerScriptsSpec)

/-- ITS FALSE NEIGHBOUR: 'it returns false'. Refute it at one input. -/
def pagerScriptsWrong : ChangeSpec := { name := "pagerScripts", fn := fun _ => fun
  | [d1, d2, d3] => { results := [.lit (.bool false)], args := [d1, d2, d3] }
  | _ => none }
def PagerScriptsWrongFalsely : Prop := pagerScriptsRow.holds Tryz.pinned (OpenSpec.ofChange pagerScriptsWrong)

/-- 'cadastrelaw23.PagerCrash': WHATEVER THE INPUT: true; the input reads as it did. -/
def pagerCrashSpec : ChangeSpec := { name := "pagerCrash", fn := fun _ => fun
  | [d] => { results := [.lit (.bool true)], args := [d] }
  | _ => none }
def pagerCrashRow : OpenClaim := { program := "ytgihpdhkjneimaagreatdoor", sum := "ed2e8b65b5b9c32ace49fcf54666cb9d0d410cc750b0e6ffd32e1c89a291dd1f", func := "cadastre/cadastrelaw23.PagerCrash", spec := "pagerCrash", inPlace := ["internal/abi.NoEscape", "internal/bytealg.MakeNoZero"], unfollowed := true, recurses := true, named := ["cadastre/entry.least"], apart := false, laid := [("cadastre/entry.least", laid_cadastre_entry_least)] }
def PagerCrashSaid : Prop := pagerCrashRow.holds Tryz.pinned (OpenSpec.ofChange pagerCrashSpec)

/-- ITS FALSE NEIGHBOUR: 'it returns false'. Refute it at one input. -/
def pagerCrashWrong : ChangeSpec := { name := "pagerCrash", fn := fun _ => fun
  | [d] => { results := [.lit (.bool false)], args := [d] }
  | _ => none }
def PagerCrashWrongFalsely : Prop := pagerCrashRow.holds Tryz.pinned (OpenSpec.ofChange pagerCrashWrong)

/-- 'cadastrelaw23.PagerBack': WHATEVER THE INPUT: true; the input reads as it did. -/
def pagerBackSpec : ChangeSpec := { name := "pagerBack", fn := fun _ => fun
  | [d1, d2, d3] => { results := [.lit (.bool true)], args := [d1, d2, d3] }
  | _ => none }
def pagerBackRow : OpenClaim := { program := "ytgihpdhkjneimaagreatdoor", sum := "ed2e8b65b5b9c32ace49fcf54666cb9d0d410cc750b0e6ffd32e1c89a291dd1f", func := "cadastre/cadastrelaw23.PagerBack", spec := "pagerBack", inPlace := ["internal/abi.NoEscape", "internal/bytealg.MakeNoZero"], unfollowed := true, recurses := true, named := ["cadastre/entry.least"], apart := false, laid := [("cadastre/entry.least", laid_cadastre_entry_least)] }
def PagerBackSaid : Prop := pagerBackRow.holds Tryz.pinned (OpenSpec.ofChange pagerBackSpec)

/-- ITS FALSE NEIGHBOUR: 'it returns false'. Refute it at one input. -/
def pagerBackWrong : ChangeSpec := { name := "pagerBack", fn := fun _ => fun
  | [d1, d2, d3] => { results := [.lit (.bool false)], args := [d1, d2, d3] }
  | _ => none }
def PagerBackWrongFalsely : Prop := pagerBackRow.holds Tryz.pinned (OpenSpec.ofChange pagerBackWrong)

/-- 'cadastrelaw23.PagerNil': WHATEVER THE INPUT: true; the input reads as it did. -/
def pagerNilSpec : ChangeSpec := { name := "pagerNil", fn := fun _ => fun
  | [d1, d2] => { results := [.lit (.bool true)], args := [d1, d2] }
  | _ => none }
def pagerNilRow : OpenClaim := { program := "ytgihpdhkjneimaagreatdoor", sum := "ed2e8b65b5b9c32ace49fcf54666cb9d0d410cc750b0e6ffd32e1c89a291dd1f", func := "cadastre/cadastrelaw23.PagerNil", spec := "pagerNil", inPlace := ["internal/abi.NoEscape", "internal/bytealg.MakeNoZero"], unfollowed := true, recurses := true, named := ["cadastre/entry.least"], apart := false, laid := [("cadastre/entry.least", laid_cadastre_entry_least)] }
def PagerNilSaid : Prop := pagerNilRow.holds Tryz.pinned (OpenSpec.ofChange pagerNilSpec)

/-- ITS FALSE NEIGHBOUR: 'it returns false'. Refute it at one input. -/
def pagerNilWrong : ChangeSpec := { name := "pagerNil", fn := fun _ => fun
  | [d1, d2] => { results := [.lit (.bool false)], args := [d1, d2] }
  | _ => none }
def PagerNilWrongFalsely : Prop := pagerNilRow.holds Tryz.pinned (OpenSpec.ofChange pagerNilWrong)

/-- 'cadastrelaw23.PagerFew': WHATEVER THE INPUT: true; the input reads as it did. -/
def pagerFewSpec : ChangeSpec := { name := "pagerFew", fn := fun _ => fun
  | [d] => { results := [.lit (.bool true)], args := [d] }
  | _ => none }
def pagerFewRow : OpenClaim := { program := "ytgihpdhkjneimaagreatdoor", sum := "ed2e8b65b5b9c32ace49fcf54666cb9d0d410cc750b0e6ffd32e1c89a291dd1f", func := "cadastre/cadastrelaw23.PagerFew", spec := "pagerFew", inPlace := ["internal/abi.NoEscape", "internal/bytealg.MakeNoZero"], unfollowed := true, recurses := true, named := ["cadastre/entry.least"], apart := false, laid := [("cadastre/entry.least", laid_cadastre_entry_least)] }
def PagerFewSaid : Prop := pagerFewRow.holds Tryz.pinned (OpenSpec.ofChange pagerFewSpec)

/-- ITS FALSE NEIGHBOUR: 'it returns false'. Refute it at one input. -/
def pagerFewWrong : ChangeSpec := { name := "pagerFew", fn := fun _ => fun
  | [d] => { results := [.lit (.bool false)], args := [d] }
  | _ => none }
def PagerFewWrongFalsely : Prop := pagerFewRow.holds Tryz.pinned (OpenSpec.ofChange pagerFewWrong)

/- THE SECOND FORM. 'bulk': how many values and letters a reading holds, each counted each time it is reached (what is shared counts as often as it is met; a slice's spare places count too). A statement '..UptoSaid' is the law's where the arguments, and the package variables that the reading takes, are together of bulk at most 1048576: NARROWER than '..Said'. Prove '..Said' where nothing that the law and all that it calls make is longer than what came in: it says more and counts as full. Else prove '..UptoSaid'. A law counts once. -/
mutual
def uptoBulk {H : Type} : DataW H → Nat
  | .lit (.string bytes) => bytes.length + 1
  | .lit _ => 1
  | .nil => 1
  | .ptr d => uptoBulk d + 1
  | .slice elems spare => uptoBulkAll elems + uptoBulkAll spare + 1
  | .agg parts => uptoBulkAll parts + 1
  | .iface _ d => uptoBulk d + 1
  | .map entries => uptoBulkEntries entries + 1
  | .held _ => 1
def uptoBulkAll {H : Type} : List (DataW H) → Nat
  | [] => 0
  | d :: r => uptoBulk d + uptoBulkAll r
def uptoBulkEntries {H : Type} : List (Lit × DataW H) → Nat
  | [] => 0
  | x :: r => uptoBulkEntry x + uptoBulkEntries r
def uptoBulkEntry {H : Type} : Lit × DataW H → Nat
  | (.string bytes, d) => bytes.length + uptoBulk d + 1
  | (_, d) => uptoBulk d + 1
 end
def uptoSmall : (H : Type) → List (DataW H) → Bool := fun _ ds => decide (uptoBulkAll ds ≤ 1048576)
def OpenSpec.upto (s : _root_.Go.ChangeSpec) : _root_.Go.OpenSpec := { _root_.Go.OpenSpec.ofChange s with cond := some uptoSmall }

/-- 'cadastrelaw23.PagerScripts', WHERE WHAT IT READS IS OF BULK AT MOST 1048576: true; the input reads as it did. -/
def pagerScriptsUptoRow : OpenClaim := { program := "ytgihpdhkjneimaagreatdoor", sum := "ed2e8b65b5b9c32ace49fcf54666cb9d0d410cc750b0e6ffd32e1c89a291dd1f", func := "cadastre/cadastrelaw23.PagerScripts", spec := "pagerScripts", inPlace := ["internal/abi.NoEscape", "internal/bytealg.MakeNoZero"], unfollowed := true, recurses := true, named := ["cadastre/entry.least"], apart := false, laid := [("cadastre/entry.least", laid_cadastre_entry_least)], narrowed := true }
def PagerScriptsUptoSaid : Prop := pagerScriptsUptoRow.holds Tryz.pinned (OpenSpec.upto pagerScriptsSpec)

/-- 'cadastrelaw23.PagerCrash', WHERE WHAT IT READS IS OF BULK AT MOST 1048576: true; the input reads as it did. -/
def pagerCrashUptoRow : OpenClaim := { program := "ytgihpdhkjneimaagreatdoor", sum := "ed2e8b65b5b9c32ace49fcf54666cb9d0d410cc750b0e6ffd32e1c89a291dd1f", func := "cadastre/cadastrelaw23.PagerCrash", spec := "pagerCrash", inPlace := ["internal/abi.NoEscape", "internal/bytealg.MakeNoZero"], unfollowed := true, recurses := true, named := ["cadastre/entry.least"], apart := false, laid := [("cadastre/entry.least", laid_cadastre_entry_least)], narrowed := true }
def PagerCrashUptoSaid : Prop := pagerCrashUptoRow.holds Tryz.pinned (OpenSpec.upto pagerCrashSpec)

/-- 'cadastrelaw23.PagerBack', WHERE WHAT IT READS IS OF BULK AT MOST 1048576: true; the input reads as it did. -/
def pagerBackUptoRow : OpenClaim := { program := "ytgihpdhkjneimaagreatdoor", sum := "ed2e8b65b5b9c32ace49fcf54666cb9d0d410cc750b0e6ffd32e1c89a291dd1f", func := "cadastre/cadastrelaw23.PagerBack", spec := "pagerBack", inPlace := ["internal/abi.NoEscape", "internal/bytealg.MakeNoZero"], unfollowed := true, recurses := true, named := ["cadastre/entry.least"], apart := false, laid := [("cadastre/entry.least", laid_cadastre_entry_least)], narrowed := true }
def PagerBackUptoSaid : Prop := pagerBackUptoRow.holds Tryz.pinned (OpenSpec.upto pagerBackSpec)

/-- 'cadastrelaw23.PagerNil', WHERE WHAT IT READS IS OF BULK AT MOST 1048576: true; the input reads as it did. -/
def pagerNilUptoRow : OpenClaim := { program := "ytgihpdhkjneimaagreatdoor", sum := "ed2e8b65b5b9c32ace49fcf54666cb9d0d410cc750b0e6ffd32e1c89a291dd1f", func := "cadastre/cadastrelaw23.PagerNil", spec := "pagerNil", inPlace := ["internal/abi.NoEscape", "internal/bytealg.MakeNoZero"], unfollowed := true, recurses := true, named := ["cadastre/entry.least"], apart := false, laid := [("cadastre/entry.least", laid_cadastre_entry_least)], narrowed := true }
def PagerNilUptoSaid : Prop := pagerNilUptoRow.holds Tryz.pinned (OpenSpec.upto pagerNilSpec)

/-- 'cadastrelaw23.PagerFew', WHERE WHAT IT READS IS OF BULK AT MOST 1048576: true; the input reads as it did. -/
def pagerFewUptoRow : OpenClaim := { program := "ytgihpdhkjneimaagreatdoor", sum := "ed2e8b65b5b9c32ace49fcf54666cb9d0d410cc750b0e6ffd32e1c89a291dd1f", func := "cadastre/cadastrelaw23.PagerFew", spec := "pagerFew", inPlace := ["internal/abi.NoEscape", "internal/bytealg.MakeNoZero"], unfollowed := true, recurses := true, named := ["cadastre/entry.least"], apart := false, laid := [("cadastre/entry.least", laid_cadastre_entry_least)], narrowed := true }
def PagerFewUptoSaid : Prop := pagerFewUptoRow.holds Tryz.pinned (OpenSpec.upto pagerFewSpec)

end Rows
end Go.Proofs.YtgihpdhkjneimaaGreatDoor
