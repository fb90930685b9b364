/-
  NARROWER THAN 'FOR EVERY INPUT', by the rows' own cells (each row's printed sentence says how): EntryWrites: laid · EntryReads: laid · EntryBack: laid · EntrySums: laid · EntryApart: laid.
  DERIVED. THE GIVEN ROWS OF THIS SEAT. 5 by the template 'for every input the law returns true; each argument reads behind the call as it read before'; 0 by the template 'total and deterministic' (their statements: YtigaddpjmgncmaaDoorTotals.lean).
  GIVEN WITH THE SEED: the statements are not yours to turn. If you find one false, say at which input.
  Laid BY PROGRAM, IN A SANDBOX (cutbox-rows.mjs): the forced cells as the released guide's own fill.sh prints them over the translation fdd448528770234b… (all of the seat's roots in one cut). By AI agents, Wed Nov 11 2026. No macro, syntax, notation, axiom, sorry.
-/
import Derived.Test.YtigaddpjmgncmaaDoorChecked
import GoSem.Claim
import GoSem.ClaimJoined
import GoSem.ClaimMapViews
import Derived.JoinedTies
import Derived.KernelRfl
namespace Go.Proofs.YtigaddpjmgncmaaDoor
/- THE CELL 'sum', in the pinned program and in every row, IS THE sha256 OF THE DUMP (.gsa) THAT YtigaddpjmgncmaaDoorProg.lean LOADS. Nothing in Lean hashes anything: it is a label: what it is worth is what the hold of that sum in a sandbox is worth. -/
noncomputable def Tryd.pinned : Pinned := { name := "ytigaddpjmgncmaadoor", sum := "fdd448528770234b753b6dc75d5eb341e6355516968c9e84d955298a4b1f28e8", checked := Tryd.checked }
namespace Rows
def none {H : Type} : Left H := { results := [], args := [] }

/- WHAT THE LISTED PACKAGE-LEVEL VARIABLES READ AS WHEN THE CALL BEGINS. Each datum BY PROGRAM (the guide's laid-datum.mjs) off the statement by which the dump's own 'gosem.cut.vars' lays the variable. In a bare row this is a premise. The card (YtigaddpjmgncmaaDoorCards.lean) ties it to the program's text. -/
def laid_cadastre_entry_least {H : Type} : DataW H := .agg [.lit (.int .i64 0), .lit (.int .i64 10), .lit (.int .i64 13), .lit (.int .i64 7)]

/-- 'cadastrelaw06.EntryWrites': WHATEVER THE INPUT: true; the input reads as it did. -/
def entryWritesSpec : ChangeSpec := { name := "entryWrites", fn := fun _ => fun
  | [d1, d2] => { results := [.lit (.bool true)], args := [d1, d2] }
  | _ => none }
def entryWritesRow : OpenClaim := { program := "ytigaddpjmgncmaadoor", sum := "fdd448528770234b753b6dc75d5eb341e6355516968c9e84d955298a4b1f28e8", func := "cadastre/cadastrelaw06.EntryWrites", spec := "entryWrites", inPlace := ["internal/abi.NoEscape"], unfollowed := true, recurses := true, named := ["cadastre/entry.least"], apart := false, laid := [("cadastre/entry.least", laid_cadastre_entry_least)] }
def EntryWritesSaid : Prop := entryWritesRow.holds Tryd.pinned (OpenSpec.ofChange entryWritesSpec)

/-- ITS FALSE NEIGHBOUR: 'it returns false'. Refute it at one input. -/
def entryWritesWrong : ChangeSpec := { name := "entryWrites", fn := fun _ => fun
  | [d1, d2] => { results := [.lit (.bool false)], args := [d1, d2] }
  | _ => none }
def EntryWritesWrongFalsely : Prop := entryWritesRow.holds Tryd.pinned (OpenSpec.ofChange entryWritesWrong)

/-- 'cadastrelaw06.EntryReads': WHATEVER THE INPUT: true; the input reads as it did. -/
def entryReadsSpec : ChangeSpec := { name := "entryReads", fn := fun _ => fun
  | [d] => { results := [.lit (.bool true)], args := [d] }
  | _ => none }
def entryReadsRow : OpenClaim := { program := "ytigaddpjmgncmaadoor", sum := "fdd448528770234b753b6dc75d5eb341e6355516968c9e84d955298a4b1f28e8", func := "cadastre/cadastrelaw06.EntryReads", spec := "entryReads", inPlace := ["internal/abi.NoEscape"], unfollowed := true, recurses := true, named := ["cadastre/entry.least"], apart := false, laid := [("cadastre/entry.least", laid_cadastre_entry_least)] }
def EntryReadsSaid : Prop := entryReadsRow.holds Tryd.pinned (OpenSpec.ofChange entryReadsSpec)

/-- ITS FALSE NEIGHBOUR: 'it returns false'. Refute it at one input. -/
def entryReadsWrong : ChangeSpec := { name := "entryReads", fn := fun _ => fun
  | [d] => { results := [.lit (.bool false)], args := [d] }
  | _ => none }
def EntryReadsWrongFalsely : Prop := entryReadsRow.holds Tryd.pinned (OpenSpec.ofChange entryReadsWrong)

/-- 'cadastrelaw06.EntryBack': WHATEVER THE INPUT: true; the input reads as it did. -/
def entryBackSpec : ChangeSpec := { name := "entryBack", fn := fun _ => fun
  | [d1, d2] => { results := [.lit (.bool true)], args := [d1, d2] }
  | _ => none }
def entryBackRow : OpenClaim := { program := "ytigaddpjmgncmaadoor", sum := "fdd448528770234b753b6dc75d5eb341e6355516968c9e84d955298a4b1f28e8", func := "cadastre/cadastrelaw06.EntryBack", spec := "entryBack", inPlace := ["internal/abi.NoEscape"], unfollowed := true, recurses := true, named := ["cadastre/entry.least"], apart := false, laid := [("cadastre/entry.least", laid_cadastre_entry_least)] }
def EntryBackSaid : Prop := entryBackRow.holds Tryd.pinned (OpenSpec.ofChange entryBackSpec)

/-- ITS FALSE NEIGHBOUR: 'it returns false'. Refute it at one input. -/
def entryBackWrong : ChangeSpec := { name := "entryBack", fn := fun _ => fun
  | [d1, d2] => { results := [.lit (.bool false)], args := [d1, d2] }
  | _ => none }
def EntryBackWrongFalsely : Prop := entryBackRow.holds Tryd.pinned (OpenSpec.ofChange entryBackWrong)

/-- 'cadastrelaw06.EntrySums': WHATEVER THE INPUT: true; the input reads as it did. -/
def entrySumsSpec : ChangeSpec := { name := "entrySums", fn := fun _ => fun
  | [d] => { results := [.lit (.bool true)], args := [d] }
  | _ => none }
def entrySumsRow : OpenClaim := { program := "ytigaddpjmgncmaadoor", sum := "fdd448528770234b753b6dc75d5eb341e6355516968c9e84d955298a4b1f28e8", func := "cadastre/cadastrelaw06.EntrySums", spec := "entrySums", inPlace := ["internal/abi.NoEscape"], unfollowed := true, recurses := true, named := ["cadastre/entry.least"], apart := false, laid := [("cadastre/entry.least", laid_cadastre_entry_least)] }
def EntrySumsSaid : Prop := entrySumsRow.holds Tryd.pinned (OpenSpec.ofChange entrySumsSpec)

/-- ITS FALSE NEIGHBOUR: 'it returns false'. Refute it at one input. -/
def entrySumsWrong : ChangeSpec := { name := "entrySums", fn := fun _ => fun
  | [d] => { results := [.lit (.bool false)], args := [d] }
  | _ => none }
def EntrySumsWrongFalsely : Prop := entrySumsRow.holds Tryd.pinned (OpenSpec.ofChange entrySumsWrong)

/-- 'cadastrelaw06.EntryApart': WHATEVER THE INPUT: true; the input reads as it did. -/
def entryApartSpec : ChangeSpec := { name := "entryApart", fn := fun _ => fun
  | [d1, d2] => { results := [.lit (.bool true)], args := [d1, d2] }
  | _ => none }
def entryApartRow : OpenClaim := { program := "ytigaddpjmgncmaadoor", sum := "fdd448528770234b753b6dc75d5eb341e6355516968c9e84d955298a4b1f28e8", func := "cadastre/cadastrelaw06.EntryApart", spec := "entryApart", inPlace := ["internal/abi.NoEscape"], unfollowed := true, recurses := true, named := ["cadastre/entry.least"], apart := false, laid := [("cadastre/entry.least", laid_cadastre_entry_least)] }
def EntryApartSaid : Prop := entryApartRow.holds Tryd.pinned (OpenSpec.ofChange entryApartSpec)

/-- ITS FALSE NEIGHBOUR: 'it returns false'. Refute it at one input. -/
def entryApartWrong : ChangeSpec := { name := "entryApart", fn := fun _ => fun
  | [d1, d2] => { results := [.lit (.bool false)], args := [d1, d2] }
  | _ => none }
def EntryApartWrongFalsely : Prop := entryApartRow.holds Tryd.pinned (OpenSpec.ofChange entryApartWrong)

/- THE SECOND FORM. 'bulk': how many values and letters a reading holds, each counted each time it is reached (what is shared counts as often as it is met; a slice's spare places count too). A statement '..UptoSaid' is the law's where the arguments, and the package variables that the reading takes, are together of bulk at most 1048576: NARROWER than '..Said'. Prove '..Said' where nothing that the law and all that it calls make is longer than what came in: it says more and counts as full. Else prove '..UptoSaid'. A law counts once. -/
mutual
def uptoBulk {H : Type} : DataW H → Nat
  | .lit (.string bytes) => bytes.length + 1
  | .lit _ => 1
  | .nil => 1
  | .ptr d => uptoBulk d + 1
  | .slice elems spare => uptoBulkAll elems + uptoBulkAll spare + 1
  | .agg parts => uptoBulkAll parts + 1
  | .iface _ d => uptoBulk d + 1
  | .map entries => uptoBulkEntries entries + 1
  | .held _ => 1
def uptoBulkAll {H : Type} : List (DataW H) → Nat
  | [] => 0
  | d :: r => uptoBulk d + uptoBulkAll r
def uptoBulkEntries {H : Type} : List (Lit × DataW H) → Nat
  | [] => 0
  | x :: r => uptoBulkEntry x + uptoBulkEntries r
def uptoBulkEntry {H : Type} : Lit × DataW H → Nat
  | (.string bytes, d) => bytes.length + uptoBulk d + 1
  | (_, d) => uptoBulk d + 1
 end
def uptoSmall : (H : Type) → List (DataW H) → Bool := fun _ ds => decide (uptoBulkAll ds ≤ 1048576)
def OpenSpec.upto (s : _root_.Go.ChangeSpec) : _root_.Go.OpenSpec := { _root_.Go.OpenSpec.ofChange s with cond := some uptoSmall }

/-- 'cadastrelaw06.EntryWrites', WHERE WHAT IT READS IS OF BULK AT MOST 1048576: true; the input reads as it did. -/
def entryWritesUptoRow : OpenClaim := { program := "ytigaddpjmgncmaadoor", sum := "fdd448528770234b753b6dc75d5eb341e6355516968c9e84d955298a4b1f28e8", func := "cadastre/cadastrelaw06.EntryWrites", spec := "entryWrites", inPlace := ["internal/abi.NoEscape"], unfollowed := true, recurses := true, named := ["cadastre/entry.least"], apart := false, laid := [("cadastre/entry.least", laid_cadastre_entry_least)], narrowed := true }
def EntryWritesUptoSaid : Prop := entryWritesUptoRow.holds Tryd.pinned (OpenSpec.upto entryWritesSpec)

/-- 'cadastrelaw06.EntryReads', WHERE WHAT IT READS IS OF BULK AT MOST 1048576: true; the input reads as it did. -/
def entryReadsUptoRow : OpenClaim := { program := "ytigaddpjmgncmaadoor", sum := "fdd448528770234b753b6dc75d5eb341e6355516968c9e84d955298a4b1f28e8", func := "cadastre/cadastrelaw06.EntryReads", spec := "entryReads", inPlace := ["internal/abi.NoEscape"], unfollowed := true, recurses := true, named := ["cadastre/entry.least"], apart := false, laid := [("cadastre/entry.least", laid_cadastre_entry_least)], narrowed := true }
def EntryReadsUptoSaid : Prop := entryReadsUptoRow.holds Tryd.pinned (OpenSpec.upto entryReadsSpec)

/-- 'cadastrelaw06.EntryBack', WHERE WHAT IT READS IS OF BULK AT MOST 1048576: true; the input reads as it did. -/
def entryBackUptoRow : OpenClaim := { program := "ytigaddpjmgncmaadoor", sum := "fdd448528770234b753b6dc75d5eb341e6355516968c9e84d955298a4b1f28e8", func := "cadastre/cadastrelaw06.EntryBack", spec := "entryBack", inPlace := ["internal/abi.NoEscape"], unfollowed := true, recurses := true, named := ["cadastre/entry.least"], apart := false, laid := [("cadastre/entry.least", laid_cadastre_entry_least)], narrowed := true }
def EntryBackUptoSaid : Prop := entryBackUptoRow.holds Tryd.pinned (OpenSpec.upto entryBackSpec)

/-- 'cadastrelaw06.EntrySums', WHERE WHAT IT READS IS OF BULK AT MOST 1048576: true; the input reads as it did. -/
def entrySumsUptoRow : OpenClaim := { program := "ytigaddpjmgncmaadoor", sum := "fdd448528770234b753b6dc75d5eb341e6355516968c9e84d955298a4b1f28e8", func := "cadastre/cadastrelaw06.EntrySums", spec := "entrySums", inPlace := ["internal/abi.NoEscape"], unfollowed := true, recurses := true, named := ["cadastre/entry.least"], apart := false, laid := [("cadastre/entry.least", laid_cadastre_entry_least)], narrowed := true }
def EntrySumsUptoSaid : Prop := entrySumsUptoRow.holds Tryd.pinned (OpenSpec.upto entrySumsSpec)

/-- 'cadastrelaw06.EntryApart', WHERE WHAT IT READS IS OF BULK AT MOST 1048576: true; the input reads as it did. -/
def entryApartUptoRow : OpenClaim := { program := "ytigaddpjmgncmaadoor", sum := "fdd448528770234b753b6dc75d5eb341e6355516968c9e84d955298a4b1f28e8", func := "cadastre/cadastrelaw06.EntryApart", spec := "entryApart", inPlace := ["internal/abi.NoEscape"], unfollowed := true, recurses := true, named := ["cadastre/entry.least"], apart := false, laid := [("cadastre/entry.least", laid_cadastre_entry_least)], narrowed := true }
def EntryApartUptoSaid : Prop := entryApartUptoRow.holds Tryd.pinned (OpenSpec.upto entryApartSpec)

end Rows
end Go.Proofs.YtigaddpjmgncmaaDoor
