/-
  No cell of these rows narrows 'for every input' (looked for: loops, veiled, ifaces, maps, wideKeys, modest, calm, conditions, laid).
  DERIVED. THE GIVEN ROWS OF THIS SEAT. 6 by the template 'for every input the law returns true; each argument reads behind the call as it read before'; 0 by the template 'total and deterministic' (their statements: YtmgagghlkopfcaaTotals.lean).
  GIVEN WITH THE SEED: the statements are not yours to turn. If you find one false, say at which input.
  Laid BY PROGRAM, IN A SANDBOX (cutbox-rows.mjs): the forced cells as the released guide's own fill.sh prints them over the translation 4539a07f04f2abef… (all of the seat's roots in one cut). By AI agents, Wed Nov 11 2026. No macro, syntax, notation, axiom, sorry.
-/
import Derived.Test.YtmgagghlkopfcaaChecked
import GoSem.Claim
import GoSem.ClaimJoined
import GoSem.ClaimMapViews
import Derived.JoinedTies
import Derived.KernelRfl
namespace Go.Proofs.Ytmgagghlkopfcaa
/- THE CELL 'sum', in the pinned program and in every row, IS THE sha256 OF THE DUMP (.gsa) THAT YtmgagghlkopfcaaProg.lean LOADS. Nothing in Lean hashes anything: it is a label: what it is worth is what the hold of that sum in a sandbox is worth. -/
noncomputable def Try.pinned : Pinned := { name := "ytmgagghlkopfcaa", sum := "4539a07f04f2abef97a0b8a440aabb0d70299a4d258f4840c6355596dc71f681", checked := Try.checked }
namespace Rows
def none {H : Type} : Left H := { results := [], args := [] }

/-- 'cadastrelaw02.Sum32Sums': WHATEVER THE INPUT: true; the input reads as it did. -/
def sum32SumsSpec : ChangeSpec := { name := "sum32Sums", fn := fun _ => fun
  | [d1, d2, d3] => { results := [.lit (.bool true)], args := [d1, d2, d3] }
  | _ => none }
def sum32SumsRow : OpenClaim := { program := "ytmgagghlkopfcaa", sum := "4539a07f04f2abef97a0b8a440aabb0d70299a4d258f4840c6355596dc71f681", func := "cadastre/cadastrelaw02.Sum32Sums", spec := "sum32Sums", apart := false }
def Sum32SumsSaid : Prop := sum32SumsRow.holds Try.pinned (OpenSpec.ofChange sum32SumsSpec)

/-- ITS FALSE NEIGHBOUR: 'it returns false'. Refute it at one input. -/
def sum32SumsWrong : ChangeSpec := { name := "sum32Sums", fn := fun _ => fun
  | [d1, d2, d3] => { results := [.lit (.bool false)], args := [d1, d2, d3] }
  | _ => none }
def Sum32SumsWrongFalsely : Prop := sum32SumsRow.holds Try.pinned (OpenSpec.ofChange sum32SumsWrong)

/-- 'cadastrelaw02.Sum32Joins': WHATEVER THE INPUT: true; the input reads as it did. -/
def sum32JoinsSpec : ChangeSpec := { name := "sum32Joins", fn := fun _ => fun
  | [d1, d2, d3] => { results := [.lit (.bool true)], args := [d1, d2, d3] }
  | _ => none }
def sum32JoinsRow : OpenClaim := { program := "ytmgagghlkopfcaa", sum := "4539a07f04f2abef97a0b8a440aabb0d70299a4d258f4840c6355596dc71f681", func := "cadastre/cadastrelaw02.Sum32Joins", spec := "sum32Joins", apart := false }
def Sum32JoinsSaid : Prop := sum32JoinsRow.holds Try.pinned (OpenSpec.ofChange sum32JoinsSpec)

/-- ITS FALSE NEIGHBOUR: 'it returns false'. Refute it at one input. -/
def sum32JoinsWrong : ChangeSpec := { name := "sum32Joins", fn := fun _ => fun
  | [d1, d2, d3] => { results := [.lit (.bool false)], args := [d1, d2, d3] }
  | _ => none }
def Sum32JoinsWrongFalsely : Prop := sum32JoinsRow.holds Try.pinned (OpenSpec.ofChange sum32JoinsWrong)

/-- 'cadastrelaw02.Sum32Turns': WHATEVER THE INPUT: true; the input reads as it did. -/
def sum32TurnsSpec : ChangeSpec := { name := "sum32Turns", fn := fun _ => fun
  | [d1, d2, d3] => { results := [.lit (.bool true)], args := [d1, d2, d3] }
  | _ => none }
def sum32TurnsRow : OpenClaim := { program := "ytmgagghlkopfcaa", sum := "4539a07f04f2abef97a0b8a440aabb0d70299a4d258f4840c6355596dc71f681", func := "cadastre/cadastrelaw02.Sum32Turns", spec := "sum32Turns", apart := false }
def Sum32TurnsSaid : Prop := sum32TurnsRow.holds Try.pinned (OpenSpec.ofChange sum32TurnsSpec)

/-- ITS FALSE NEIGHBOUR: 'it returns false'. Refute it at one input. -/
def sum32TurnsWrong : ChangeSpec := { name := "sum32Turns", fn := fun _ => fun
  | [d1, d2, d3] => { results := [.lit (.bool false)], args := [d1, d2, d3] }
  | _ => none }
def Sum32TurnsWrongFalsely : Prop := sum32TurnsRow.holds Try.pinned (OpenSpec.ofChange sum32TurnsWrong)

/-- 'cadastrelaw02.Sum32Seen': WHATEVER THE INPUT: true; the input reads as it did. -/
def sum32SeenSpec : ChangeSpec := { name := "sum32Seen", fn := fun _ => fun
  | [d1, d2, d3] => { results := [.lit (.bool true)], args := [d1, d2, d3] }
  | _ => none }
def sum32SeenRow : OpenClaim := { program := "ytmgagghlkopfcaa", sum := "4539a07f04f2abef97a0b8a440aabb0d70299a4d258f4840c6355596dc71f681", func := "cadastre/cadastrelaw02.Sum32Seen", spec := "sum32Seen", apart := false }
def Sum32SeenSaid : Prop := sum32SeenRow.holds Try.pinned (OpenSpec.ofChange sum32SeenSpec)

/-- ITS FALSE NEIGHBOUR: 'it returns false'. Refute it at one input. -/
def sum32SeenWrong : ChangeSpec := { name := "sum32Seen", fn := fun _ => fun
  | [d1, d2, d3] => { results := [.lit (.bool false)], args := [d1, d2, d3] }
  | _ => none }
def Sum32SeenWrongFalsely : Prop := sum32SeenRow.holds Try.pinned (OpenSpec.ofChange sum32SeenWrong)

/-- 'cadastrelaw02.Sum32Far': WHATEVER THE INPUT: true; the input reads as it did. -/
def sum32FarSpec : ChangeSpec := { name := "sum32Far", fn := fun _ => fun
  | [d1, d2, d3] => { results := [.lit (.bool true)], args := [d1, d2, d3] }
  | _ => none }
def sum32FarRow : OpenClaim := { program := "ytmgagghlkopfcaa", sum := "4539a07f04f2abef97a0b8a440aabb0d70299a4d258f4840c6355596dc71f681", func := "cadastre/cadastrelaw02.Sum32Far", spec := "sum32Far", apart := false }
def Sum32FarSaid : Prop := sum32FarRow.holds Try.pinned (OpenSpec.ofChange sum32FarSpec)

/-- ITS FALSE NEIGHBOUR: 'it returns false'. Refute it at one input. -/
def sum32FarWrong : ChangeSpec := { name := "sum32Far", fn := fun _ => fun
  | [d1, d2, d3] => { results := [.lit (.bool false)], args := [d1, d2, d3] }
  | _ => none }
def Sum32FarWrongFalsely : Prop := sum32FarRow.holds Try.pinned (OpenSpec.ofChange sum32FarWrong)

/-- 'cadastrelaw02.Sum32Apart': WHATEVER THE INPUT: true; the input reads as it did. -/
def sum32ApartSpec : ChangeSpec := { name := "sum32Apart", fn := fun _ => fun
  | [d] => { results := [.lit (.bool true)], args := [d] }
  | _ => none }
def sum32ApartRow : OpenClaim := { program := "ytmgagghlkopfcaa", sum := "4539a07f04f2abef97a0b8a440aabb0d70299a4d258f4840c6355596dc71f681", func := "cadastre/cadastrelaw02.Sum32Apart", spec := "sum32Apart", apart := false }
def Sum32ApartSaid : Prop := sum32ApartRow.holds Try.pinned (OpenSpec.ofChange sum32ApartSpec)

/-- ITS FALSE NEIGHBOUR: 'it returns false'. Refute it at one input. -/
def sum32ApartWrong : ChangeSpec := { name := "sum32Apart", fn := fun _ => fun
  | [d] => { results := [.lit (.bool false)], args := [d] }
  | _ => none }
def Sum32ApartWrongFalsely : Prop := sum32ApartRow.holds Try.pinned (OpenSpec.ofChange sum32ApartWrong)

/- THE SECOND FORM. 'bulk': how many values and letters a reading holds, each counted each time it is reached (what is shared counts as often as it is met; a slice's spare places count too). A statement '..UptoSaid' is the law's where the arguments, and the package variables that the reading takes, are together of bulk at most 1048576: NARROWER than '..Said'. Prove '..Said' where nothing that the law and all that it calls make is longer than what came in: it says more and counts as full. Else prove '..UptoSaid'. A law counts once. -/
mutual
def uptoBulk {H : Type} : DataW H → Nat
  | .lit (.string bytes) => bytes.length + 1
  | .lit _ => 1
  | .nil => 1
  | .ptr d => uptoBulk d + 1
  | .slice elems spare => uptoBulkAll elems + uptoBulkAll spare + 1
  | .agg parts => uptoBulkAll parts + 1
  | .iface _ d => uptoBulk d + 1
  | .map entries => uptoBulkEntries entries + 1
  | .held _ => 1
def uptoBulkAll {H : Type} : List (DataW H) → Nat
  | [] => 0
  | d :: r => uptoBulk d + uptoBulkAll r
def uptoBulkEntries {H : Type} : List (Lit × DataW H) → Nat
  | [] => 0
  | x :: r => uptoBulkEntry x + uptoBulkEntries r
def uptoBulkEntry {H : Type} : Lit × DataW H → Nat
  | (.string bytes, d) => bytes.length + uptoBulk d + 1
  | (_, d) => uptoBulk d + 1
 end
def uptoSmall : (H : Type) → List (DataW H) → Bool := fun _ ds => decide (uptoBulkAll ds ≤ 1048576)
def OpenSpec.upto (s : _root_.Go.ChangeSpec) : _root_.Go.OpenSpec := { _root_.Go.OpenSpec.ofChange s with cond := some uptoSmall }

/-- 'cadastrelaw02.Sum32Sums', WHERE WHAT IT READS IS OF BULK AT MOST 1048576: true; the input reads as it did. -/
def sum32SumsUptoRow : OpenClaim := { program := "ytmgagghlkopfcaa", sum := "4539a07f04f2abef97a0b8a440aabb0d70299a4d258f4840c6355596dc71f681", func := "cadastre/cadastrelaw02.Sum32Sums", spec := "sum32Sums", apart := false, narrowed := true }
def Sum32SumsUptoSaid : Prop := sum32SumsUptoRow.holds Try.pinned (OpenSpec.upto sum32SumsSpec)

/-- 'cadastrelaw02.Sum32Joins', WHERE WHAT IT READS IS OF BULK AT MOST 1048576: true; the input reads as it did. -/
def sum32JoinsUptoRow : OpenClaim := { program := "ytmgagghlkopfcaa", sum := "4539a07f04f2abef97a0b8a440aabb0d70299a4d258f4840c6355596dc71f681", func := "cadastre/cadastrelaw02.Sum32Joins", spec := "sum32Joins", apart := false, narrowed := true }
def Sum32JoinsUptoSaid : Prop := sum32JoinsUptoRow.holds Try.pinned (OpenSpec.upto sum32JoinsSpec)

/-- 'cadastrelaw02.Sum32Turns', WHERE WHAT IT READS IS OF BULK AT MOST 1048576: true; the input reads as it did. -/
def sum32TurnsUptoRow : OpenClaim := { program := "ytmgagghlkopfcaa", sum := "4539a07f04f2abef97a0b8a440aabb0d70299a4d258f4840c6355596dc71f681", func := "cadastre/cadastrelaw02.Sum32Turns", spec := "sum32Turns", apart := false, narrowed := true }
def Sum32TurnsUptoSaid : Prop := sum32TurnsUptoRow.holds Try.pinned (OpenSpec.upto sum32TurnsSpec)

/-- 'cadastrelaw02.Sum32Seen', WHERE WHAT IT READS IS OF BULK AT MOST 1048576: true; the input reads as it did. -/
def sum32SeenUptoRow : OpenClaim := { program := "ytmgagghlkopfcaa", sum := "4539a07f04f2abef97a0b8a440aabb0d70299a4d258f4840c6355596dc71f681", func := "cadastre/cadastrelaw02.Sum32Seen", spec := "sum32Seen", apart := false, narrowed := true }
def Sum32SeenUptoSaid : Prop := sum32SeenUptoRow.holds Try.pinned (OpenSpec.upto sum32SeenSpec)

/-- 'cadastrelaw02.Sum32Far', WHERE WHAT IT READS IS OF BULK AT MOST 1048576: true; the input reads as it did. -/
def sum32FarUptoRow : OpenClaim := { program := "ytmgagghlkopfcaa", sum := "4539a07f04f2abef97a0b8a440aabb0d70299a4d258f4840c6355596dc71f681", func := "cadastre/cadastrelaw02.Sum32Far", spec := "sum32Far", apart := false, narrowed := true }
def Sum32FarUptoSaid : Prop := sum32FarUptoRow.holds Try.pinned (OpenSpec.upto sum32FarSpec)

/-- 'cadastrelaw02.Sum32Apart', WHERE WHAT IT READS IS OF BULK AT MOST 1048576: true; the input reads as it did. -/
def sum32ApartUptoRow : OpenClaim := { program := "ytmgagghlkopfcaa", sum := "4539a07f04f2abef97a0b8a440aabb0d70299a4d258f4840c6355596dc71f681", func := "cadastre/cadastrelaw02.Sum32Apart", spec := "sum32Apart", apart := false, narrowed := true }
def Sum32ApartUptoSaid : Prop := sum32ApartUptoRow.holds Try.pinned (OpenSpec.upto sum32ApartSpec)

end Rows
end Go.Proofs.Ytmgagghlkopfcaa
