/- What openers of this package's structs lean on. -/
import Derived.Test.YtigaddpjmgncmaaDoorEnLive
import Derived.Lib.SmallJoins
import Derived.ProofKit
import Derived.Deep.Slices
import Derived.ChangeSlices
namespace Go.Proofs.YtigaddpjmgncmaaDoor.En
open Go.RowKit
theorem wf_u32 {x : Int} (h : (Lit.int .u32 x).wf = true) : 0 ≤ x ∧ x < 4294967296 := Fd.wf_u32 h
theorem wf_i64 {x : Int} (h : (Lit.int .i64 x).wf = true) : -9223372036854775808 ≤ x ∧ x ≤ 9223372036854775807 := Fd.wf_i64 h
end Go.Proofs.YtigaddpjmgncmaaDoor.En
