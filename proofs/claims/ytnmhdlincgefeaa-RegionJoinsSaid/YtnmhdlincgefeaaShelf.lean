/- Nothing is laid here. -/
import Derived.Test.YtnmhdlincgefeaaProg
namespace Go.Proofs
end Go.Proofs
