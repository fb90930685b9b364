/- Of of package field, and the law's own examples. -/
import Derived.Test.YtolnbamdddiifaaFdField2
namespace Go.Proofs.Ytolnbamdddiifaa.Fd
open Go.RowKit
open Go.Lib

end Go.Proofs.Ytolnbamdddiifaa.Fd
