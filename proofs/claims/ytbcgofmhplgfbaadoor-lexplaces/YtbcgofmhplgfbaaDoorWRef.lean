/-
  Contracts of the document's own answers for layer 1: each gives what package wrap's contract gives.
-/
import Derived.Test.YtbcgofmhplgfbaaDoorWBin
import Derived.Test.YtbcgofmhplgfbaaDoorWRefM
import Derived.LoopTactic
namespace Go.Proofs.YtbcgofmhplgfbaaDoor
open Go.RowKit
set_option maxHeartbeats 400000

end Go.Proofs.YtbcgofmhplgfbaaDoor
