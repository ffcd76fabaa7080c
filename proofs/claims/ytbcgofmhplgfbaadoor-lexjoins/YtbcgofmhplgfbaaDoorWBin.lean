/-
  Contracts of package wrap's Bin, Un, Of and Truth, and of the statements' own helper bin: what each call returns; no memory is touched.
-/
import Derived.Test.YtbcgofmhplgfbaaDoorChecked
import Derived.Test.YtbcgofmhplgfbaaDoorWMath
namespace Go.Proofs.YtbcgofmhplgfbaaDoor
open Go.RowKit
set_option maxHeartbeats 400000

end Go.Proofs.YtbcgofmhplgfbaaDoor
