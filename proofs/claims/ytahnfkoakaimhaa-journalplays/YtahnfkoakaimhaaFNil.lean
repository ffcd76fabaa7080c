/-
  The walk of the law FlashNil.
-/
import Derived.Test.YtahnfkoakaimhaaFKnown
namespace Go.Proofs.Ytahnfkoakaimhaa
open Go.RowKit
set_option maxHeartbeats 400000

theorem Keeps.back {w w1 : World} (k : Keeps [] w w1) : Below w.heap.size w w1 := Keeps.below (Below.refl _ w) k (by simp) (Nat.le_refl _)
end Go.Proofs.Ytahnfkoakaimhaa
