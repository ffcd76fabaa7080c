/-
  A tag, as the kernel reckons it. No program stands in this file.
-/
import Derived.Test.YthglpniemenhcaaDoorMMath
import Derived.KernelRfl
namespace Go.Proofs.YthglpniemenhcaaDoor
set_option maxRecDepth 100000
def foxL : List UInt8 := [84, 104, 101, 32, 113, 117, 105, 99, 107, 32, 98, 114, 111, 119, 110, 32, 102, 111, 120, 32, 106, 117, 109, 112, 115, 32, 111, 118, 101, 114, 32, 116, 104, 101, 32, 108, 97, 122, 121, 32, 100, 111, 103]
theorem fox_hex : hexL (tagL [107, 101, 121] foxL) = [102, 55, 98, 99, 56, 51, 102, 52, 51, 48, 53, 51, 56, 52, 50, 52, 98, 49, 51, 50, 57, 56, 101, 54, 97, 97, 54, 102, 98, 49, 52, 51, 101, 102, 52, 100, 53, 57, 97, 49, 52, 57, 52, 54, 49, 55, 53, 57, 57, 55, 52, 55, 57, 100, 98, 99, 50, 100, 49, 97, 51, 99, 100, 56] := by kernel_rfl
end Go.Proofs.YthglpniemenhcaaDoor
