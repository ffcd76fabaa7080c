/-
  Contracts: the reference's Read.
-/
import Derived.Test.YtdikiabjkmigdaaDoorIPkg3
namespace Go.Proofs.YtdikiabjkmigdaaDoor
set_option maxRecDepth 20000
open Go.RowKit
set_option maxHeartbeats 1000000

theorem opAt_nat {l : List UInt8} {a k : Nat} (h : a < l.length) (hk : opAt l a = (k : Int)) : k = l[a].toNat := by
  rw [opAt_get h] at hk; omega
end Go.Proofs.YtdikiabjkmigdaaDoor
