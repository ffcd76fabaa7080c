/-
  Contracts of the reference of layer 2 (midstreamref02): Get, PutRun, GetRun.
-/
import Derived.Test.YtdikiabjkmigdaaDoorORef
namespace Go.Proofs.YtdikiabjkmigdaaDoor
set_option maxRecDepth 20000
open Go.RowKit
set_option maxHeartbeats 400000

theorem take_front (l : List UInt8) (a m k : Nat) (hm : m < k) (h : a + m < l.length) : (l.drop (a + m)).take (k - m) = l[a + m] :: (l.drop (a + (m + 1))).take (k - (m + 1)) := by
  rw [drop_step l (a + m) h, show k - m = (k - (m + 1)) + 1 by omega, List.take_succ_cons, Nat.add_assoc]
theorem leN_le7 (l : List UInt8) (h : l.length ≤ 7) : leN l ≤ 72057594037927935 := by
  have h1 := leN_lt l
  have h2 : (256 : Nat) ^ l.length ≤ 256 ^ 7 := Nat.pow_le_pow_right (by omega) h
  omega
end Go.Proofs.YtdikiabjkmigdaaDoor
