/-
  Contracts of the reference of layer 2 (midstreamref02): Bytes, Signed, Plain, Lent, Kept, Spoil, Same.
-/
import Derived.Test.YtdikiabjkmigdaaDoorORef3
namespace Go.Proofs.YtdikiabjkmigdaaDoor
set_option maxRecDepth 20000
open Go.RowKit
set_option maxHeartbeats 400000

/-- A row of the call's own that lies ahead of what is new stays as it is. -/
theorem own_keep {w w' : World} {base : Nat} {e : TypeId} {v : Value} {n : Nat} {xs : List Value} (h : w.ownsRow base e 1 v n xs) (hb : Below w.heap.size w w') : w'.ownsRow base e 1 v n xs := by
  refine ⟨h.1, ?_⟩
  rcases h.2 with h2 | ⟨g, cap, cur, hv, hg, hh, r⟩
  · exact .inl h2
  · exact .inr ⟨g, cap, cur, hv, hg, (hb.block g (Array.getElem?_eq_some_iff.1 hh).1).trans hh, r⟩
end Go.Proofs.YtdikiabjkmigdaaDoor
