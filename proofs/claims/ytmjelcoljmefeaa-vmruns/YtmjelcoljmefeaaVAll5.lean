/-
  VmRuns for every input.
-/
import Derived.Test.YtmjelcoljmefeaaVLaw5
namespace Go.Proofs.Ytmjelcoljmefeaa
open Go.RowKit
set_option maxRecDepth 20000

theorem runs_all (K : CD) (w : World) (h : ∃ l old first ins, CR w w.heap.size K l old first ins) :
    Calls Try.prog 3 #[.agg #[.slice K.A K.n K.c, .int .i64 K.f.s, .int .i64 K.f.o, .int .i64 K.f.n, .int .i64 K.f.i, .int .i64 K.f.u, .slice K.oA K.no K.oc, .slice K.fA K.nf K.fc, .slice K.iA K.ni K.ic, .int .i64 K.fu]] w fun e w' => e = .returned (.bool true) ∧ Below w.heap.size w w' := by
  obtain ⟨l, old, first, ins, h⟩ := h
  cases hl : lightB K with
  | false => exact runs_dark K w hl
  | true => exact runs_walk K w.heap.size l old first ins w h (Nat.le_refl _) hl
end Go.Proofs.Ytmjelcoljmefeaa
