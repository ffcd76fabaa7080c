/-
  VmUntouched for every input.
-/
import Derived.Test.YtmjelcoljmefeaaVLaw3
namespace Go.Proofs.Ytmjelcoljmefeaa
open Go.RowKit
set_option maxRecDepth 20000

theorem touch_all (K : CD) (v : Int) (w : World) (h : ∃ l old first ins, CR w w.heap.size K l old first ins) (hv : (Lit.int .i32 v).wf = true) :
    Calls Try.prog 6 #[.agg #[.slice K.A K.n K.c, .int .i64 K.f.s, .int .i64 K.f.o, .int .i64 K.f.n, .int .i64 K.f.i, .int .i64 K.f.u, .slice K.oA K.no K.oc, .slice K.fA K.nf K.fc, .slice K.iA K.ni K.ic, .int .i64 K.fu], .int .i32 v] w fun e w' => e = .returned (.bool true) ∧ Below w.heap.size w w' := by
  obtain ⟨l, old, first, ins, h⟩ := h
  cases hl : lightB K with
  | false => exact touch_dark K v w hl
  | true => exact touch_walk K v (of_wf hv) w.heap.size l old first ins w h (Nat.le_refl _) hl
end Go.Proofs.Ytmjelcoljmefeaa
