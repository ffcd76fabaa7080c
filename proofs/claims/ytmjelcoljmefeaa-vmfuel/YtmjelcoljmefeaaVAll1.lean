/-
  VmFuel for every input.
-/
import Derived.Test.YtmjelcoljmefeaaVLaw1
namespace Go.Proofs.Ytmjelcoljmefeaa
open Go.RowKit
set_option maxRecDepth 20000

theorem fuel_all (K : CD) (more : Int) (w : World) (h : ∃ l old first ins, CR w w.heap.size K l old first ins) (hm : (Lit.int .u16 more).wf = true) :
    Calls Try.prog 5 #[.agg #[.slice K.A K.n K.c, .int .i64 K.f.s, .int .i64 K.f.o, .int .i64 K.f.n, .int .i64 K.f.i, .int .i64 K.f.u, .slice K.oA K.no K.oc, .slice K.fA K.nf K.fc, .slice K.iA K.ni K.ic, .int .i64 K.fu], .int .u16 more] w fun e w' => e = .returned (.bool true) ∧ Below w.heap.size w w' := by
  obtain ⟨l, old, first, ins, h⟩ := h
  have hm' : 0 ≤ more ∧ more ≤ 65535 := by simpa [Lit.wf, IntKind.min, IntKind.max, IntKind.signed, IntKind.bits] using hm
  cases hl : lightB K with
  | false => exact fuel_dark K more w hl
  | true => exact fuel_walk K more hm'.1 hm'.2 w.heap.size l old first ins w h (Nat.le_refl _) hl
end Go.Proofs.Ytmjelcoljmefeaa
