/-
  VmSafe for every input.
-/
import Derived.Test.YtmjelcoljmefeaaVLaw2
namespace Go.Proofs.Ytmjelcoljmefeaa
open Go.RowKit
set_option maxRecDepth 20000

theorem safe_all (K : CD) (w : World) (h : ∃ l old first ins, CR w w.heap.size K l old first ins) :
    Calls Try.prog 4 #[.agg #[.slice K.A K.n K.c, .int .i64 K.f.s, .int .i64 K.f.o, .int .i64 K.f.n, .int .i64 K.f.i, .int .i64 K.f.u, .slice K.oA K.no K.oc, .slice K.fA K.nf K.fc, .slice K.iA K.ni K.ic, .int .i64 K.fu]] w fun e w' => e = .returned (.bool true) ∧ Below w.heap.size w w' := by
  obtain ⟨l, old, first, ins, h⟩ := h
  by_cases hn : 600 < K.n
  · exact safe_big K w hn
  · obtain ⟨D, Fu, er, at_, hR⟩ : ∃ D Fu er at_, checkM K.f l = (D, Fu, er, at_) := ⟨_, _, _, _, rfl⟩
    by_cases he : er = 0
    · subst he
      exact safe_walk K w.heap.size l old first ins w h (Nat.le_refl _) (by omega) D Fu at_ hR
    · exact safe_refused K w.heap.size l old first ins w h (Nat.le_refl _) (by omega) D Fu er at_ hR he
end Go.Proofs.Ytmjelcoljmefeaa
