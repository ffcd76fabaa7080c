/-
  VmSums for every input.
-/
import Derived.Test.YtmjelcoljmefeaaVLaw4
namespace Go.Proofs.Ytmjelcoljmefeaa
open Go.RowKit
set_option maxRecDepth 20000

theorem sums_all (op a b : Int) (w : World) (_ho : (Lit.int .i64 op).wf = true) (ha : (Lit.int .i32 a).wf = true) (hb : (Lit.int .i32 b).wf = true) :
    Calls Try.prog 7 #[.int .i64 op, .int .i32 a, .int .i32 b] w fun e w' => e = .returned (.bool true) ∧ Below w.heap.size w w' := by
  by_cases hop : op < 1 ∨ 16 < op
  · exact sums_bad op a b (of_wf ha) (of_wf hb) w hop
  · exact sums_walk op a b (of_wf ha) (of_wf hb) w (by omega)
end Go.Proofs.Ytmjelcoljmefeaa
