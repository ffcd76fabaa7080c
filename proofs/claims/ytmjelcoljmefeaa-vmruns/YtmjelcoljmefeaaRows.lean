/-
  No cell of these rows narrows 'for every input' (looked for: loops, veiled, ifaces, maps, wideKeys, modest, calm, conditions, laid).
  DERIVED. THE GIVEN ROWS OF THIS SEAT. 5 by the template 'for every input the law returns true; each argument reads behind the call as it read before'; 0 by the template 'total and deterministic' (their statements: YtmjelcoljmefeaaTotals.lean).
  GIVEN WITH THE SEED: the statements are not yours to turn. If you find one false, say at which input.
  Laid BY PROGRAM, IN A SANDBOX (cutbox-rows.mjs): the forced cells as the released guide's own fill.sh prints them over the translation 441d53d3de3bd90f… (all of the seat's roots in one cut). By AI agents, Wed Nov 11 2026. No macro, syntax, notation, axiom, sorry.
-/
import Derived.Test.YtmjelcoljmefeaaChecked
import GoSem.Claim
import GoSem.ClaimJoined
import GoSem.ClaimMapViews
import Derived.JoinedTies
import Derived.KernelRfl
namespace Go.Proofs.Ytmjelcoljmefeaa
/- THE CELL 'sum', in the pinned program and in every row, IS THE sha256 OF THE DUMP (.gsa) THAT YtmjelcoljmefeaaProg.lean LOADS. Nothing in Lean hashes anything: it is a label: what it is worth is what the hold of that sum in a sandbox is worth. -/
noncomputable def Try.pinned : Pinned := { name := "ytmjelcoljmefeaa", sum := "441d53d3de3bd90febb65157710fc262319c1315e92c45ef512f49fb6c38110a", checked := Try.checked }
namespace Rows
def none {H : Type} : Left H := { results := [], args := [] }

/-- 'midstreamlaw10.VmRuns': WHATEVER THE INPUT: true; the input reads as it did. -/
def vmRunsSpec : ChangeSpec := { name := "vmRuns", fn := fun _ => fun
  | [d] => { results := [.lit (.bool true)], args := [d] }
  | _ => none }
def vmRunsRow : OpenClaim := { program := "ytmjelcoljmefeaa", sum := "441d53d3de3bd90febb65157710fc262319c1315e92c45ef512f49fb6c38110a", func := "midstream/midstreamlaw10.VmRuns", spec := "vmRuns", unfollowed := true, recurses := true, apart := false }
def VmRunsSaid : Prop := vmRunsRow.holds Try.pinned (OpenSpec.ofChange vmRunsSpec)

/-- ITS FALSE NEIGHBOUR: 'it returns false'. Refute it at one input. -/
def vmRunsWrong : ChangeSpec := { name := "vmRuns", fn := fun _ => fun
  | [d] => { results := [.lit (.bool false)], args := [d] }
  | _ => none }
def VmRunsWrongFalsely : Prop := vmRunsRow.holds Try.pinned (OpenSpec.ofChange vmRunsWrong)

/-- 'midstreamlaw10.VmSafe': WHATEVER THE INPUT: true; the input reads as it did. -/
def vmSafeSpec : ChangeSpec := { name := "vmSafe", fn := fun _ => fun
  | [d] => { results := [.lit (.bool true)], args := [d] }
  | _ => none }
def vmSafeRow : OpenClaim := { program := "ytmjelcoljmefeaa", sum := "441d53d3de3bd90febb65157710fc262319c1315e92c45ef512f49fb6c38110a", func := "midstream/midstreamlaw10.VmSafe", spec := "vmSafe", unfollowed := true, recurses := true, apart := false }
def VmSafeSaid : Prop := vmSafeRow.holds Try.pinned (OpenSpec.ofChange vmSafeSpec)

/-- ITS FALSE NEIGHBOUR: 'it returns false'. Refute it at one input. -/
def vmSafeWrong : ChangeSpec := { name := "vmSafe", fn := fun _ => fun
  | [d] => { results := [.lit (.bool false)], args := [d] }
  | _ => none }
def VmSafeWrongFalsely : Prop := vmSafeRow.holds Try.pinned (OpenSpec.ofChange vmSafeWrong)

/-- 'midstreamlaw10.VmFuel': WHATEVER THE INPUT: true; the input reads as it did. -/
def vmFuelSpec : ChangeSpec := { name := "vmFuel", fn := fun _ => fun
  | [d1, d2] => { results := [.lit (.bool true)], args := [d1, d2] }
  | _ => none }
def vmFuelRow : OpenClaim := { program := "ytmjelcoljmefeaa", sum := "441d53d3de3bd90febb65157710fc262319c1315e92c45ef512f49fb6c38110a", func := "midstream/midstreamlaw10.VmFuel", spec := "vmFuel", unfollowed := true, recurses := true, apart := false }
def VmFuelSaid : Prop := vmFuelRow.holds Try.pinned (OpenSpec.ofChange vmFuelSpec)

/-- ITS FALSE NEIGHBOUR: 'it returns false'. Refute it at one input. -/
def vmFuelWrong : ChangeSpec := { name := "vmFuel", fn := fun _ => fun
  | [d1, d2] => { results := [.lit (.bool false)], args := [d1, d2] }
  | _ => none }
def VmFuelWrongFalsely : Prop := vmFuelRow.holds Try.pinned (OpenSpec.ofChange vmFuelWrong)

/-- 'midstreamlaw10.VmUntouched': WHATEVER THE INPUT: true; the input reads as it did. -/
def vmUntouchedSpec : ChangeSpec := { name := "vmUntouched", fn := fun _ => fun
  | [d1, d2] => { results := [.lit (.bool true)], args := [d1, d2] }
  | _ => none }
def vmUntouchedRow : OpenClaim := { program := "ytmjelcoljmefeaa", sum := "441d53d3de3bd90febb65157710fc262319c1315e92c45ef512f49fb6c38110a", func := "midstream/midstreamlaw10.VmUntouched", spec := "vmUntouched", unfollowed := true, recurses := true, apart := false }
def VmUntouchedSaid : Prop := vmUntouchedRow.holds Try.pinned (OpenSpec.ofChange vmUntouchedSpec)

/-- ITS FALSE NEIGHBOUR: 'it returns false'. Refute it at one input. -/
def vmUntouchedWrong : ChangeSpec := { name := "vmUntouched", fn := fun _ => fun
  | [d1, d2] => { results := [.lit (.bool false)], args := [d1, d2] }
  | _ => none }
def VmUntouchedWrongFalsely : Prop := vmUntouchedRow.holds Try.pinned (OpenSpec.ofChange vmUntouchedWrong)

/-- 'midstreamlaw10.VmSums': WHATEVER THE INPUT: true; the input reads as it did. -/
def vmSumsSpec : ChangeSpec := { name := "vmSums", fn := fun _ => fun
  | [d1, d2, d3] => { results := [.lit (.bool true)], args := [d1, d2, d3] }
  | _ => none }
def vmSumsRow : OpenClaim := { program := "ytmjelcoljmefeaa", sum := "441d53d3de3bd90febb65157710fc262319c1315e92c45ef512f49fb6c38110a", func := "midstream/midstreamlaw10.VmSums", spec := "vmSums", unfollowed := true, recurses := true, apart := false }
def VmSumsSaid : Prop := vmSumsRow.holds Try.pinned (OpenSpec.ofChange vmSumsSpec)

/-- ITS FALSE NEIGHBOUR: 'it returns false'. Refute it at one input. -/
def vmSumsWrong : ChangeSpec := { name := "vmSums", fn := fun _ => fun
  | [d1, d2, d3] => { results := [.lit (.bool false)], args := [d1, d2, d3] }
  | _ => none }
def VmSumsWrongFalsely : Prop := vmSumsRow.holds Try.pinned (OpenSpec.ofChange vmSumsWrong)

/- THE SECOND FORM. 'bulk': how many values and letters a reading holds, each counted each time it is reached (what is shared counts as often as it is met; a slice's spare places count too). A statement '..UptoSaid' is the law's where the arguments, and the package variables that the reading takes, are together of bulk at most 1048576: NARROWER than '..Said'. Prove '..Said' where nothing that the law and all that it calls make is longer than what came in: it says more and counts as full. Else prove '..UptoSaid'. A law counts once. -/
mutual
def uptoBulk {H : Type} : DataW H → Nat
  | .lit (.string bytes) => bytes.length + 1
  | .lit _ => 1
  | .nil => 1
  | .ptr d => uptoBulk d + 1
  | .slice elems spare => uptoBulkAll elems + uptoBulkAll spare + 1
  | .agg parts => uptoBulkAll parts + 1
  | .iface _ d => uptoBulk d + 1
  | .map entries => uptoBulkEntries entries + 1
  | .held _ => 1
def uptoBulkAll {H : Type} : List (DataW H) → Nat
  | [] => 0
  | d :: r => uptoBulk d + uptoBulkAll r
def uptoBulkEntries {H : Type} : List (Lit × DataW H) → Nat
  | [] => 0
  | x :: r => uptoBulkEntry x + uptoBulkEntries r
def uptoBulkEntry {H : Type} : Lit × DataW H → Nat
  | (.string bytes, d) => bytes.length + uptoBulk d + 1
  | (_, d) => uptoBulk d + 1
 end
def uptoSmall : (H : Type) → List (DataW H) → Bool := fun _ ds => decide (uptoBulkAll ds ≤ 1048576)
def OpenSpec.upto (s : _root_.Go.ChangeSpec) : _root_.Go.OpenSpec := { _root_.Go.OpenSpec.ofChange s with cond := some uptoSmall }

/-- 'midstreamlaw10.VmRuns', WHERE WHAT IT READS IS OF BULK AT MOST 1048576: true; the input reads as it did. -/
def vmRunsUptoRow : OpenClaim := { program := "ytmjelcoljmefeaa", sum := "441d53d3de3bd90febb65157710fc262319c1315e92c45ef512f49fb6c38110a", func := "midstream/midstreamlaw10.VmRuns", spec := "vmRuns", unfollowed := true, recurses := true, apart := false, narrowed := true }
def VmRunsUptoSaid : Prop := vmRunsUptoRow.holds Try.pinned (OpenSpec.upto vmRunsSpec)

/-- 'midstreamlaw10.VmSafe', WHERE WHAT IT READS IS OF BULK AT MOST 1048576: true; the input reads as it did. -/
def vmSafeUptoRow : OpenClaim := { program := "ytmjelcoljmefeaa", sum := "441d53d3de3bd90febb65157710fc262319c1315e92c45ef512f49fb6c38110a", func := "midstream/midstreamlaw10.VmSafe", spec := "vmSafe", unfollowed := true, recurses := true, apart := false, narrowed := true }
def VmSafeUptoSaid : Prop := vmSafeUptoRow.holds Try.pinned (OpenSpec.upto vmSafeSpec)

/-- 'midstreamlaw10.VmFuel', WHERE WHAT IT READS IS OF BULK AT MOST 1048576: true; the input reads as it did. -/
def vmFuelUptoRow : OpenClaim := { program := "ytmjelcoljmefeaa", sum := "441d53d3de3bd90febb65157710fc262319c1315e92c45ef512f49fb6c38110a", func := "midstream/midstreamlaw10.VmFuel", spec := "vmFuel", unfollowed := true, recurses := true, apart := false, narrowed := true }
def VmFuelUptoSaid : Prop := vmFuelUptoRow.holds Try.pinned (OpenSpec.upto vmFuelSpec)

/-- 'midstreamlaw10.VmUntouched', WHERE WHAT IT READS IS OF BULK AT MOST 1048576: true; the input reads as it did. -/
def vmUntouchedUptoRow : OpenClaim := { program := "ytmjelcoljmefeaa", sum := "441d53d3de3bd90febb65157710fc262319c1315e92c45ef512f49fb6c38110a", func := "midstream/midstreamlaw10.VmUntouched", spec := "vmUntouched", unfollowed := true, recurses := true, apart := false, narrowed := true }
def VmUntouchedUptoSaid : Prop := vmUntouchedUptoRow.holds Try.pinned (OpenSpec.upto vmUntouchedSpec)

/-- 'midstreamlaw10.VmSums', WHERE WHAT IT READS IS OF BULK AT MOST 1048576: true; the input reads as it did. -/
def vmSumsUptoRow : OpenClaim := { program := "ytmjelcoljmefeaa", sum := "441d53d3de3bd90febb65157710fc262319c1315e92c45ef512f49fb6c38110a", func := "midstream/midstreamlaw10.VmSums", spec := "vmSums", unfollowed := true, recurses := true, apart := false, narrowed := true }
def VmSumsUptoSaid : Prop := vmSumsUptoRow.holds Try.pinned (OpenSpec.upto vmSumsSpec)

end Rows
end Go.Proofs.Ytmjelcoljmefeaa
