/-
  No cell of these rows narrows 'for every input' (looked for: loops, veiled, ifaces, maps, wideKeys, modest, calm, conditions, laid).
  DERIVED. THE GIVEN ROWS OF THIS SEAT. 7 by the template 'for every input the law returns true; each argument reads behind the call as it read before'; 0 by the template 'total and deterministic' (their statements: YtmajnkdfchjcbaaTotals.lean).
  GIVEN WITH THE SEED: the statements are not yours to turn. If you find one false, say at which input.
  Laid BY PROGRAM, IN A SANDBOX (cutbox-rows.mjs): the forced cells as the released guide's own fill.sh prints them over the translation 8e104de20ae5fdf3… (all of the seat's roots in one cut). By AI agents, Wed Nov 11 2026. No macro, syntax, notation, axiom, sorry.
-/
import Derived.Test.YtmajnkdfchjcbaaChecked
import GoSem.Claim
import GoSem.ClaimJoined
import GoSem.ClaimMapViews
import Derived.JoinedTies
import Derived.KernelRfl
namespace Go.Proofs.Ytmajnkdfchjcbaa
/- THE CELL 'sum', in the pinned program and in every row, IS THE sha256 OF THE DUMP (.gsa) THAT YtmajnkdfchjcbaaProg.lean LOADS. Nothing in Lean hashes anything: it is a label: what it is worth is what the hold of that sum in a sandbox is worth. -/
noncomputable def Try.pinned : Pinned := { name := "ytmajnkdfchjcbaa", sum := "8e104de20ae5fdf300c5c79b0b225f3c4936eb49a5d849f210b444dceb34b14d", checked := Try.checked }
namespace Rows
def none {H : Type} : Left H := { results := [], args := [] }

/-- 'midstreamlaw02.OctetPuts': WHATEVER THE INPUT: true; the input reads as it did. -/
def octetPutsSpec : ChangeSpec := { name := "octetPuts", fn := fun _ => fun
  | [d1, d2, d3] => { results := [.lit (.bool true)], args := [d1, d2, d3] }
  | _ => none }
def octetPutsRow : OpenClaim := { program := "ytmajnkdfchjcbaa", sum := "8e104de20ae5fdf300c5c79b0b225f3c4936eb49a5d849f210b444dceb34b14d", func := "midstream/midstreamlaw02.OctetPuts", spec := "octetPuts", apart := false }
def OctetPutsSaid : Prop := octetPutsRow.holds Try.pinned (OpenSpec.ofChange octetPutsSpec)

/-- ITS FALSE NEIGHBOUR: 'it returns false'. Refute it at one input. -/
def octetPutsWrong : ChangeSpec := { name := "octetPuts", fn := fun _ => fun
  | [d1, d2, d3] => { results := [.lit (.bool false)], args := [d1, d2, d3] }
  | _ => none }
def OctetPutsWrongFalsely : Prop := octetPutsRow.holds Try.pinned (OpenSpec.ofChange octetPutsWrong)

/-- 'midstreamlaw02.OctetGets': WHATEVER THE INPUT: true; the input reads as it did. -/
def octetGetsSpec : ChangeSpec := { name := "octetGets", fn := fun _ => fun
  | [d1, d2, d3] => { results := [.lit (.bool true)], args := [d1, d2, d3] }
  | _ => none }
def octetGetsRow : OpenClaim := { program := "ytmajnkdfchjcbaa", sum := "8e104de20ae5fdf300c5c79b0b225f3c4936eb49a5d849f210b444dceb34b14d", func := "midstream/midstreamlaw02.OctetGets", spec := "octetGets", apart := false }
def OctetGetsSaid : Prop := octetGetsRow.holds Try.pinned (OpenSpec.ofChange octetGetsSpec)

/-- ITS FALSE NEIGHBOUR: 'it returns false'. Refute it at one input. -/
def octetGetsWrong : ChangeSpec := { name := "octetGets", fn := fun _ => fun
  | [d1, d2, d3] => { results := [.lit (.bool false)], args := [d1, d2, d3] }
  | _ => none }
def OctetGetsWrongFalsely : Prop := octetGetsRow.holds Try.pinned (OpenSpec.ofChange octetGetsWrong)

/-- 'midstreamlaw02.OctetRuns': WHATEVER THE INPUT: true; the input reads as it did. -/
def octetRunsSpec : ChangeSpec := { name := "octetRuns", fn := fun _ => fun
  | [d1, d2, d3] => { results := [.lit (.bool true)], args := [d1, d2, d3] }
  | _ => none }
def octetRunsRow : OpenClaim := { program := "ytmajnkdfchjcbaa", sum := "8e104de20ae5fdf300c5c79b0b225f3c4936eb49a5d849f210b444dceb34b14d", func := "midstream/midstreamlaw02.OctetRuns", spec := "octetRuns", apart := false }
def OctetRunsSaid : Prop := octetRunsRow.holds Try.pinned (OpenSpec.ofChange octetRunsSpec)

/-- ITS FALSE NEIGHBOUR: 'it returns false'. Refute it at one input. -/
def octetRunsWrong : ChangeSpec := { name := "octetRuns", fn := fun _ => fun
  | [d1, d2, d3] => { results := [.lit (.bool false)], args := [d1, d2, d3] }
  | _ => none }
def OctetRunsWrongFalsely : Prop := octetRunsRow.holds Try.pinned (OpenSpec.ofChange octetRunsWrong)

/-- 'midstreamlaw02.OctetWords': WHATEVER THE INPUT: true; the input reads as it did. -/
def octetWordsSpec : ChangeSpec := { name := "octetWords", fn := fun _ => fun
  | [d1, d2, d3] => { results := [.lit (.bool true)], args := [d1, d2, d3] }
  | _ => none }
def octetWordsRow : OpenClaim := { program := "ytmajnkdfchjcbaa", sum := "8e104de20ae5fdf300c5c79b0b225f3c4936eb49a5d849f210b444dceb34b14d", func := "midstream/midstreamlaw02.OctetWords", spec := "octetWords", apart := false }
def OctetWordsSaid : Prop := octetWordsRow.holds Try.pinned (OpenSpec.ofChange octetWordsSpec)

/-- ITS FALSE NEIGHBOUR: 'it returns false'. Refute it at one input. -/
def octetWordsWrong : ChangeSpec := { name := "octetWords", fn := fun _ => fun
  | [d1, d2, d3] => { results := [.lit (.bool false)], args := [d1, d2, d3] }
  | _ => none }
def OctetWordsWrongFalsely : Prop := octetWordsRow.holds Try.pinned (OpenSpec.ofChange octetWordsWrong)

/-- 'midstreamlaw02.OctetBack': WHATEVER THE INPUT: true; the input reads as it did. -/
def octetBackSpec : ChangeSpec := { name := "octetBack", fn := fun _ => fun
  | [d1, d2, d3] => { results := [.lit (.bool true)], args := [d1, d2, d3] }
  | _ => none }
def octetBackRow : OpenClaim := { program := "ytmajnkdfchjcbaa", sum := "8e104de20ae5fdf300c5c79b0b225f3c4936eb49a5d849f210b444dceb34b14d", func := "midstream/midstreamlaw02.OctetBack", spec := "octetBack", apart := false }
def OctetBackSaid : Prop := octetBackRow.holds Try.pinned (OpenSpec.ofChange octetBackSpec)

/-- ITS FALSE NEIGHBOUR: 'it returns false'. Refute it at one input. -/
def octetBackWrong : ChangeSpec := { name := "octetBack", fn := fun _ => fun
  | [d1, d2, d3] => { results := [.lit (.bool false)], args := [d1, d2, d3] }
  | _ => none }
def OctetBackWrongFalsely : Prop := octetBackRow.holds Try.pinned (OpenSpec.ofChange octetBackWrong)

/-- 'midstreamlaw02.OctetRow': WHATEVER THE INPUT: true; the input reads as it did. -/
def octetRowSpec : ChangeSpec := { name := "octetRow", fn := fun _ => fun
  | [d] => { results := [.lit (.bool true)], args := [d] }
  | _ => none }
def octetRowRow : OpenClaim := { program := "ytmajnkdfchjcbaa", sum := "8e104de20ae5fdf300c5c79b0b225f3c4936eb49a5d849f210b444dceb34b14d", func := "midstream/midstreamlaw02.OctetRow", spec := "octetRow", apart := false }
def OctetRowSaid : Prop := octetRowRow.holds Try.pinned (OpenSpec.ofChange octetRowSpec)

/-- ITS FALSE NEIGHBOUR: 'it returns false'. Refute it at one input. -/
def octetRowWrong : ChangeSpec := { name := "octetRow", fn := fun _ => fun
  | [d] => { results := [.lit (.bool false)], args := [d] }
  | _ => none }
def OctetRowWrongFalsely : Prop := octetRowRow.holds Try.pinned (OpenSpec.ofChange octetRowWrong)

/-- 'midstreamlaw02.OctetWhole': WHATEVER THE INPUT: true; the input reads as it did. -/
def octetWholeSpec : ChangeSpec := { name := "octetWhole", fn := fun _ => fun
  | [d1, d2] => { results := [.lit (.bool true)], args := [d1, d2] }
  | _ => none }
def octetWholeRow : OpenClaim := { program := "ytmajnkdfchjcbaa", sum := "8e104de20ae5fdf300c5c79b0b225f3c4936eb49a5d849f210b444dceb34b14d", func := "midstream/midstreamlaw02.OctetWhole", spec := "octetWhole", apart := false }
def OctetWholeSaid : Prop := octetWholeRow.holds Try.pinned (OpenSpec.ofChange octetWholeSpec)

/-- ITS FALSE NEIGHBOUR: 'it returns false'. Refute it at one input. -/
def octetWholeWrong : ChangeSpec := { name := "octetWhole", fn := fun _ => fun
  | [d1, d2] => { results := [.lit (.bool false)], args := [d1, d2] }
  | _ => none }
def OctetWholeWrongFalsely : Prop := octetWholeRow.holds Try.pinned (OpenSpec.ofChange octetWholeWrong)

/- THE SECOND FORM. 'bulk': how many values and letters a reading holds, each counted each time it is reached (what is shared counts as often as it is met; a slice's spare places count too). A statement '..UptoSaid' is the law's where the arguments, and the package variables that the reading takes, are together of bulk at most 1048576: NARROWER than '..Said'. Prove '..Said' where nothing that the law and all that it calls make is longer than what came in: it says more and counts as full. Else prove '..UptoSaid'. A law counts once. -/
mutual
def uptoBulk {H : Type} : DataW H → Nat
  | .lit (.string bytes) => bytes.length + 1
  | .lit _ => 1
  | .nil => 1
  | .ptr d => uptoBulk d + 1
  | .slice elems spare => uptoBulkAll elems + uptoBulkAll spare + 1
  | .agg parts => uptoBulkAll parts + 1
  | .iface _ d => uptoBulk d + 1
  | .map entries => uptoBulkEntries entries + 1
  | .held _ => 1
def uptoBulkAll {H : Type} : List (DataW H) → Nat
  | [] => 0
  | d :: r => uptoBulk d + uptoBulkAll r
def uptoBulkEntries {H : Type} : List (Lit × DataW H) → Nat
  | [] => 0
  | x :: r => uptoBulkEntry x + uptoBulkEntries r
def uptoBulkEntry {H : Type} : Lit × DataW H → Nat
  | (.string bytes, d) => bytes.length + uptoBulk d + 1
  | (_, d) => uptoBulk d + 1
 end
def uptoSmall : (H : Type) → List (DataW H) → Bool := fun _ ds => decide (uptoBulkAll ds ≤ 1048576)
def OpenSpec.upto (s : _root_.Go.ChangeSpec) : _root_.Go.OpenSpec := { _root_.Go.OpenSpec.ofChange s with cond := some uptoSmall }

/-- 'midstreamlaw02.OctetPuts', WHERE WHAT IT READS IS OF BULK AT MOST 1048576: true; the input reads as it did. -/
def octetPutsUptoRow : OpenClaim := { program := "ytmajnkdfchjcbaa", sum := "8e104de20ae5fdf300c5c79b0b225f3c4936eb49a5d849f210b444dceb34b14d", func := "midstream/midstreamlaw02.OctetPuts", spec := "octetPuts", apart := false, narrowed := true }
def OctetPutsUptoSaid : Prop := octetPutsUptoRow.holds Try.pinned (OpenSpec.upto octetPutsSpec)

/-- 'midstreamlaw02.OctetGets', WHERE WHAT IT READS IS OF BULK AT MOST 1048576: true; the input reads as it did. -/
def octetGetsUptoRow : OpenClaim := { program := "ytmajnkdfchjcbaa", sum := "8e104de20ae5fdf300c5c79b0b225f3c4936eb49a5d849f210b444dceb34b14d", func := "midstream/midstreamlaw02.OctetGets", spec := "octetGets", apart := false, narrowed := true }
def OctetGetsUptoSaid : Prop := octetGetsUptoRow.holds Try.pinned (OpenSpec.upto octetGetsSpec)

/-- 'midstreamlaw02.OctetRuns', WHERE WHAT IT READS IS OF BULK AT MOST 1048576: true; the input reads as it did. -/
def octetRunsUptoRow : OpenClaim := { program := "ytmajnkdfchjcbaa", sum := "8e104de20ae5fdf300c5c79b0b225f3c4936eb49a5d849f210b444dceb34b14d", func := "midstream/midstreamlaw02.OctetRuns", spec := "octetRuns", apart := false, narrowed := true }
def OctetRunsUptoSaid : Prop := octetRunsUptoRow.holds Try.pinned (OpenSpec.upto octetRunsSpec)

/-- 'midstreamlaw02.OctetWords', WHERE WHAT IT READS IS OF BULK AT MOST 1048576: true; the input reads as it did. -/
def octetWordsUptoRow : OpenClaim := { program := "ytmajnkdfchjcbaa", sum := "8e104de20ae5fdf300c5c79b0b225f3c4936eb49a5d849f210b444dceb34b14d", func := "midstream/midstreamlaw02.OctetWords", spec := "octetWords", apart := false, narrowed := true }
def OctetWordsUptoSaid : Prop := octetWordsUptoRow.holds Try.pinned (OpenSpec.upto octetWordsSpec)

/-- 'midstreamlaw02.OctetBack', WHERE WHAT IT READS IS OF BULK AT MOST 1048576: true; the input reads as it did. -/
def octetBackUptoRow : OpenClaim := { program := "ytmajnkdfchjcbaa", sum := "8e104de20ae5fdf300c5c79b0b225f3c4936eb49a5d849f210b444dceb34b14d", func := "midstream/midstreamlaw02.OctetBack", spec := "octetBack", apart := false, narrowed := true }
def OctetBackUptoSaid : Prop := octetBackUptoRow.holds Try.pinned (OpenSpec.upto octetBackSpec)

/-- 'midstreamlaw02.OctetRow', WHERE WHAT IT READS IS OF BULK AT MOST 1048576: true; the input reads as it did. -/
def octetRowUptoRow : OpenClaim := { program := "ytmajnkdfchjcbaa", sum := "8e104de20ae5fdf300c5c79b0b225f3c4936eb49a5d849f210b444dceb34b14d", func := "midstream/midstreamlaw02.OctetRow", spec := "octetRow", apart := false, narrowed := true }
def OctetRowUptoSaid : Prop := octetRowUptoRow.holds Try.pinned (OpenSpec.upto octetRowSpec)

/-- 'midstreamlaw02.OctetWhole', WHERE WHAT IT READS IS OF BULK AT MOST 1048576: true; the input reads as it did. -/
def octetWholeUptoRow : OpenClaim := { program := "ytmajnkdfchjcbaa", sum := "8e104de20ae5fdf300c5c79b0b225f3c4936eb49a5d849f210b444dceb34b14d", func := "midstream/midstreamlaw02.OctetWhole", spec := "octetWhole", apart := false, narrowed := true }
def OctetWholeUptoSaid : Prop := octetWholeUptoRow.holds Try.pinned (OpenSpec.upto octetWholeSpec)

end Rows
end Go.Proofs.Ytmajnkdfchjcbaa
