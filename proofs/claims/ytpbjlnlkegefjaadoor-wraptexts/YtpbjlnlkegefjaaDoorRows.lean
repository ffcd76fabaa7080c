/-
  NARROWER THAN 'FOR EVERY INPUT', by the rows' own cells (each row's printed sentence says how): WrapBins: laid · WrapUns: laid · WrapTexts: laid · WrapRing: laid · WrapParts: laid · WrapShifts: laid · WrapOrders: laid · WrapBits: laid.
  DERIVED. THE GIVEN ROWS OF THIS SEAT. 8 by the template 'for every input the law returns true; each argument reads behind the call as it read before'; 0 by the template 'total and deterministic' (their statements: YtpbjlnlkegefjaaDoorTotals.lean).
  GIVEN WITH THE SEED: the statements are not yours to turn. If you find one false, say at which input.
  Laid BY PROGRAM, IN A SANDBOX (cutbox-rows.mjs): the forced cells as the released guide's own fill.sh prints them over the translation c9740ff9bfe0c0ab… (all of the seat's roots in one cut). By AI agents, Wed Nov 11 2026. No macro, syntax, notation, axiom, sorry.
-/
import Derived.Test.YtpbjlnlkegefjaaDoorChecked
import GoSem.Claim
import GoSem.ClaimJoined
import GoSem.ClaimMapViews
import Derived.JoinedTies
import Derived.KernelRfl
namespace Go.Proofs.YtpbjlnlkegefjaaDoor
/- THE CELL 'sum', in the pinned program and in every row, IS THE sha256 OF THE DUMP (.gsa) THAT YtpbjlnlkegefjaaDoorProg.lean LOADS. Nothing in Lean hashes anything: it is a label: what it is worth is what the hold of that sum in a sandbox is worth. -/
noncomputable def Tryd.pinned : Pinned := { name := "ytpbjlnlkegefjaadoor", sum := "c9740ff9bfe0c0abfb938b3c61593dcb94f23103b53d52791c6f0edd4ccf570d", checked := Tryd.checked }
namespace Rows
def none {H : Type} : Left H := { results := [], args := [] }

/- WHAT THE LISTED PACKAGE-LEVEL VARIABLES READ AS WHEN THE CALL BEGINS. Each datum BY PROGRAM (the guide's laid-datum.mjs) off the statement by which the dump's own 'gosem.cut.vars' lays the variable. In a bare row this is a premise. The card (YtpbjlnlkegefjaaDoorCards.lean) ties it to the program's text. -/
def laid_math_bits_deBruijn32tab {H : Type} : DataW H := .agg [.lit (.int .u8 0), .lit (.int .u8 1), .lit (.int .u8 28), .lit (.int .u8 2), .lit (.int .u8 29), .lit (.int .u8 14), .lit (.int .u8 24), .lit (.int .u8 3), .lit (.int .u8 30), .lit (.int .u8 22), .lit (.int .u8 20), .lit (.int .u8 15), .lit (.int .u8 25), .lit (.int .u8 17), .lit (.int .u8 4), .lit (.int .u8 8), .lit (.int .u8 31), .lit (.int .u8 27), .lit (.int .u8 13), .lit (.int .u8 23), .lit (.int .u8 21), .lit (.int .u8 19), .lit (.int .u8 16), .lit (.int .u8 7), .lit (.int .u8 26), .lit (.int .u8 12), .lit (.int .u8 18), .lit (.int .u8 6), .lit (.int .u8 11), .lit (.int .u8 5), .lit (.int .u8 10), .lit (.int .u8 9)]
def laid_math_bits_deBruijn64tab {H : Type} : DataW H := .agg [.lit (.int .u8 0), .lit (.int .u8 1), .lit (.int .u8 56), .lit (.int .u8 2), .lit (.int .u8 57), .lit (.int .u8 49), .lit (.int .u8 28), .lit (.int .u8 3), .lit (.int .u8 61), .lit (.int .u8 58), .lit (.int .u8 42), .lit (.int .u8 50), .lit (.int .u8 38), .lit (.int .u8 29), .lit (.int .u8 17), .lit (.int .u8 4), .lit (.int .u8 62), .lit (.int .u8 47), .lit (.int .u8 59), .lit (.int .u8 36), .lit (.int .u8 45), .lit (.int .u8 43), .lit (.int .u8 51), .lit (.int .u8 22), .lit (.int .u8 53), .lit (.int .u8 39), .lit (.int .u8 33), .lit (.int .u8 30), .lit (.int .u8 24), .lit (.int .u8 18), .lit (.int .u8 12), .lit (.int .u8 5), .lit (.int .u8 63), .lit (.int .u8 55), .lit (.int .u8 48), .lit (.int .u8 27), .lit (.int .u8 60), .lit (.int .u8 41), .lit (.int .u8 37), .lit (.int .u8 16), .lit (.int .u8 46), .lit (.int .u8 35), .lit (.int .u8 44), .lit (.int .u8 21), .lit (.int .u8 52), .lit (.int .u8 32), .lit (.int .u8 23), .lit (.int .u8 11), .lit (.int .u8 54), .lit (.int .u8 26), .lit (.int .u8 40), .lit (.int .u8 15), .lit (.int .u8 34), .lit (.int .u8 20), .lit (.int .u8 31), .lit (.int .u8 10), .lit (.int .u8 25), .lit (.int .u8 14), .lit (.int .u8 19), .lit (.int .u8 9), .lit (.int .u8 13), .lit (.int .u8 8), .lit (.int .u8 7), .lit (.int .u8 6)]
def laid_internal_strconv_uint64pow10 {H : Type} : DataW H := .agg [.lit (.int .u64 1), .lit (.int .u64 10), .lit (.int .u64 100), .lit (.int .u64 1000), .lit (.int .u64 10000), .lit (.int .u64 100000), .lit (.int .u64 1000000), .lit (.int .u64 10000000), .lit (.int .u64 100000000), .lit (.int .u64 1000000000), .lit (.int .u64 10000000000), .lit (.int .u64 100000000000), .lit (.int .u64 1000000000000), .lit (.int .u64 10000000000000), .lit (.int .u64 100000000000000), .lit (.int .u64 1000000000000000), .lit (.int .u64 10000000000000000), .lit (.int .u64 100000000000000000), .lit (.int .u64 1000000000000000000), .lit (.int .u64 10000000000000000000)]
def laid_strconv_ErrRange {H : Type} : DataW H := .iface "*errors.errorString" (.ptr (.agg [.lit (.string [118, 97, 108, 117, 101, 32, 111, 117, 116, 32, 111, 102, 32, 114, 97, 110, 103, 101])]))
def laid_strconv_ErrSyntax {H : Type} : DataW H := .iface "*errors.errorString" (.ptr (.agg [.lit (.string [105, 110, 118, 97, 108, 105, 100, 32, 115, 121, 110, 116, 97, 120])]))

/-- 'midstreamlaw01.WrapBins': WHATEVER THE INPUT: true; the input reads as it did. -/
def wrapBinsSpec : ChangeSpec := { name := "wrapBins", fn := fun _ => fun
  | [d1, d2, d3] => { results := [.lit (.bool true)], args := [d1, d2, d3] }
  | _ => none }
def wrapBinsRow : OpenClaim := { program := "ytpbjlnlkegefjaadoor", sum := "c9740ff9bfe0c0abfb938b3c61593dcb94f23103b53d52791c6f0edd4ccf570d", func := "midstream/midstreamlaw01.WrapBins", spec := "wrapBins", named := ["internal/strconv.uint64pow10", "math/bits.deBruijn32tab", "math/bits.deBruijn64tab"], apart := false, laid := [("math/bits.deBruijn32tab", laid_math_bits_deBruijn32tab), ("math/bits.deBruijn64tab", laid_math_bits_deBruijn64tab), ("internal/strconv.uint64pow10", laid_internal_strconv_uint64pow10)] }
def WrapBinsSaid : Prop := wrapBinsRow.holds Tryd.pinned (OpenSpec.ofChange wrapBinsSpec)

/-- ITS FALSE NEIGHBOUR: 'it returns false'. Refute it at one input. -/
def wrapBinsWrong : ChangeSpec := { name := "wrapBins", fn := fun _ => fun
  | [d1, d2, d3] => { results := [.lit (.bool false)], args := [d1, d2, d3] }
  | _ => none }
def WrapBinsWrongFalsely : Prop := wrapBinsRow.holds Tryd.pinned (OpenSpec.ofChange wrapBinsWrong)

/-- 'midstreamlaw01.WrapUns': WHATEVER THE INPUT: true; the input reads as it did. -/
def wrapUnsSpec : ChangeSpec := { name := "wrapUns", fn := fun _ => fun
  | [d1, d2, d3] => { results := [.lit (.bool true)], args := [d1, d2, d3] }
  | _ => none }
def wrapUnsRow : OpenClaim := { program := "ytpbjlnlkegefjaadoor", sum := "c9740ff9bfe0c0abfb938b3c61593dcb94f23103b53d52791c6f0edd4ccf570d", func := "midstream/midstreamlaw01.WrapUns", spec := "wrapUns", named := ["internal/strconv.uint64pow10", "math/bits.deBruijn32tab", "math/bits.deBruijn64tab"], apart := false, laid := [("math/bits.deBruijn32tab", laid_math_bits_deBruijn32tab), ("math/bits.deBruijn64tab", laid_math_bits_deBruijn64tab), ("internal/strconv.uint64pow10", laid_internal_strconv_uint64pow10)] }
def WrapUnsSaid : Prop := wrapUnsRow.holds Tryd.pinned (OpenSpec.ofChange wrapUnsSpec)

/-- ITS FALSE NEIGHBOUR: 'it returns false'. Refute it at one input. -/
def wrapUnsWrong : ChangeSpec := { name := "wrapUns", fn := fun _ => fun
  | [d1, d2, d3] => { results := [.lit (.bool false)], args := [d1, d2, d3] }
  | _ => none }
def WrapUnsWrongFalsely : Prop := wrapUnsRow.holds Tryd.pinned (OpenSpec.ofChange wrapUnsWrong)

/-- 'midstreamlaw01.WrapTexts': WHATEVER THE INPUT: true; the input reads as it did. -/
def wrapTextsSpec : ChangeSpec := { name := "wrapTexts", fn := fun _ => fun
  | [d1, d2] => { results := [.lit (.bool true)], args := [d1, d2] }
  | _ => none }
def wrapTextsRow : OpenClaim := { program := "ytpbjlnlkegefjaadoor", sum := "c9740ff9bfe0c0abfb938b3c61593dcb94f23103b53d52791c6f0edd4ccf570d", func := "midstream/midstreamlaw01.WrapTexts", spec := "wrapTexts", named := ["internal/strconv.uint64pow10", "math/bits.deBruijn32tab", "math/bits.deBruijn64tab", "strconv.ErrSyntax", "strconv.ErrRange"], apart := false, laid := [("math/bits.deBruijn32tab", laid_math_bits_deBruijn32tab), ("math/bits.deBruijn64tab", laid_math_bits_deBruijn64tab), ("internal/strconv.uint64pow10", laid_internal_strconv_uint64pow10), ("strconv.ErrRange", laid_strconv_ErrRange), ("strconv.ErrSyntax", laid_strconv_ErrSyntax)] }
def WrapTextsSaid : Prop := wrapTextsRow.holds Tryd.pinned (OpenSpec.ofChange wrapTextsSpec)

/-- ITS FALSE NEIGHBOUR: 'it returns false'. Refute it at one input. -/
def wrapTextsWrong : ChangeSpec := { name := "wrapTexts", fn := fun _ => fun
  | [d1, d2] => { results := [.lit (.bool false)], args := [d1, d2] }
  | _ => none }
def WrapTextsWrongFalsely : Prop := wrapTextsRow.holds Tryd.pinned (OpenSpec.ofChange wrapTextsWrong)

/-- 'midstreamlaw01.WrapRing': WHATEVER THE INPUT: true; the input reads as it did. -/
def wrapRingSpec : ChangeSpec := { name := "wrapRing", fn := fun _ => fun
  | [d1, d2, d3] => { results := [.lit (.bool true)], args := [d1, d2, d3] }
  | _ => none }
def wrapRingRow : OpenClaim := { program := "ytpbjlnlkegefjaadoor", sum := "c9740ff9bfe0c0abfb938b3c61593dcb94f23103b53d52791c6f0edd4ccf570d", func := "midstream/midstreamlaw01.WrapRing", spec := "wrapRing", named := ["internal/strconv.uint64pow10", "math/bits.deBruijn32tab", "math/bits.deBruijn64tab"], apart := false, laid := [("math/bits.deBruijn32tab", laid_math_bits_deBruijn32tab), ("math/bits.deBruijn64tab", laid_math_bits_deBruijn64tab), ("internal/strconv.uint64pow10", laid_internal_strconv_uint64pow10)] }
def WrapRingSaid : Prop := wrapRingRow.holds Tryd.pinned (OpenSpec.ofChange wrapRingSpec)

/-- ITS FALSE NEIGHBOUR: 'it returns false'. Refute it at one input. -/
def wrapRingWrong : ChangeSpec := { name := "wrapRing", fn := fun _ => fun
  | [d1, d2, d3] => { results := [.lit (.bool false)], args := [d1, d2, d3] }
  | _ => none }
def WrapRingWrongFalsely : Prop := wrapRingRow.holds Tryd.pinned (OpenSpec.ofChange wrapRingWrong)

/-- 'midstreamlaw01.WrapParts': WHATEVER THE INPUT: true; the input reads as it did. -/
def wrapPartsSpec : ChangeSpec := { name := "wrapParts", fn := fun _ => fun
  | [d1, d2] => { results := [.lit (.bool true)], args := [d1, d2] }
  | _ => none }
def wrapPartsRow : OpenClaim := { program := "ytpbjlnlkegefjaadoor", sum := "c9740ff9bfe0c0abfb938b3c61593dcb94f23103b53d52791c6f0edd4ccf570d", func := "midstream/midstreamlaw01.WrapParts", spec := "wrapParts", named := ["internal/strconv.uint64pow10", "math/bits.deBruijn32tab", "math/bits.deBruijn64tab"], apart := false, laid := [("math/bits.deBruijn32tab", laid_math_bits_deBruijn32tab), ("math/bits.deBruijn64tab", laid_math_bits_deBruijn64tab), ("internal/strconv.uint64pow10", laid_internal_strconv_uint64pow10)] }
def WrapPartsSaid : Prop := wrapPartsRow.holds Tryd.pinned (OpenSpec.ofChange wrapPartsSpec)

/-- ITS FALSE NEIGHBOUR: 'it returns false'. Refute it at one input. -/
def wrapPartsWrong : ChangeSpec := { name := "wrapParts", fn := fun _ => fun
  | [d1, d2] => { results := [.lit (.bool false)], args := [d1, d2] }
  | _ => none }
def WrapPartsWrongFalsely : Prop := wrapPartsRow.holds Tryd.pinned (OpenSpec.ofChange wrapPartsWrong)

/-- 'midstreamlaw01.WrapShifts': WHATEVER THE INPUT: true; the input reads as it did. -/
def wrapShiftsSpec : ChangeSpec := { name := "wrapShifts", fn := fun _ => fun
  | [d1, d2] => { results := [.lit (.bool true)], args := [d1, d2] }
  | _ => none }
def wrapShiftsRow : OpenClaim := { program := "ytpbjlnlkegefjaadoor", sum := "c9740ff9bfe0c0abfb938b3c61593dcb94f23103b53d52791c6f0edd4ccf570d", func := "midstream/midstreamlaw01.WrapShifts", spec := "wrapShifts", named := ["internal/strconv.uint64pow10", "math/bits.deBruijn32tab", "math/bits.deBruijn64tab"], apart := false, laid := [("math/bits.deBruijn32tab", laid_math_bits_deBruijn32tab), ("math/bits.deBruijn64tab", laid_math_bits_deBruijn64tab), ("internal/strconv.uint64pow10", laid_internal_strconv_uint64pow10)] }
def WrapShiftsSaid : Prop := wrapShiftsRow.holds Tryd.pinned (OpenSpec.ofChange wrapShiftsSpec)

/-- ITS FALSE NEIGHBOUR: 'it returns false'. Refute it at one input. -/
def wrapShiftsWrong : ChangeSpec := { name := "wrapShifts", fn := fun _ => fun
  | [d1, d2] => { results := [.lit (.bool false)], args := [d1, d2] }
  | _ => none }
def WrapShiftsWrongFalsely : Prop := wrapShiftsRow.holds Tryd.pinned (OpenSpec.ofChange wrapShiftsWrong)

/-- 'midstreamlaw01.WrapOrders': WHATEVER THE INPUT: true; the input reads as it did. -/
def wrapOrdersSpec : ChangeSpec := { name := "wrapOrders", fn := fun _ => fun
  | [d1, d2, d3] => { results := [.lit (.bool true)], args := [d1, d2, d3] }
  | _ => none }
def wrapOrdersRow : OpenClaim := { program := "ytpbjlnlkegefjaadoor", sum := "c9740ff9bfe0c0abfb938b3c61593dcb94f23103b53d52791c6f0edd4ccf570d", func := "midstream/midstreamlaw01.WrapOrders", spec := "wrapOrders", named := ["internal/strconv.uint64pow10", "math/bits.deBruijn32tab", "math/bits.deBruijn64tab"], apart := false, laid := [("math/bits.deBruijn32tab", laid_math_bits_deBruijn32tab), ("math/bits.deBruijn64tab", laid_math_bits_deBruijn64tab), ("internal/strconv.uint64pow10", laid_internal_strconv_uint64pow10)] }
def WrapOrdersSaid : Prop := wrapOrdersRow.holds Tryd.pinned (OpenSpec.ofChange wrapOrdersSpec)

/-- ITS FALSE NEIGHBOUR: 'it returns false'. Refute it at one input. -/
def wrapOrdersWrong : ChangeSpec := { name := "wrapOrders", fn := fun _ => fun
  | [d1, d2, d3] => { results := [.lit (.bool false)], args := [d1, d2, d3] }
  | _ => none }
def WrapOrdersWrongFalsely : Prop := wrapOrdersRow.holds Tryd.pinned (OpenSpec.ofChange wrapOrdersWrong)

/-- 'midstreamlaw01.WrapBits': WHATEVER THE INPUT: true; the input reads as it did. -/
def wrapBitsSpec : ChangeSpec := { name := "wrapBits", fn := fun _ => fun
  | [d1, d2] => { results := [.lit (.bool true)], args := [d1, d2] }
  | _ => none }
def wrapBitsRow : OpenClaim := { program := "ytpbjlnlkegefjaadoor", sum := "c9740ff9bfe0c0abfb938b3c61593dcb94f23103b53d52791c6f0edd4ccf570d", func := "midstream/midstreamlaw01.WrapBits", spec := "wrapBits", named := ["internal/strconv.uint64pow10", "math/bits.deBruijn32tab", "math/bits.deBruijn64tab"], apart := false, laid := [("math/bits.deBruijn32tab", laid_math_bits_deBruijn32tab), ("math/bits.deBruijn64tab", laid_math_bits_deBruijn64tab), ("internal/strconv.uint64pow10", laid_internal_strconv_uint64pow10)] }
def WrapBitsSaid : Prop := wrapBitsRow.holds Tryd.pinned (OpenSpec.ofChange wrapBitsSpec)

/-- ITS FALSE NEIGHBOUR: 'it returns false'. Refute it at one input. -/
def wrapBitsWrong : ChangeSpec := { name := "wrapBits", fn := fun _ => fun
  | [d1, d2] => { results := [.lit (.bool false)], args := [d1, d2] }
  | _ => none }
def WrapBitsWrongFalsely : Prop := wrapBitsRow.holds Tryd.pinned (OpenSpec.ofChange wrapBitsWrong)

/- THE SECOND FORM. 'bulk': how many values and letters a reading holds, each counted each time it is reached (what is shared counts as often as it is met; a slice's spare places count too). A statement '..UptoSaid' is the law's where the arguments, and the package variables that the reading takes, are together of bulk at most 1048576: NARROWER than '..Said'. Prove '..Said' where nothing that the law and all that it calls make is longer than what came in: it says more and counts as full. Else prove '..UptoSaid'. A law counts once. -/
mutual
def uptoBulk {H : Type} : DataW H → Nat
  | .lit (.string bytes) => bytes.length + 1
  | .lit _ => 1
  | .nil => 1
  | .ptr d => uptoBulk d + 1
  | .slice elems spare => uptoBulkAll elems + uptoBulkAll spare + 1
  | .agg parts => uptoBulkAll parts + 1
  | .iface _ d => uptoBulk d + 1
  | .map entries => uptoBulkEntries entries + 1
  | .held _ => 1
def uptoBulkAll {H : Type} : List (DataW H) → Nat
  | [] => 0
  | d :: r => uptoBulk d + uptoBulkAll r
def uptoBulkEntries {H : Type} : List (Lit × DataW H) → Nat
  | [] => 0
  | x :: r => uptoBulkEntry x + uptoBulkEntries r
def uptoBulkEntry {H : Type} : Lit × DataW H → Nat
  | (.string bytes, d) => bytes.length + uptoBulk d + 1
  | (_, d) => uptoBulk d + 1
 end
def uptoSmall : (H : Type) → List (DataW H) → Bool := fun _ ds => decide (uptoBulkAll ds ≤ 1048576)
def OpenSpec.upto (s : _root_.Go.ChangeSpec) : _root_.Go.OpenSpec := { _root_.Go.OpenSpec.ofChange s with cond := some uptoSmall }

/-- 'midstreamlaw01.WrapBins', WHERE WHAT IT READS IS OF BULK AT MOST 1048576: true; the input reads as it did. -/
def wrapBinsUptoRow : OpenClaim := { program := "ytpbjlnlkegefjaadoor", sum := "c9740ff9bfe0c0abfb938b3c61593dcb94f23103b53d52791c6f0edd4ccf570d", func := "midstream/midstreamlaw01.WrapBins", spec := "wrapBins", named := ["internal/strconv.uint64pow10", "math/bits.deBruijn32tab", "math/bits.deBruijn64tab"], apart := false, laid := [("math/bits.deBruijn32tab", laid_math_bits_deBruijn32tab), ("math/bits.deBruijn64tab", laid_math_bits_deBruijn64tab), ("internal/strconv.uint64pow10", laid_internal_strconv_uint64pow10)], narrowed := true }
def WrapBinsUptoSaid : Prop := wrapBinsUptoRow.holds Tryd.pinned (OpenSpec.upto wrapBinsSpec)

/-- 'midstreamlaw01.WrapUns', WHERE WHAT IT READS IS OF BULK AT MOST 1048576: true; the input reads as it did. -/
def wrapUnsUptoRow : OpenClaim := { program := "ytpbjlnlkegefjaadoor", sum := "c9740ff9bfe0c0abfb938b3c61593dcb94f23103b53d52791c6f0edd4ccf570d", func := "midstream/midstreamlaw01.WrapUns", spec := "wrapUns", named := ["internal/strconv.uint64pow10", "math/bits.deBruijn32tab", "math/bits.deBruijn64tab"], apart := false, laid := [("math/bits.deBruijn32tab", laid_math_bits_deBruijn32tab), ("math/bits.deBruijn64tab", laid_math_bits_deBruijn64tab), ("internal/strconv.uint64pow10", laid_internal_strconv_uint64pow10)], narrowed := true }
def WrapUnsUptoSaid : Prop := wrapUnsUptoRow.holds Tryd.pinned (OpenSpec.upto wrapUnsSpec)

/-- 'midstreamlaw01.WrapTexts', WHERE WHAT IT READS IS OF BULK AT MOST 1048576: true; the input reads as it did. -/
def wrapTextsUptoRow : OpenClaim := { program := "ytpbjlnlkegefjaadoor", sum := "c9740ff9bfe0c0abfb938b3c61593dcb94f23103b53d52791c6f0edd4ccf570d", func := "midstream/midstreamlaw01.WrapTexts", spec := "wrapTexts", named := ["internal/strconv.uint64pow10", "math/bits.deBruijn32tab", "math/bits.deBruijn64tab", "strconv.ErrSyntax", "strconv.ErrRange"], apart := false, laid := [("math/bits.deBruijn32tab", laid_math_bits_deBruijn32tab), ("math/bits.deBruijn64tab", laid_math_bits_deBruijn64tab), ("internal/strconv.uint64pow10", laid_internal_strconv_uint64pow10), ("strconv.ErrRange", laid_strconv_ErrRange), ("strconv.ErrSyntax", laid_strconv_ErrSyntax)], narrowed := true }
def WrapTextsUptoSaid : Prop := wrapTextsUptoRow.holds Tryd.pinned (OpenSpec.upto wrapTextsSpec)

/-- 'midstreamlaw01.WrapRing', WHERE WHAT IT READS IS OF BULK AT MOST 1048576: true; the input reads as it did. -/
def wrapRingUptoRow : OpenClaim := { program := "ytpbjlnlkegefjaadoor", sum := "c9740ff9bfe0c0abfb938b3c61593dcb94f23103b53d52791c6f0edd4ccf570d", func := "midstream/midstreamlaw01.WrapRing", spec := "wrapRing", named := ["internal/strconv.uint64pow10", "math/bits.deBruijn32tab", "math/bits.deBruijn64tab"], apart := false, laid := [("math/bits.deBruijn32tab", laid_math_bits_deBruijn32tab), ("math/bits.deBruijn64tab", laid_math_bits_deBruijn64tab), ("internal/strconv.uint64pow10", laid_internal_strconv_uint64pow10)], narrowed := true }
def WrapRingUptoSaid : Prop := wrapRingUptoRow.holds Tryd.pinned (OpenSpec.upto wrapRingSpec)

/-- 'midstreamlaw01.WrapParts', WHERE WHAT IT READS IS OF BULK AT MOST 1048576: true; the input reads as it did. -/
def wrapPartsUptoRow : OpenClaim := { program := "ytpbjlnlkegefjaadoor", sum := "c9740ff9bfe0c0abfb938b3c61593dcb94f23103b53d52791c6f0edd4ccf570d", func := "midstream/midstreamlaw01.WrapParts", spec := "wrapParts", named := ["internal/strconv.uint64pow10", "math/bits.deBruijn32tab", "math/bits.deBruijn64tab"], apart := false, laid := [("math/bits.deBruijn32tab", laid_math_bits_deBruijn32tab), ("math/bits.deBruijn64tab", laid_math_bits_deBruijn64tab), ("internal/strconv.uint64pow10", laid_internal_strconv_uint64pow10)], narrowed := true }
def WrapPartsUptoSaid : Prop := wrapPartsUptoRow.holds Tryd.pinned (OpenSpec.upto wrapPartsSpec)

/-- 'midstreamlaw01.WrapShifts', WHERE WHAT IT READS IS OF BULK AT MOST 1048576: true; the input reads as it did. -/
def wrapShiftsUptoRow : OpenClaim := { program := "ytpbjlnlkegefjaadoor", sum := "c9740ff9bfe0c0abfb938b3c61593dcb94f23103b53d52791c6f0edd4ccf570d", func := "midstream/midstreamlaw01.WrapShifts", spec := "wrapShifts", named := ["internal/strconv.uint64pow10", "math/bits.deBruijn32tab", "math/bits.deBruijn64tab"], apart := false, laid := [("math/bits.deBruijn32tab", laid_math_bits_deBruijn32tab), ("math/bits.deBruijn64tab", laid_math_bits_deBruijn64tab), ("internal/strconv.uint64pow10", laid_internal_strconv_uint64pow10)], narrowed := true }
def WrapShiftsUptoSaid : Prop := wrapShiftsUptoRow.holds Tryd.pinned (OpenSpec.upto wrapShiftsSpec)

/-- 'midstreamlaw01.WrapOrders', WHERE WHAT IT READS IS OF BULK AT MOST 1048576: true; the input reads as it did. -/
def wrapOrdersUptoRow : OpenClaim := { program := "ytpbjlnlkegefjaadoor", sum := "c9740ff9bfe0c0abfb938b3c61593dcb94f23103b53d52791c6f0edd4ccf570d", func := "midstream/midstreamlaw01.WrapOrders", spec := "wrapOrders", named := ["internal/strconv.uint64pow10", "math/bits.deBruijn32tab", "math/bits.deBruijn64tab"], apart := false, laid := [("math/bits.deBruijn32tab", laid_math_bits_deBruijn32tab), ("math/bits.deBruijn64tab", laid_math_bits_deBruijn64tab), ("internal/strconv.uint64pow10", laid_internal_strconv_uint64pow10)], narrowed := true }
def WrapOrdersUptoSaid : Prop := wrapOrdersUptoRow.holds Tryd.pinned (OpenSpec.upto wrapOrdersSpec)

/-- 'midstreamlaw01.WrapBits', WHERE WHAT IT READS IS OF BULK AT MOST 1048576: true; the input reads as it did. -/
def wrapBitsUptoRow : OpenClaim := { program := "ytpbjlnlkegefjaadoor", sum := "c9740ff9bfe0c0abfb938b3c61593dcb94f23103b53d52791c6f0edd4ccf570d", func := "midstream/midstreamlaw01.WrapBits", spec := "wrapBits", named := ["internal/strconv.uint64pow10", "math/bits.deBruijn32tab", "math/bits.deBruijn64tab"], apart := false, laid := [("math/bits.deBruijn32tab", laid_math_bits_deBruijn32tab), ("math/bits.deBruijn64tab", laid_math_bits_deBruijn64tab), ("internal/strconv.uint64pow10", laid_internal_strconv_uint64pow10)], narrowed := true }
def WrapBitsUptoSaid : Prop := wrapBitsUptoRow.holds Tryd.pinned (OpenSpec.upto wrapBitsSpec)

end Rows
end Go.Proofs.YtpbjlnlkegefjaaDoor
