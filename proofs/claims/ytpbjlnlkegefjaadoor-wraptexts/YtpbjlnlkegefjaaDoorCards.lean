/-
  DERIVED. GIVEN WITH THE SEED: THE CARDS: each row of YtpbjlnlkegefjaaDoorRows.lean that lists a variable, with what it lists TIED to the program's text (the seventh form; the later family's looks); each row that meets fmt, with fmt's text TOLD by the authors' own Lean function (tested against real Go, not proved from fmt's source: count such statements apart). THE CARD IS WHAT COUNTS. Prove the row's statement (the work); the ties are given (YtpbjlnlkegefjaaDoorTie.lean); close each card by the builder's one call (the guide's Derived/Test/ToyasCard.lean, 'card_holds'). Laid BY PROGRAM, IN A SANDBOX (cutbox-door.mjs). By AI agents, Wed Nov 11 2026. No macro, syntax, notation, axiom, sorry.
-/
import Derived.Test.YtpbjlnlkegefjaaDoorRows
import GoSem.ClaimSeven
namespace Go.Proofs.YtpbjlnlkegefjaaDoor
namespace Rows

/-- THE TIED CARD OF 'midstreamlaw01.WrapBins'. -/
def wrapBinsCard : Claim7 := { stood := { row := wrapBinsRow, standIns := [], harness := (true, "852cf70ddd5f00f16898a18b0511405beae619b12702fcd521e778a869151461"), looks := true }, kinds := [], alts := [], laidByText := true, laidKinds := [.data, .data, .data], laidTests := true, laidLooks := .later }
def WrapBinsCardSaid : Prop := Claim7.holds Tryd.pinned (.plain (OpenSpec.ofChange wrapBinsSpec)) wrapBinsCard

/-- THE TIED CARD OF 'midstreamlaw01.WrapUns'. -/
def wrapUnsCard : Claim7 := { stood := { row := wrapUnsRow, standIns := [], harness := (true, "852cf70ddd5f00f16898a18b0511405beae619b12702fcd521e778a869151461"), looks := true }, kinds := [], alts := [], laidByText := true, laidKinds := [.data, .data, .data], laidTests := true, laidLooks := .later }
def WrapUnsCardSaid : Prop := Claim7.holds Tryd.pinned (.plain (OpenSpec.ofChange wrapUnsSpec)) wrapUnsCard

/-- THE TIED CARD OF 'midstreamlaw01.WrapTexts'. -/
def wrapTextsCard : Claim7 := { stood := { row := wrapTextsRow, standIns := [], harness := (true, "852cf70ddd5f00f16898a18b0511405beae619b12702fcd521e778a869151461"), looks := true }, kinds := [], alts := [], laidByText := true, laidKinds := [.data, .data, .data, .sentinel, .sentinel], laidTests := true, laidLooks := .later }
def WrapTextsCardSaid : Prop := Claim7.holds Tryd.pinned (.plain (OpenSpec.ofChange wrapTextsSpec)) wrapTextsCard

/-- THE TIED CARD OF 'midstreamlaw01.WrapRing'. -/
def wrapRingCard : Claim7 := { stood := { row := wrapRingRow, standIns := [], harness := (true, "852cf70ddd5f00f16898a18b0511405beae619b12702fcd521e778a869151461"), looks := true }, kinds := [], alts := [], laidByText := true, laidKinds := [.data, .data, .data], laidTests := true, laidLooks := .later }
def WrapRingCardSaid : Prop := Claim7.holds Tryd.pinned (.plain (OpenSpec.ofChange wrapRingSpec)) wrapRingCard

/-- THE TIED CARD OF 'midstreamlaw01.WrapParts'. -/
def wrapPartsCard : Claim7 := { stood := { row := wrapPartsRow, standIns := [], harness := (true, "852cf70ddd5f00f16898a18b0511405beae619b12702fcd521e778a869151461"), looks := true }, kinds := [], alts := [], laidByText := true, laidKinds := [.data, .data, .data], laidTests := true, laidLooks := .later }
def WrapPartsCardSaid : Prop := Claim7.holds Tryd.pinned (.plain (OpenSpec.ofChange wrapPartsSpec)) wrapPartsCard

/-- THE TIED CARD OF 'midstreamlaw01.WrapShifts'. -/
def wrapShiftsCard : Claim7 := { stood := { row := wrapShiftsRow, standIns := [], harness := (true, "852cf70ddd5f00f16898a18b0511405beae619b12702fcd521e778a869151461"), looks := true }, kinds := [], alts := [], laidByText := true, laidKinds := [.data, .data, .data], laidTests := true, laidLooks := .later }
def WrapShiftsCardSaid : Prop := Claim7.holds Tryd.pinned (.plain (OpenSpec.ofChange wrapShiftsSpec)) wrapShiftsCard

/-- THE TIED CARD OF 'midstreamlaw01.WrapOrders'. -/
def wrapOrdersCard : Claim7 := { stood := { row := wrapOrdersRow, standIns := [], harness := (true, "852cf70ddd5f00f16898a18b0511405beae619b12702fcd521e778a869151461"), looks := true }, kinds := [], alts := [], laidByText := true, laidKinds := [.data, .data, .data], laidTests := true, laidLooks := .later }
def WrapOrdersCardSaid : Prop := Claim7.holds Tryd.pinned (.plain (OpenSpec.ofChange wrapOrdersSpec)) wrapOrdersCard

/-- THE TIED CARD OF 'midstreamlaw01.WrapBits'. -/
def wrapBitsCard : Claim7 := { stood := { row := wrapBitsRow, standIns := [], harness := (true, "852cf70ddd5f00f16898a18b0511405beae619b12702fcd521e778a869151461"), looks := true }, kinds := [], alts := [], laidByText := true, laidKinds := [.data, .data, .data], laidTests := true, laidLooks := .later }
def WrapBitsCardSaid : Prop := Claim7.holds Tryd.pinned (.plain (OpenSpec.ofChange wrapBitsSpec)) wrapBitsCard

/-- THE SECOND FORM's CARD OF 'midstreamlaw01.WrapBins'. -/
def wrapBinsUptoCard : Claim7 := { stood := { row := wrapBinsUptoRow, standIns := [], harness := (true, "852cf70ddd5f00f16898a18b0511405beae619b12702fcd521e778a869151461"), looks := true }, kinds := [], alts := [], laidByText := true, laidKinds := [.data, .data, .data], laidTests := true, laidLooks := .later }
def WrapBinsUptoCardSaid : Prop := Claim7.holds Tryd.pinned (.plain (OpenSpec.upto wrapBinsSpec)) wrapBinsUptoCard

/-- THE SECOND FORM's CARD OF 'midstreamlaw01.WrapUns'. -/
def wrapUnsUptoCard : Claim7 := { stood := { row := wrapUnsUptoRow, standIns := [], harness := (true, "852cf70ddd5f00f16898a18b0511405beae619b12702fcd521e778a869151461"), looks := true }, kinds := [], alts := [], laidByText := true, laidKinds := [.data, .data, .data], laidTests := true, laidLooks := .later }
def WrapUnsUptoCardSaid : Prop := Claim7.holds Tryd.pinned (.plain (OpenSpec.upto wrapUnsSpec)) wrapUnsUptoCard

/-- THE SECOND FORM's CARD OF 'midstreamlaw01.WrapTexts'. -/
def wrapTextsUptoCard : Claim7 := { stood := { row := wrapTextsUptoRow, standIns := [], harness := (true, "852cf70ddd5f00f16898a18b0511405beae619b12702fcd521e778a869151461"), looks := true }, kinds := [], alts := [], laidByText := true, laidKinds := [.data, .data, .data, .sentinel, .sentinel], laidTests := true, laidLooks := .later }
def WrapTextsUptoCardSaid : Prop := Claim7.holds Tryd.pinned (.plain (OpenSpec.upto wrapTextsSpec)) wrapTextsUptoCard

/-- THE SECOND FORM's CARD OF 'midstreamlaw01.WrapRing'. -/
def wrapRingUptoCard : Claim7 := { stood := { row := wrapRingUptoRow, standIns := [], harness := (true, "852cf70ddd5f00f16898a18b0511405beae619b12702fcd521e778a869151461"), looks := true }, kinds := [], alts := [], laidByText := true, laidKinds := [.data, .data, .data], laidTests := true, laidLooks := .later }
def WrapRingUptoCardSaid : Prop := Claim7.holds Tryd.pinned (.plain (OpenSpec.upto wrapRingSpec)) wrapRingUptoCard

/-- THE SECOND FORM's CARD OF 'midstreamlaw01.WrapParts'. -/
def wrapPartsUptoCard : Claim7 := { stood := { row := wrapPartsUptoRow, standIns := [], harness := (true, "852cf70ddd5f00f16898a18b0511405beae619b12702fcd521e778a869151461"), looks := true }, kinds := [], alts := [], laidByText := true, laidKinds := [.data, .data, .data], laidTests := true, laidLooks := .later }
def WrapPartsUptoCardSaid : Prop := Claim7.holds Tryd.pinned (.plain (OpenSpec.upto wrapPartsSpec)) wrapPartsUptoCard

/-- THE SECOND FORM's CARD OF 'midstreamlaw01.WrapShifts'. -/
def wrapShiftsUptoCard : Claim7 := { stood := { row := wrapShiftsUptoRow, standIns := [], harness := (true, "852cf70ddd5f00f16898a18b0511405beae619b12702fcd521e778a869151461"), looks := true }, kinds := [], alts := [], laidByText := true, laidKinds := [.data, .data, .data], laidTests := true, laidLooks := .later }
def WrapShiftsUptoCardSaid : Prop := Claim7.holds Tryd.pinned (.plain (OpenSpec.upto wrapShiftsSpec)) wrapShiftsUptoCard

/-- THE SECOND FORM's CARD OF 'midstreamlaw01.WrapOrders'. -/
def wrapOrdersUptoCard : Claim7 := { stood := { row := wrapOrdersUptoRow, standIns := [], harness := (true, "852cf70ddd5f00f16898a18b0511405beae619b12702fcd521e778a869151461"), looks := true }, kinds := [], alts := [], laidByText := true, laidKinds := [.data, .data, .data], laidTests := true, laidLooks := .later }
def WrapOrdersUptoCardSaid : Prop := Claim7.holds Tryd.pinned (.plain (OpenSpec.upto wrapOrdersSpec)) wrapOrdersUptoCard

/-- THE SECOND FORM's CARD OF 'midstreamlaw01.WrapBits'. -/
def wrapBitsUptoCard : Claim7 := { stood := { row := wrapBitsUptoRow, standIns := [], harness := (true, "852cf70ddd5f00f16898a18b0511405beae619b12702fcd521e778a869151461"), looks := true }, kinds := [], alts := [], laidByText := true, laidKinds := [.data, .data, .data], laidTests := true, laidLooks := .later }
def WrapBitsUptoCardSaid : Prop := Claim7.holds Tryd.pinned (.plain (OpenSpec.upto wrapBitsSpec)) wrapBitsUptoCard
end Rows
end Go.Proofs.YtpbjlnlkegefjaaDoor
