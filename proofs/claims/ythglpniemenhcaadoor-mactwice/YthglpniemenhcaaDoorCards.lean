/-
  DERIVED. GIVEN WITH THE SEED: THE CARDS: each row of YthglpniemenhcaaDoorRows.lean that lists a variable, with what it lists TIED to the program's text (the seventh form; the later family's looks); each row that meets fmt, with fmt's text TOLD by the authors' own Lean function (tested against real Go, not proved from fmt's source: count such statements apart). THE CARD IS WHAT COUNTS. Prove the row's statement (the work); the ties are given (YthglpniemenhcaaDoorTie.lean); close each card by the builder's one call (the guide's Derived/Test/ToyasCard.lean, 'card_holds'). Laid BY PROGRAM, IN A SANDBOX (cutbox-door.mjs). By AI agents, Wed Nov 11 2026. No macro, syntax, notation, axiom, sorry.
-/
import Derived.Test.YthglpniemenhcaaDoorRows
import GoSem.ClaimSeven
namespace Go.Proofs.YthglpniemenhcaaDoor
namespace Rows

/-- THE TIED CARD OF 'midstreamlaw05.MacTags'. -/
def macTagsCard : Claim7 := { stood := { row := macTagsRow, standIns := [], harness := (true, "1333ff534f60dfa408dbd1dbf5a515bf7667c95d53913c71778eb1f17df14cfe"), looks := false }, kinds := [], alts := [], laidByText := true, laidKinds := [.data], laidTests := true, laidLooks := .later }
def MacTagsCardSaid : Prop := Claim7.holds Tryd.pinned (.plain (OpenSpec.ofChange macTagsSpec)) macTagsCard

/-- THE TIED CARD OF 'midstreamlaw05.MacSeals'. -/
def macSealsCard : Claim7 := { stood := { row := macSealsRow, standIns := [], harness := (true, "1333ff534f60dfa408dbd1dbf5a515bf7667c95d53913c71778eb1f17df14cfe"), looks := false }, kinds := [], alts := [], laidByText := true, laidKinds := [.data], laidTests := true, laidLooks := .later }
def MacSealsCardSaid : Prop := Claim7.holds Tryd.pinned (.plain (OpenSpec.ofChange macSealsSpec)) macSealsCard

/-- THE TIED CARD OF 'midstreamlaw05.MacBack'. -/
def macBackCard : Claim7 := { stood := { row := macBackRow, standIns := [], harness := (true, "1333ff534f60dfa408dbd1dbf5a515bf7667c95d53913c71778eb1f17df14cfe"), looks := false }, kinds := [], alts := [], laidByText := true, laidKinds := [.data], laidTests := true, laidLooks := .later }
def MacBackCardSaid : Prop := Claim7.holds Tryd.pinned (.plain (OpenSpec.ofChange macBackSpec)) macBackCard

/-- THE TIED CARD OF 'midstreamlaw05.MacOnly'. -/
def macOnlyCard : Claim7 := { stood := { row := macOnlyRow, standIns := [], harness := (true, "1333ff534f60dfa408dbd1dbf5a515bf7667c95d53913c71778eb1f17df14cfe"), looks := false }, kinds := [], alts := [], laidByText := true, laidKinds := [.data], laidTests := true, laidLooks := .later }
def MacOnlyCardSaid : Prop := Claim7.holds Tryd.pinned (.plain (OpenSpec.ofChange macOnlySpec)) macOnlyCard

/-- THE TIED CARD OF 'midstreamlaw05.MacKeys'. -/
def macKeysCard : Claim7 := { stood := { row := macKeysRow, standIns := [], harness := (true, "1333ff534f60dfa408dbd1dbf5a515bf7667c95d53913c71778eb1f17df14cfe"), looks := false }, kinds := [], alts := [], laidByText := true, laidKinds := [.data], laidTests := true, laidLooks := .later }
def MacKeysCardSaid : Prop := Claim7.holds Tryd.pinned (.plain (OpenSpec.ofChange macKeysSpec)) macKeysCard

/-- THE TIED CARD OF 'midstreamlaw05.MacTwice'. -/
def macTwiceCard : Claim7 := { stood := { row := macTwiceRow, standIns := [], harness := (true, "1333ff534f60dfa408dbd1dbf5a515bf7667c95d53913c71778eb1f17df14cfe"), looks := false }, kinds := [], alts := [], laidByText := true, laidKinds := [.data], laidTests := true, laidLooks := .later }
def MacTwiceCardSaid : Prop := Claim7.holds Tryd.pinned (.plain (OpenSpec.ofChange macTwiceSpec)) macTwiceCard

/-- THE SECOND FORM's CARD OF 'midstreamlaw05.MacTags'. -/
def macTagsUptoCard : Claim7 := { stood := { row := macTagsUptoRow, standIns := [], harness := (true, "1333ff534f60dfa408dbd1dbf5a515bf7667c95d53913c71778eb1f17df14cfe"), looks := false }, kinds := [], alts := [], laidByText := true, laidKinds := [.data], laidTests := true, laidLooks := .later }
def MacTagsUptoCardSaid : Prop := Claim7.holds Tryd.pinned (.plain (OpenSpec.upto macTagsSpec)) macTagsUptoCard

/-- THE SECOND FORM's CARD OF 'midstreamlaw05.MacSeals'. -/
def macSealsUptoCard : Claim7 := { stood := { row := macSealsUptoRow, standIns := [], harness := (true, "1333ff534f60dfa408dbd1dbf5a515bf7667c95d53913c71778eb1f17df14cfe"), looks := false }, kinds := [], alts := [], laidByText := true, laidKinds := [.data], laidTests := true, laidLooks := .later }
def MacSealsUptoCardSaid : Prop := Claim7.holds Tryd.pinned (.plain (OpenSpec.upto macSealsSpec)) macSealsUptoCard

/-- THE SECOND FORM's CARD OF 'midstreamlaw05.MacBack'. -/
def macBackUptoCard : Claim7 := { stood := { row := macBackUptoRow, standIns := [], harness := (true, "1333ff534f60dfa408dbd1dbf5a515bf7667c95d53913c71778eb1f17df14cfe"), looks := false }, kinds := [], alts := [], laidByText := true, laidKinds := [.data], laidTests := true, laidLooks := .later }
def MacBackUptoCardSaid : Prop := Claim7.holds Tryd.pinned (.plain (OpenSpec.upto macBackSpec)) macBackUptoCard

/-- THE SECOND FORM's CARD OF 'midstreamlaw05.MacOnly'. -/
def macOnlyUptoCard : Claim7 := { stood := { row := macOnlyUptoRow, standIns := [], harness := (true, "1333ff534f60dfa408dbd1dbf5a515bf7667c95d53913c71778eb1f17df14cfe"), looks := false }, kinds := [], alts := [], laidByText := true, laidKinds := [.data], laidTests := true, laidLooks := .later }
def MacOnlyUptoCardSaid : Prop := Claim7.holds Tryd.pinned (.plain (OpenSpec.upto macOnlySpec)) macOnlyUptoCard

/-- THE SECOND FORM's CARD OF 'midstreamlaw05.MacKeys'. -/
def macKeysUptoCard : Claim7 := { stood := { row := macKeysUptoRow, standIns := [], harness := (true, "1333ff534f60dfa408dbd1dbf5a515bf7667c95d53913c71778eb1f17df14cfe"), looks := false }, kinds := [], alts := [], laidByText := true, laidKinds := [.data], laidTests := true, laidLooks := .later }
def MacKeysUptoCardSaid : Prop := Claim7.holds Tryd.pinned (.plain (OpenSpec.upto macKeysSpec)) macKeysUptoCard

/-- THE SECOND FORM's CARD OF 'midstreamlaw05.MacTwice'. -/
def macTwiceUptoCard : Claim7 := { stood := { row := macTwiceUptoRow, standIns := [], harness := (true, "1333ff534f60dfa408dbd1dbf5a515bf7667c95d53913c71778eb1f17df14cfe"), looks := false }, kinds := [], alts := [], laidByText := true, laidKinds := [.data], laidTests := true, laidLooks := .later }
def MacTwiceUptoCardSaid : Prop := Claim7.holds Tryd.pinned (.plain (OpenSpec.upto macTwiceSpec)) macTwiceUptoCard
end Rows
end Go.Proofs.YthglpniemenhcaaDoor
