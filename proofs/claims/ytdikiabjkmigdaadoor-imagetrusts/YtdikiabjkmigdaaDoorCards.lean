/-
  DERIVED. GIVEN WITH THE SEED: THE CARDS: each row of YtdikiabjkmigdaaDoorRows.lean that lists a variable, with what it lists TIED to the program's text (the seventh form; the later family's looks); each row that meets fmt, with fmt's text TOLD by the authors' own Lean function (tested against real Go, not proved from fmt's source: count such statements apart). THE CARD IS WHAT COUNTS. Prove the row's statement (the work); the ties are given (YtdikiabjkmigdaaDoorTie.lean); close each card by the builder's one call (the guide's Derived/Test/ToyasCard.lean, 'card_holds'). Laid BY PROGRAM, IN A SANDBOX (cutbox-door.mjs). By AI agents, Wed Nov 11 2026. No macro, syntax, notation, axiom, sorry.
-/
import Derived.Test.YtdikiabjkmigdaaDoorRows
import GoSem.ClaimSeven
namespace Go.Proofs.YtdikiabjkmigdaaDoor
namespace Rows

/-- THE TIED CARD OF 'midstreamlaw11.ImageBack'. -/
def imageBackCard : Claim7 := { stood := { row := imageBackRow, standIns := [], harness := (true, "6c647811393d428ea87f7081d395f4de35f40e67a2dd4c503e4c0aaf654cb586"), looks := false }, kinds := [], alts := [], laidByText := true, laidKinds := [.data], laidTests := true, laidLooks := .later }
def ImageBackCardSaid : Prop := Claim7.holds Tryd.pinned (.plain (OpenSpec.ofChange imageBackSpec)) imageBackCard

/-- THE TIED CARD OF 'midstreamlaw11.ImageTrusts'. -/
def imageTrustsCard : Claim7 := { stood := { row := imageTrustsRow, standIns := [], harness := (true, "6c647811393d428ea87f7081d395f4de35f40e67a2dd4c503e4c0aaf654cb586"), looks := false }, kinds := [], alts := [], laidByText := true, laidKinds := [.data], laidTests := true, laidLooks := .later }
def ImageTrustsCardSaid : Prop := Claim7.holds Tryd.pinned (.plain (OpenSpec.ofChange imageTrustsSpec)) imageTrustsCard

/-- THE SECOND FORM's CARD OF 'midstreamlaw11.ImageBack'. -/
def imageBackUptoCard : Claim7 := { stood := { row := imageBackUptoRow, standIns := [], harness := (true, "6c647811393d428ea87f7081d395f4de35f40e67a2dd4c503e4c0aaf654cb586"), looks := false }, kinds := [], alts := [], laidByText := true, laidKinds := [.data], laidTests := true, laidLooks := .later }
def ImageBackUptoCardSaid : Prop := Claim7.holds Tryd.pinned (.plain (OpenSpec.upto imageBackSpec)) imageBackUptoCard

/-- THE SECOND FORM's CARD OF 'midstreamlaw11.ImageTrusts'. -/
def imageTrustsUptoCard : Claim7 := { stood := { row := imageTrustsUptoRow, standIns := [], harness := (true, "6c647811393d428ea87f7081d395f4de35f40e67a2dd4c503e4c0aaf654cb586"), looks := false }, kinds := [], alts := [], laidByText := true, laidKinds := [.data], laidTests := true, laidLooks := .later }
def ImageTrustsUptoCardSaid : Prop := Claim7.holds Tryd.pinned (.plain (OpenSpec.upto imageTrustsSpec)) imageTrustsUptoCard
end Rows
end Go.Proofs.YtdikiabjkmigdaaDoor
