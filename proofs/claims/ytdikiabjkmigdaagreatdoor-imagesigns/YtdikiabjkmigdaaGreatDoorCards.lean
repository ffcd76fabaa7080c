/-
  DERIVED. GIVEN WITH THE SEED: THE CARDS: each row of YtdikiabjkmigdaaGreatDoorRows.lean that lists a variable, with what it lists TIED to the program's text (the seventh form; the later family's looks); each row that meets fmt, with fmt's text TOLD by the authors' own Lean function (tested against real Go, not proved from fmt's source: count such statements apart). THE CARD IS WHAT COUNTS. Prove the row's statement (the work); the ties are given (YtdikiabjkmigdaaGreatDoorTie.lean); close each card by the builder's one call (the guide's Derived/Test/ToyasCard.lean, 'card_holds'). Laid BY PROGRAM, IN A SANDBOX (cutbox-door.mjs). By AI agents, Wed Nov 11 2026. No macro, syntax, notation, axiom, sorry.
-/
import Derived.Test.YtdikiabjkmigdaaGreatDoorRows
import GoSem.ClaimSeven
namespace Go.Proofs.YtdikiabjkmigdaaGreatDoor
namespace Rows

/-- THE TIED CARD OF 'midstreamlaw11.ImageSigns'. -/
def imageSignsCard : Claim7 := { stood := { row := imageSignsRow, standIns := [], harness := (true, "748bb1dc580dcedb1e08f8fb9d592502478d8fc6605f44fcd0fbf3af04e48754"), looks := false }, kinds := [], alts := [], laidByText := true, laidKinds := [.data], laidTests := true, laidLooks := .later }
def ImageSignsCardSaid : Prop := Claim7.holds Tryz.pinned (.plain (OpenSpec.ofChange imageSignsSpec)) imageSignsCard

/-- THE SECOND FORM's CARD OF 'midstreamlaw11.ImageSigns'. -/
def imageSignsUptoCard : Claim7 := { stood := { row := imageSignsUptoRow, standIns := [], harness := (true, "748bb1dc580dcedb1e08f8fb9d592502478d8fc6605f44fcd0fbf3af04e48754"), looks := false }, kinds := [], alts := [], laidByText := true, laidKinds := [.data], laidTests := true, laidLooks := .later }
def ImageSignsUptoCardSaid : Prop := Claim7.holds Tryz.pinned (.plain (OpenSpec.upto imageSignsSpec)) imageSignsUptoCard
end Rows
end Go.Proofs.YtdikiabjkmigdaaGreatDoor
