/-
  What the card of WrapTexts shares: the world that the program's own initialisers leave meets the row's list of tables and errors; and what the list gives the walk.
-/
import Derived.Test.YtpbjlnlkegefjaaDoorWDoor
import Derived.Test.YtpbjlnlkegefjaaDoorWTexts
namespace Go.Proofs.YtpbjlnlkegefjaaDoor
open Go.ChangeShapes Go.WideShapes Go.ChangeAt Go.RowKit
set_option maxRecDepth 100000

/-- The three tables and the two errors, as the row lists them. -/
def laid5 : List (String × DataW Unit) := Rows.wrapTextsRow.laid
theorem doorMet5 (os : Os) (args : Array Value) : laidMetH Tryd.prog laid5 ((World.doorLaid Tryd.prog 62 os).forCall (fun _ _ => 0) ⟨#[], args, []⟩).memory :=
  laidMetH_of_parts3 (fuel := 8) (laidMet_of_run' 8 (by kernel_rfl) (by kernel_rfl)) (by kernel_rfl) (by kernel_rfl)
theorem gES : Tryd.prog.globalNamed "strconv.ErrSyntax" = some 0 := by kernel_rfl
theorem tES : (Tryd.prog.globals[0]?).map (·.type) = some 46 := by kernel_rfl
theorem gER : Tryd.prog.globalNamed "strconv.ErrRange" = some 1 := by kernel_rfl
theorem tER : (Tryd.prog.globals[1]?).map (·.type) = some 46 := by kernel_rfl
theorem cES : Tryd.prog.cellsOf 80 = 1 := by kernel_rfl
theorem cStr : Tryd.prog.cellsOf 9 = 1 := by kernel_rfl
theorem rowES (u : TypeId) (hu : Tryd.prog.typeName? 3 u = some "*errors.errorString") : u = 78 :=
  typeName_ptr_named (nm := "errors.errorString") (by kernel_rfl) (by kernel_rfl) (by decide) u hu
theorem env_of_laid {W : World} (h : laidMetH Tryd.prog laid5 W) : Env W := by
  rw [MakeChecks.laidMetH_plain _ _ _ (by kernel_rfl)] at h
  have h3 := h.tail.tail
  have h4 := h3.tail
  have h5 := h4.tail
  rw [powData] at h3
  obtain ⟨a0, _, v0, -, -, -⟩ := laid_sentinel h4 gER tER Tryd.underlying46 rowES Tryd.underlying78 Tryd.underlying80 rfl rfl Tryd.underlying9 cES cStr
  obtain ⟨a1, _, v1, -, -, -⟩ := laid_sentinel h5 gES tES Tryd.underlying46 rowES Tryd.underlying78 Tryd.underlying80 rfl rfl Tryd.underlying9 cES cStr
  exact ⟨Lib.tabIs_of_head gPow tPow Tryd.underlying73 Tryd.underlying53 cU64 cPow h3, ⟨_, _, v1⟩, ⟨_, _, v0⟩⟩
end Go.Proofs.YtpbjlnlkegefjaaDoor
