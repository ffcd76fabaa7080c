/-
  What all cards of this seat share: the world that the program's own initialisers leave meets the rows' list of tables and errors; and what the list gives the walks.
-/
import Derived.Test.YtbcgofmhplgfbaaDoorRows
import Derived.Test.YtbcgofmhplgfbaaDoorWRead
import Derived.LaidMore
import Derived.OpenShut
import Derived.ShutString
import Derived.ChangeOld
import Derived.Stop.Joined
import Derived.Stop.LaidErr
namespace Go.Proofs.YtbcgofmhplgfbaaDoor
open Go.ChangeShapes Go.WideShapes Go.ChangeAt Go.RowKit
set_option maxRecDepth 100000

theorem own : ownKnob Tryd.prog.godebug = none := by kernel_rfl
theorem laidOut : laidOutB Tryd.prog = true := by kernel_rfl
/-- The three tables and the two errors, as the rows list them. -/
def laid5 : List (String × DataW Unit) := Rows.lexWordsRow.laid
theorem doorShaped (os : Os) (args : Array Value) : ((World.doorLaid Tryd.prog 62 os).forCall (fun _ _ => 0) ⟨#[], args, []⟩).Shaped Tryd.prog := World.shaped_of_RefB (by kernel_rfl) (by kernel_rfl)
theorem doorMet5 (os : Os) (args : Array Value) : laidMetH Tryd.prog laid5 ((World.doorLaid Tryd.prog 62 os).forCall (fun _ _ => 0) ⟨#[], args, []⟩).memory :=
  laidMetH_of_parts3 (fuel := 8) (laidMet_of_run' 8 (by kernel_rfl) (by kernel_rfl)) (by kernel_rfl) (by kernel_rfl)

theorem gPow : Tryd.prog.globalNamed "internal/strconv.uint64pow10" = some 2 := by kernel_rfl
theorem tPow : (Tryd.prog.globals[2]?).map (·.type) = some 87 := by kernel_rfl
theorem cPow : Tryd.prog.cellsOf 87 = 20 := by kernel_rfl
theorem cU64 : Tryd.prog.cellsOf 65 = 1 := by kernel_rfl
theorem powData : (Rows.laid_internal_strconv_uint64pow10 : DataW Unit) = Lib.tabData .u64 Lib.pow10Tab := by kernel_rfl
theorem gES : Tryd.prog.globalNamed "strconv.ErrSyntax" = some 0 := by kernel_rfl
theorem tES : (Tryd.prog.globals[0]?).map (·.type) = some 45 := by kernel_rfl
theorem gER : Tryd.prog.globalNamed "strconv.ErrRange" = some 1 := by kernel_rfl
theorem tER : (Tryd.prog.globals[1]?).map (·.type) = some 45 := by kernel_rfl
theorem cES : Tryd.prog.cellsOf 84 = 1 := by kernel_rfl
theorem cStr : Tryd.prog.cellsOf 9 = 1 := by kernel_rfl
theorem rowES (u : TypeId) (hu : Tryd.prog.typeName? 3 u = some "*errors.errorString") : u = 82 :=
  typeName_ptr_named (nm := "errors.errorString") (by kernel_rfl) (by kernel_rfl) (by decide) u hu
theorem env_of_laid {W : World} (h : laidMetH Tryd.prog laid5 W) : Env W := by
  rw [MakeChecks.laidMetH_plain _ _ _ (by kernel_rfl)] at h
  have h3 := h.tail.tail
  have h4 := h3.tail
  have h5 := h4.tail
  rw [powData] at h3
  obtain ⟨a0, _, v0, -, -, -⟩ := laid_sentinel h4 gER tER Tryd.underlying45 rowES Tryd.underlying82 Tryd.underlying84 rfl rfl Tryd.underlying9 cES cStr
  obtain ⟨a1, _, v1, -, -, -⟩ := laid_sentinel h5 gES tES Tryd.underlying45 rowES Tryd.underlying82 Tryd.underlying84 rfl rfl Tryd.underlying9 cES cStr
  exact ⟨Lib.tabIs_of_head gPow tPow Tryd.underlying87 Tryd.underlying65 cU64 cPow h3, ⟨_, _, v1⟩, ⟨_, _, v0⟩⟩
end Go.Proofs.YtbcgofmhplgfbaaDoor
