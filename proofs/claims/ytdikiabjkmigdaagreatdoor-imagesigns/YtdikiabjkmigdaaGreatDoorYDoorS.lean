/-
  What all cards of this seat share: the world that the program's own initialisers leave meets the rows' list (the table of constants); what the list gives the walks; how an argument that is an array reads.
-/
import Derived.Test.YtdikiabjkmigdaaGreatDoorOFrame
import Derived.Test.YtdikiabjkmigdaaGreatDoorSPkg3
import Derived.Lib.LaidTab
import Derived.LaidMore
import Derived.Stop.Joined
import Derived.Stop.LaidErr
namespace Go.Proofs.YtdikiabjkmigdaaGreatDoor
open Go.ChangeShapes Go.WideShapes Go.ChangeAt Go.RowKit
set_option maxRecDepth 100000

/-- The table, as the rows list it. -/
def laidT1 : List (String × DataW Unit) := Rows.imageSignsRow.laid
theorem doorShaped (os : Os) (args : Array Value) : ((World.doorLaid Tryz.prog 14 os).forCall (fun _ _ => 0) ⟨#[], args, []⟩).Shaped Tryz.prog := World.shaped_of_RefB (by kernel_rfl) (by kernel_rfl)
theorem doorMet1 (os : Os) (args : Array Value) : laidMetH Tryz.prog laidT1 ((World.doorLaid Tryz.prog 14 os).forCall (fun _ _ => 0) ⟨#[], args, []⟩).memory :=
  laidMetH_of_parts3 (fuel := 8) (laidMet_of_run' 8 (by kernel_rfl) (by kernel_rfl)) (by kernel_rfl) (by kernel_rfl)
theorem gK : Tryz.prog.globalNamed "midstream/sha.constants" = some 0 := by kernel_rfl
theorem tK : (Tryz.prog.globals[0]?).map (·.type) = some 135 := by kernel_rfl
theorem cK : Tryz.prog.cellsOf 135 = 64 := by kernel_rfl
theorem cU32 : Tryz.prog.cellsOf 22 = 1 := by kernel_rfl
theorem kData : (Rows.laid_midstream_sha_constants : DataW Unit) = Lib.tabData .u32 (kL.map fun c => (c.toNat : Int)) := by kernel_rfl
theorem kt_of_laid {W : World} (h : laidMetH Tryz.prog laidT1 W) : KT W.heap.size W := by
  rw [MakeChecks.laidMetH_plain _ _ _ (by kernel_rfl)] at h
  have h1 : laidMet Tryz.prog [("midstream/sha.constants", Rows.laid_midstream_sha_constants)] W := h
  rw [kData] at h1
  have h2 := Lib.tabIs_of_head gK tK Tryz.underlying135 Tryz.underlying22 cU32 cK h1
  have h3 : ∀ i : Nat, i < 64 → W.cell? ⟨0, i, none⟩ = some (.int .u32 ((nth kL i).toNat : Int)) := fun i hi => by
    rw [h2.cell gK i (by rw [List.length_map]; exact hi)]
    unfold nth
    simp [List.getD_eq_getElem?_getD, List.getElem?_map, List.getElem?_eq_getElem (show i < kL.length from hi)]
  exact ⟨World.block_lt_of_cell? W _ (h3 0 (by omega)), h3⟩
/-- An array of integers, as an argument reads. -/
theorem arr_open {H : Type} {enc : TypeId × Value → H} {P : Program} {w : World} {base : Nat} {sp : Nat → Bool} {held : Bool} {fuel : Nat} {t e : TypeId} {n : Nat} {k : IntKind} {cs : List Value} {d : DataW H} {p : List MemPlace}
    (ht : P.underlying t = some (.array n e)) (he : P.underlying e = some (.int k)) (hce : P.cellsOf e = 1) (hct : P.cellsOf t = n) (hl : cs.length = n)
    (h : DataW.trod enc P w base sp held fuel t cs = some (d, p)) : ∃ zs : List Int, zs.length = n ∧ cs = zs.map (Value.int k) ∧ ∀ z ∈ zs, (Lit.int k z).wf = true := by
  cases fuel with
  | zero => simp [DataW.trod] at h
  | succ fuel =>
    simp only [DataW.trod, ht, hce, hct, Nat.mul_one] at h
    rw [if_pos hl] at h
    obtain ⟨xs, hm, -⟩ := Option.map_eq_some_iff.1 h
    have hget : ∀ i, i < n → ∃ z, cs[i]? = some (.int k z) ∧ (Lit.int k z).wf = true := fun i hi => by
      obtain ⟨b, hb, hf⟩ := Lib.mapM_at hm i i (by simp [hi])
      obtain ⟨z, hc, -, hw⟩ := DataW.trod_int he hf
      have := congrArg (·[0]?) hc
      exact ⟨z, by simpa [List.getElem?_take, List.getElem?_drop] using this, hw⟩
    refine ⟨cs.map intOf, by rw [List.length_map]; exact hl, ?_, ?_⟩
    · apply List.ext_getElem?
      intro i
      by_cases hi : i < n
      · obtain ⟨z, hz, -⟩ := hget i hi
        simp [hz, intOf]
      · rw [List.getElem?_eq_none (by omega), List.getElem?_eq_none (by simp; omega)]
    · intro z hz
      obtain ⟨v, hv, rfl⟩ := List.mem_map.1 hz
      obtain ⟨i, hi, rfl⟩ := List.getElem_of_mem hv
      obtain ⟨z, hz, hw⟩ := hget i (by omega)
      rw [List.getElem?_eq_getElem hi] at hz
      rw [Option.some.inj hz]
      exact hw
theorem open_8w {H : Type} {enc : TypeId × Value → H} {W : World} {base : Nat} {v : Value} {d : DataW H} {p : List MemPlace} (hv : Value.okWide Tryz.prog W .any base 115 v)
    (h : DataW.Trod enc Tryz.prog W 0 (fun _ => true) true 115 v d p) : ∃ s : List UInt32, v = .agg (cs32 s).toArray ∧ s.length = 8 := by
  unfold Value.okWide at hv
  rw [Tryz.underlying115] at hv
  obtain ⟨cs, rfl, hsz, -⟩ := hv
  obtain ⟨fuel, hf⟩ := h
  have hc8 : Tryz.prog.cellsOf 115 = 8 := by kernel_rfl
  rw [hc8] at hsz
  obtain ⟨zs, hzl, hcs, hwz⟩ := arr_open Tryz.underlying115 Tryz.underlying22 cU32 hc8 (show cs.toList.length = 8 by simpa using hsz) hf
  refine ⟨zs.map fun z => word z.toNat, ?_, by simpa using hzl⟩
  rw [nums32 zs hwz, ← hcs]
theorem open_32b {H : Type} {enc : TypeId × Value → H} {W : World} {base : Nat} {v : Value} {d : DataW H} {p : List MemPlace} (hv : Value.okWide Tryz.prog W .any base 49 v)
    (h : DataW.Trod enc Tryz.prog W 0 (fun _ => true) true 49 v d p) : ∃ s : List UInt8, v = .agg (cs8 s).toArray ∧ s.length = 32 := by
  unfold Value.okWide at hv
  rw [Tryz.underlying49] at hv
  obtain ⟨cs, rfl, hsz, -⟩ := hv
  obtain ⟨fuel, hf⟩ := h
  have hc8 : Tryz.prog.cellsOf 49 = 32 := by kernel_rfl
  rw [hc8] at hsz
  obtain ⟨zs, hzl, hcs, hwz⟩ := arr_open Tryz.underlying49 Tryz.underlying5 (by kernel_rfl) hc8 (show cs.toList.length = 32 by simpa using hsz) hf
  refine ⟨zs.map fun z => byt z.toNat, ?_, by simpa using hzl⟩
  rw [nums8 zs hwz, ← hcs]
end Go.Proofs.YtdikiabjkmigdaaGreatDoor
