/-
  PROVED: for every input ImageSigns returns true, and its arguments read afterwards as they read before; the listed package-level variables are tied to the program's text (card ImageSignsCardSaid).
  CONDITIONS: none beyond the card's own: the listed variables start as the program's text lays them.
-/
import Derived.Test.YtdikiabjkmigdaaGreatDoorOFrame
import Derived.Test.YtdikiabjkmigdaaGreatDoorSPkg3
import Derived.Lib.LaidTab
import Derived.LaidMore
import Derived.Stop.Joined
import Derived.Stop.LaidErr
import Derived.Test.YtdikiabjkmigdaaGreatDoorYg11
import Derived.Test.YtdikiabjkmigdaaGreatDoorYg10
import Derived.Test.YtdikiabjkmigdaaGreatDoorTie
import Derived.Test.YtdikiabjkmigdaaGreatDoorCards
import Derived.SevenTiedAt
namespace Go.Proofs.YtdikiabjkmigdaaGreatDoor
open Go.ChangeShapes Go.WideShapes Go.ChangeAt Go.RowKit
set_option maxRecDepth 100000

/-- The table, as the rows list it. -/
def laidT1 : List (String × DataW Unit) := Rows.imageSignsRow.laid
theorem doorShaped (os : Os) (args : Array Value) : ((World.doorLaid Tryz.prog 14 os).forCall (fun _ _ => 0) ⟨#[], args, []⟩).Shaped Tryz.prog := World.shaped_of_RefB (by kernel_rfl) (by kernel_rfl)
theorem doorMet1 (os : Os) (args : Array Value) : laidMetH Tryz.prog laidT1 ((World.doorLaid Tryz.prog 14 os).forCall (fun _ _ => 0) ⟨#[], args, []⟩).memory :=
  laidMetH_of_parts3 (fuel := 8) (laidMet_of_run' 8 (by kernel_rfl) (by kernel_rfl)) (by kernel_rfl) (by kernel_rfl)
theorem gK : Tryz.prog.globalNamed "midstream/sha.constants" = some 0 := by kernel_rfl
theorem tK : (Tryz.prog.globals[0]?).map (·.type) = some 135 := by kernel_rfl
theorem cK : Tryz.prog.cellsOf 135 = 64 := by kernel_rfl
theorem cU32 : Tryz.prog.cellsOf 22 = 1 := by kernel_rfl
theorem kData : (Rows.laid_midstream_sha_constants : DataW Unit) = Lib.tabData .u32 (kL.map fun c => (c.toNat : Int)) := by kernel_rfl
theorem kt_of_laid {W : World} (h : laidMetH Tryz.prog laidT1 W) : KT W.heap.size W := by
  rw [MakeChecks.laidMetH_plain _ _ _ (by kernel_rfl)] at h
  have h1 : laidMet Tryz.prog [("midstream/sha.constants", Rows.laid_midstream_sha_constants)] W := h
  rw [kData] at h1
  have h2 := Lib.tabIs_of_head gK tK Tryz.underlying135 Tryz.underlying22 cU32 cK h1
  have h3 : ∀ i : Nat, i < 64 → W.cell? ⟨0, i, none⟩ = some (.int .u32 ((nth kL i).toNat : Int)) := fun i hi => by
    rw [h2.cell gK i (by rw [List.length_map]; exact hi)]
    unfold nth
    simp [List.getD_eq_getElem?_getD, List.getElem?_map, List.getElem?_eq_getElem (show i < kL.length from hi)]
  exact ⟨World.block_lt_of_cell? W _ (h3 0 (by omega)), h3⟩
/-- An array of integers, as an argument reads. -/
theorem arr_open {H : Type} {enc : TypeId × Value → H} {P : Program} {w : World} {base : Nat} {sp : Nat → Bool} {held : Bool} {fuel : Nat} {t e : TypeId} {n : Nat} {k : IntKind} {cs : List Value} {d : DataW H} {p : List MemPlace}
    (ht : P.underlying t = some (.array n e)) (he : P.underlying e = some (.int k)) (hce : P.cellsOf e = 1) (hct : P.cellsOf t = n) (hl : cs.length = n)
    (h : DataW.trod enc P w base sp held fuel t cs = some (d, p)) : ∃ zs : List Int, zs.length = n ∧ cs = zs.map (Value.int k) ∧ ∀ z ∈ zs, (Lit.int k z).wf = true := by
  cases fuel with
  | zero => simp [DataW.trod] at h
  | succ fuel =>
    simp only [DataW.trod, ht, hce, hct, Nat.mul_one] at h
    rw [if_pos hl] at h
    obtain ⟨xs, hm, -⟩ := Option.map_eq_some_iff.1 h
    have hget : ∀ i, i < n → ∃ z, cs[i]? = some (.int k z) ∧ (Lit.int k z).wf = true := fun i hi => by
      obtain ⟨b, hb, hf⟩ := Lib.mapM_at hm i i (by simp [hi])
      obtain ⟨z, hc, -, hw⟩ := DataW.trod_int he hf
      have := congrArg (·[0]?) hc
      exact ⟨z, by simpa [List.getElem?_take, List.getElem?_drop] using this, hw⟩
    refine ⟨cs.map intOf, by rw [List.length_map]; exact hl, ?_, ?_⟩
    · apply List.ext_getElem?
      intro i
      by_cases hi : i < n
      · obtain ⟨z, hz, -⟩ := hget i hi
        simp [hz, intOf]
      · rw [List.getElem?_eq_none (by omega), List.getElem?_eq_none (by simp; omega)]
    · intro z hz
      obtain ⟨v, hv, rfl⟩ := List.mem_map.1 hz
      obtain ⟨i, hi, rfl⟩ := List.getElem_of_mem hv
      obtain ⟨z, hz, hw⟩ := hget i (by omega)
      rw [List.getElem?_eq_getElem hi] at hz
      rw [Option.some.inj hz]
      exact hw
theorem open_8w {H : Type} {enc : TypeId × Value → H} {W : World} {base : Nat} {v : Value} {d : DataW H} {p : List MemPlace} (hv : Value.okWide Tryz.prog W .any base 115 v)
    (h : DataW.Trod enc Tryz.prog W 0 (fun _ => true) true 115 v d p) : ∃ s : List UInt32, v = .agg (cs32 s).toArray ∧ s.length = 8 := by
  unfold Value.okWide at hv
  rw [Tryz.underlying115] at hv
  obtain ⟨cs, rfl, hsz, -⟩ := hv
  obtain ⟨fuel, hf⟩ := h
  have hc8 : Tryz.prog.cellsOf 115 = 8 := by kernel_rfl
  rw [hc8] at hsz
  obtain ⟨zs, hzl, hcs, hwz⟩ := arr_open Tryz.underlying115 Tryz.underlying22 cU32 hc8 (show cs.toList.length = 8 by simpa using hsz) hf
  refine ⟨zs.map fun z => word z.toNat, ?_, by simpa using hzl⟩
  rw [nums32 zs hwz, ← hcs]
theorem open_32b {H : Type} {enc : TypeId × Value → H} {W : World} {base : Nat} {v : Value} {d : DataW H} {p : List MemPlace} (hv : Value.okWide Tryz.prog W .any base 49 v)
    (h : DataW.Trod enc Tryz.prog W 0 (fun _ => true) true 49 v d p) : ∃ s : List UInt8, v = .agg (cs8 s).toArray ∧ s.length = 32 := by
  unfold Value.okWide at hv
  rw [Tryz.underlying49] at hv
  obtain ⟨cs, rfl, hsz, -⟩ := hv
  obtain ⟨fuel, hf⟩ := h
  have hc8 : Tryz.prog.cellsOf 49 = 32 := by kernel_rfl
  rw [hc8] at hsz
  obtain ⟨zs, hzl, hcs, hwz⟩ := arr_open Tryz.underlying49 Tryz.underlying5 (by kernel_rfl) hc8 (show cs.toList.length = 32 by simpa using hsz) hf
  refine ⟨zs.map fun z => byt z.toNat, ?_, by simpa using hzl⟩
  rw [nums8 zs hwz, ← hcs]
end Go.Proofs.YtdikiabjkmigdaaGreatDoor
namespace Go.Proofs.YtdikiabjkmigdaaGreatDoor.imageSigns
open Go.ChangeShapes Go.WideShapes Go.ChangeAt Go.RowKit
open Go.ChangeMaps (open_string shut_string)
set_option linter.unusedVariables false
set_option maxRecDepth 100000 in
theorem lifted (os : Os) (started : os.Started) (H : Type) (enc : TypeId × Value → H) :
    ReturnsInHanded {} Tryz.checked os 3 .any (fun w args => (Rows.imageSignsSpec.pre enc Tryz.prog Tryz.f3 [] false w args ∧ laidMetH Tryz.prog laidT1 w) ∧ sizedMet enc Tryz.prog Tryz.f3 (OpenSpec.ofChange Rows.imageSignsSpec) false w args)
      (Rows.imageSignsSpec.post enc Tryz.prog Tryz.f3 false true false false) := by
  refine returnsInHanded_of_change_and (C := Tryz.checked) (X := fun w _ => laidMetH Tryz.prog laidT1 w) (fun _ _ _ hh h => h.of_heap hh) own started (by kernel_rfl) Tryz.func3
    (ChangeSpec.witness_shaped (enc := enc) (C := Tryz.checked) (os := os) (X := fun w _ => laidMetH Tryz.prog laidT1 w) false (World.doorLaid Tryz.prog 14 os) #[.agg #[.int .u32 0, .int .u32 0, .int .i64 0, .int .i64 0, .int .i64 0, .int .i64 0, .int .i64 0, .int .i64 0, .slice none 0 0, .slice none 0 0, .slice none 0 0, .int .i64 0, .int .i64 0], .slice none 0 0, .slice none 0 0] 8 rfl (doorShaped os _) (by kernel_rfl) (by kernel_rfl) (by kernel_rfl) (doorMet1 os _)) ?_
  intro W base args ds gs before hval0 hW _ _ hL _
  have hval : ∀ (j : Nat) t v, Tryz.f3.params[j]? = some t → args[j]? = some v → Value.okWide Tryz.prog W .any base t v := hval0
  have hW' := hW
  obtain ⟨p, q, hA0, hV, rfl, hfz, hnd⟩ := hW
  have hA : DataW.TrodAll enc Tryz.prog W 0 (fun _ => true) true Tryz.f3.params.toList args.toList ds p := hA0
  rw [Tryz.params3] at hA hval
  obtain ⟨v0, vs0, d0, ds0, p0, q0, hargs, rfl, rfl, h0, r0⟩ := trodAll_cons hA
  obtain ⟨v1, vs1, d1, ds1, p1, q1, rfl, rfl, rfl, h1, r1⟩ := trodAll_cons r0
  obtain ⟨v2, vs2, d2, ds2, p2, q2, rfl, rfl, rfl, h2, r2⟩ := trodAll_cons r1
  obtain ⟨rfl, rfl, rfl⟩ := trodAll_nil r2
  obtain rfl : args = #[v0, v1, v2] := by cases args; simp_all
  obtain ⟨rfl, rfl⟩ := trodVars_none hV
  have k0 := h0
  have lt0 : ∀ x ∈ p0, x.block < W.heap.size := by obtain ⟨m, hm⟩ := k0; exact DataW.trod_lt m _ _ _ hm
  obtain ⟨l0, rfl, w0⟩ := open_image (hval 0 28 v0 rfl rfl) h0
  obtain ⟨a1, len1, cap1, rfl⟩ := okWide_slice Tryz.underlying29 (hval 1 29 v1 rfl rfl)
  have k1 := h1
  have lt1 : ∀ x ∈ p1, x.block < W.heap.size := by obtain ⟨m, hm⟩ := k1; exact DataW.trod_lt m _ _ _ hm
  obtain ⟨l1, w1⟩ := row_open8 h1
  obtain ⟨a2, len2, cap2, rfl⟩ := okWide_slice Tryz.underlying29 (hval 2 29 v2 rfl rfl)
  have k2 := h2
  have lt2 : ∀ x ∈ p2, x.block < W.heap.size := by obtain ⟨m, hm⟩ := k2; exact DataW.trod_lt m _ _ _ hm
  obtain ⟨l2, w2⟩ := row_open8 h2
  clear hA0 hval0
  refine (signs_walk l0 a1 len1 cap1 l1 a2 len2 cap2 l2 W w0 w1 w2 (kt_of_laid hL)).mono fun e W' ⟨he, bel⟩ => ?_
  subst he
  exact ⟨_, rfl, _, _, _, [], _, [], hW', trodAll_mk1 (shut_bool Tryz.underlying4 _), (trodAll_cons_mk (Below.trod laidOut (by kernel_rfl) (of_decide_eq_true (by kernel_rfl)) k0 bel lt0) (trodAll_cons_mk (Below.trod laidOut (by kernel_rfl) (of_decide_eq_true (by kernel_rfl)) k1 bel lt1) (trodAll_cons_mk (Below.trod laidOut (by kernel_rfl) (of_decide_eq_true (by kernel_rfl)) k2 bel lt2) trodAll_mk0))), rfl, bel.frame _, fun h => by cases h⟩

theorem over : Rows.ImageSignsSaid :=
  OpenClaim.holds_of_wide 3 Tryz.f3 rfl rfl rfl rfl rfl rfl rfl ⟨rfl, rfl, rfl, rfl, rfl⟩ rfl rfl rfl rfl rfl (by kernel_rfl) Tryz.func3 (by kernel_rfl)
    (of_decide_eq_true (by kernel_rfl)) (by unfold Func.isWrapper; first | (rw [if_pos (by decide +kernel)]; kernel_rfl) | (rw [if_neg (by decide +kernel)]; exact ⟨rfl, rfl⟩))
    (fun os started H enc _ => lifted os started H enc)

theorem card_holds : Rows.ImageSignsCardSaid :=
  Claim7.holds_tied_plain_at .later [] [.data] true Rows.imageSignsCard.stood.harness false
    over (fun _ h => by cases h) (by kernel_rfl) (fun _ h => by cases h) imageSigns_row_tie rfl ⟨rfl, rfl⟩ (by kernel_rfl) rfl
    (fun f fn hf hfn => by
      obtain rfl : f = 3 := Option.some.inj ((show Tryz.prog.funcNamed Rows.imageSignsRow.func = some 3 by kernel_rfl).symm.trans hf) |>.symm
      obtain rfl : fn = Tryz.f3 := (Option.some.inj (Tryz.func3.symm.trans hfn)).symm
      exact ⟨by kernel_rfl, fun j t ht => by
        rw [Tryz.params3] at ht
        have hm : t ∈ [28, 29, 29] := by simpa using Array.mem_of_getElem? ht
        have hall : ([28, 29, 29].all fun u => !Tryz.prog.wantsStandIn u) = true := by kernel_rfl
        exact (show Tryz.prog.wantsStandIn t = false by simpa using List.all_eq_true.1 hall t hm)⟩)
    (by kernel_rfl)
end Go.Proofs.YtdikiabjkmigdaaGreatDoor.imageSigns
namespace Go.Proofs.YtdikiabjkmigdaaGreatDoor
theorem imageSigns_card : Rows.ImageSignsCardSaid := imageSigns.card_holds
#print axioms imageSigns_card
end Go.Proofs.YtdikiabjkmigdaaGreatDoor
