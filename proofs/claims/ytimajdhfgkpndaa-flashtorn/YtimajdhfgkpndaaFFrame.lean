/-
  How an argument that is an array of two words reads: lemmas for the rows' own step.
-/
import Derived.Test.YtimajdhfgkpndaaOFrame
import Derived.Lib.LaidTab
namespace Go.Proofs.Ytimajdhfgkpndaa
open Go.ChangeShapes Go.WideShapes Go.ChangeAt Go.RowKit
theorem cU32 : Try.prog.cellsOf 28 = 1 := by kernel_rfl
/-- An array of integers, as an argument reads. -/
theorem arr_open {H : Type} {enc : TypeId × Value → H} {P : Program} {w : World} {base : Nat} {sp : Nat → Bool} {held : Bool} {fuel : Nat} {t e : TypeId} {n : Nat} {k : IntKind} {cs : List Value} {d : DataW H} {p : List MemPlace}
    (ht : P.underlying t = some (.array n e)) (he : P.underlying e = some (.int k)) (hce : P.cellsOf e = 1) (hct : P.cellsOf t = n) (hl : cs.length = n)
    (h : DataW.trod enc P w base sp held fuel t cs = some (d, p)) : ∃ zs : List Int, zs.length = n ∧ cs = zs.map (Value.int k) ∧ ∀ z ∈ zs, (Lit.int k z).wf = true := by
  cases fuel with
  | zero => simp [DataW.trod] at h
  | succ fuel =>
    simp only [DataW.trod, ht, hce, hct, Nat.mul_one] at h
    rw [if_pos hl] at h
    obtain ⟨xs, hm, -⟩ := Option.map_eq_some_iff.1 h
    have hget : ∀ i, i < n → ∃ z, cs[i]? = some (.int k z) ∧ (Lit.int k z).wf = true := fun i hi => by
      obtain ⟨b, hb, hf⟩ := Lib.mapM_at hm i i (by simp [hi])
      obtain ⟨z, hc, -, hw⟩ := DataW.trod_int he hf
      have := congrArg (·[0]?) hc
      exact ⟨z, by simpa [List.getElem?_take, List.getElem?_drop] using this, hw⟩
    refine ⟨cs.map intOf, by rw [List.length_map]; exact hl, ?_, ?_⟩
    · apply List.ext_getElem?
      intro i
      by_cases hi : i < n
      · obtain ⟨z, hz, -⟩ := hget i hi
        simp [hz, intOf]
      · rw [List.getElem?_eq_none (by omega), List.getElem?_eq_none (by simp; omega)]
    · intro z hz
      obtain ⟨v, hv, rfl⟩ := List.mem_map.1 hz
      obtain ⟨i, hi, rfl⟩ := List.getElem_of_mem hv
      obtain ⟨z, hz, hw⟩ := hget i (by omega)
      rw [List.getElem?_eq_getElem hi] at hz
      rw [Option.some.inj hz]
      exact hw
theorem open_2w {H : Type} {enc : TypeId × Value → H} {W : World} {base : Nat} {v : Value} {d : DataW H} {p : List MemPlace} (hv : Value.okWide Try.prog W .any base 47 v)
    (h : DataW.Trod enc Try.prog W 0 (fun _ => true) true 47 v d p) : ∃ s : List UInt32, v = .agg (cs32 s).toArray ∧ s.length = 2 := by
  unfold Value.okWide at hv
  rw [Try.underlying47] at hv
  obtain ⟨cs, rfl, hsz, -⟩ := hv
  obtain ⟨fuel, hf⟩ := h
  have hc8 : Try.prog.cellsOf 47 = 2 := by kernel_rfl
  rw [hc8] at hsz
  obtain ⟨zs, hzl, hcs, hwz⟩ := arr_open Try.underlying47 Try.underlying28 cU32 hc8 (show cs.toList.length = 2 by simpa using hsz) hf
  refine ⟨zs.map fun z => word z.toNat, ?_, by simpa using hzl⟩
  rw [nums32 zs hwz, ← hcs]
end Go.Proofs.Ytimajdhfgkpndaa
