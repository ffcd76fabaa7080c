/-
  How an argument that is a slice of Op reads: a lemma for the row's own step.
-/
import Derived.Test.YtimajdhfgkpndaaFFrame2
namespace Go.Proofs.Ytimajdhfgkpndaa
open Go.ChangeShapes Go.WideShapes Go.ChangeAt Go.RowKit
theorem open_ops {H : Type} {enc : TypeId × Value → H} {W : World} {a : Option Addr} {len cap : Nat} {d : DataW H} {p : List MemPlace}
    (h : DataW.Trod enc Try.prog W 0 (fun _ => true) true 22 (.slice a len cap) d p) : ∃ os : List (Int × Int × UInt32), Ops W a len cap os := by
  obtain ⟨fuel, hf⟩ := h
  rcases Go.Deep.open_slice Try.underlying22 hf with ⟨hcs, _⟩ | ⟨x, l, c, m, n, D, Pl, hcs, _, hl, hm, hmm, _, hx⟩
  · simp [Value.cells] at hcs
    obtain ⟨rfl, rfl, rfl⟩ := hcs
    exact ⟨[], rfl, Nat.le_refl _, by simp [maxLen], by intro j o h; simp at h, by intro o h; simp at h⟩
  · simp [Value.cells] at hcs
    obtain ⟨rfl, rfl, rfl⟩ := hcs
    have each : ∀ i, i < len → ∃ o : Int × Int × UInt32, opOk o ∧ ∃ b f, x = ⟨b, f, none⟩ ∧ b < W.heap.size ∧ ∀ j u, (opC o)[j]? = some u → W.cell? ⟨b, f + i * 3 + j, none⟩ = some u := by
      intro i hi
      obtain ⟨cs, h1, h2⟩ := hx i (by rw [hmm]; split <;> omega)
      rw [cOp] at h1
      obtain ⟨_, hlen, hcell⟩ := World.cells?_some h1
      obtain ⟨o, rfl, hok⟩ := op_cells h2
      obtain ⟨b, f, sp⟩ := x
      obtain ⟨cs0, g1, g2⟩ := hx 0 (by rw [hmm]; split <;> omega)
      rw [cOp] at g1
      obtain ⟨_, _, gcell⟩ := World.cells?_some g1
      obtain ⟨o0, rfl, _⟩ := op_cells g2
      have h0 : W.cell? ⟨b, f, sp⟩ = some (.int .i64 o0.1) := by
        have := gcell 0 (by omega)
        simpa [Addr.add, opC] using this
      obtain rfl : sp = none := by simpa using World.cell?_spot h0
      refine ⟨o, hok, b, f, rfl, ?_, fun j u hu => ?_⟩
      · exact World.block_lt_of_cell? W _ h0
      · have hj : j < (opC o).length := (List.getElem?_eq_some_iff.1 hu).1
        have h3 := hcell j (by rw [← hlen]; exact hj)
        rw [Addr.add_lit, Addr.add_lit] at h3
        rw [h3]
        first | exact hu | simpa using hu
    refine ⟨(List.range len).map fun i => if h : i < len then Classical.choose (each i h) else (0, 0, 0), by simp, hl, hm, fun j o ho => ?_, fun o ho => ?_⟩
    · rw [List.getElem?_map] at ho
      by_cases hj : j < len
      · rw [List.getElem?_range hj] at ho
        simp [hj] at ho
        subst ho
        obtain ⟨b, f, rfl, hb, hc⟩ := (Classical.choose_spec (each j hj)).2
        exact ⟨b, f, rfl, hb, hc⟩
      · rw [List.getElem?_eq_none (by simpa using hj)] at ho
        cases ho
    · obtain ⟨i, hi, rfl⟩ := List.mem_map.1 ho
      have hi' := List.mem_range.1 hi
      simp only [hi', dif_pos]
      exact (Classical.choose_spec (each i hi')).1
end Go.Proofs.Ytimajdhfgkpndaa
