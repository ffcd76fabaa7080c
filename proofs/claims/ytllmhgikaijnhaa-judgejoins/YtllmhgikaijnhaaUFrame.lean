/-
  How an argument that is a frame, or a slice of truths, reads: lemmas for the rows' own step.
-/
import Derived.Test.YtllmhgikaijnhaaIFrame
import Derived.Test.YtllmhgikaijnhaaULent
import Derived.Deep.Grids
namespace Go.Proofs.Ytllmhgikaijnhaa
open Go.ChangeShapes Go.WideShapes Go.ChangeAt Go.RowKit
theorem cFrm : Try.prog.cellsOf 24 = 5 := by kernel_rfl
theorem cBool : Try.prog.cellsOf 4 = 1 := by kernel_rfl
theorem open_frame {H : Type} {enc : TypeId × Value → H} {W : World} {base : Nat} {v : Value} {d : DataW H} {p : List MemPlace} (hv : Value.okWide Try.prog W .any base 24 v)
    (h : DataW.Trod enc Try.prog W 0 (fun _ => true) true 24 v d p) : ∃ f : Fr, v = .agg #[.int .i64 f.s, .int .i64 f.o, .int .i64 f.n, .int .i64 f.i, .int .i64 f.u] ∧ True := by
  obtain ⟨cs, rfl, _⟩ := okWide_struct Try.underlying24 hv
  obtain ⟨fuel, hf⟩ := h
  obtain ⟨xs, n, _, _, hl, hlen, hf⟩ := DataW.trod_struct Try.underlying24 hf
  obtain ⟨cs⟩ := cs
  have hl' : cs.length = 5 := by rw [cFrm] at hl; simpa [Value.cells] using hl
  match cs, hl', xs, hlen with
  | [a, b, c, d, e], _, [y0, y1, y2, y3, y4], _ =>
    obtain ⟨n0, e0, _, _⟩ := DataW.trod_int Try.underlying3 (hf 0 _ rfl)
    obtain ⟨n1, e1, _, _⟩ := DataW.trod_int Try.underlying3 (hf 1 _ rfl)
    obtain ⟨n2, e2, _, _⟩ := DataW.trod_int Try.underlying3 (hf 2 _ rfl)
    obtain ⟨n3, e3, _, _⟩ := DataW.trod_int Try.underlying3 (hf 3 _ rfl)
    obtain ⟨n4, e4, _, _⟩ := DataW.trod_int Try.underlying3 (hf 4 _ rfl)
    simp [cInt, Value.cells] at e0 e1 e2 e3 e4
    exact ⟨⟨n0, n1, n2, n3, n4⟩, by rw [e0, e1, e2, e3, e4], trivial⟩
/-- The slice value holds truths, and lies below the world's end. -/
def RowT (w : World) (A : Option Addr) (n c : Nat) (ls : List Bool) : Prop := Row w w.heap.size A n c (ls.map Value.bool)
theorem open_truths {H : Type} {enc : TypeId × Value → H} {W : World} {a : Option Addr} {len cap : Nat} {d : DataW H} {p : List MemPlace}
    (h : DataW.Trod enc Try.prog W 0 (fun _ => true) true 38 (.slice a len cap) d p) : ∃ l : List Bool, RowT W a len cap l := by
  obtain ⟨fuel, hf⟩ := h
  rcases Go.Deep.open_bools Try.underlying38 Try.underlying4 cBool hf with ⟨hcs, _⟩ | ⟨x, l, c, B, hcs, _, hl, hm, _, hcell⟩
  · simp [Value.cells] at hcs
    obtain ⟨rfl, rfl, rfl⟩ := hcs
    exact ⟨[], Row.none_⟩
  · simp [Value.cells] at hcs
    obtain ⟨rfl, rfl, rfl⟩ := hcs
    refine ⟨(List.range len).map B, by simp, hl, hm, (fun h => by cases h), fun hn => ?_⟩
    obtain ⟨b, o, sp⟩ := x
    have h0 := hcell 0 (by omega)
    obtain rfl : sp = none := by simpa [Addr.add] using World.cell?_spot h0
    refine ⟨b, o, rfl, ?_, fun j u hu => ?_⟩
    · have := World.block_lt_of_cell? W _ h0
      simpa [Addr.add] using this
    · have hj : j < len := by
        have := (List.getElem?_eq_some_iff.1 hu).1
        simpa using this
      have h1 := hcell j (by omega)
      rw [Addr.add_lit] at h1
      rw [h1]
      simp [hj] at hu
      rw [← hu]
end Go.Proofs.Ytllmhgikaijnhaa
