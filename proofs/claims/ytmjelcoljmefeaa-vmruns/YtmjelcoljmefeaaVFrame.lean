/-
  How an argument that is a case reads: a code, a frame, three slices of numbers, a number.
-/
import Derived.Test.YtmjelcoljmefeaaIFrame
import Derived.Test.YtmjelcoljmefeaaVHelp
import Derived.Deep.Slices
namespace Go.Proofs.Ytmjelcoljmefeaa
open Go.ChangeShapes Go.WideShapes Go.ChangeAt Go.RowKit
set_option maxRecDepth 20000
theorem cFrm : Try.prog.cellsOf 24 = 5 := by kernel_rfl
theorem cCase : Try.prog.cellsOf 27 = 10 := by kernel_rfl
theorem cSl : Try.prog.cellsOf 25 = 1 := by kernel_rfl
theorem cCo : Try.prog.cellsOf 22 = 1 := by kernel_rfl
section
variable {H : Type} {enc : TypeId × Value → H} {W : World} {fuel : Nat}
theorem frame_cells {cs : List Value} {x : DataW H × List MemPlace} (h : DataW.trod enc Try.prog W 0 (fun _ => true) true fuel 24 cs = some x) : ∃ f : Fr, cs = [.int .i64 f.s, .int .i64 f.o, .int .i64 f.n, .int .i64 f.i, .int .i64 f.u] := by
  obtain ⟨xs, n, _, _, hl, hlen, hf⟩ := DataW.trod_struct Try.underlying24 h
  rw [cFrm] at hl
  match cs, hl, xs, hlen with
  | [a, b, c, d, e], _, [y0, y1, y2, y3, y4], _ =>
    obtain ⟨n0, e0, _, _⟩ := DataW.trod_int Try.underlying3 (hf 0 _ rfl)
    obtain ⟨n1, e1, _, _⟩ := DataW.trod_int Try.underlying3 (hf 1 _ rfl)
    obtain ⟨n2, e2, _, _⟩ := DataW.trod_int Try.underlying3 (hf 2 _ rfl)
    obtain ⟨n3, e3, _, _⟩ := DataW.trod_int Try.underlying3 (hf 3 _ rfl)
    obtain ⟨n4, e4, _, _⟩ := DataW.trod_int Try.underlying3 (hf 4 _ rfl)
    simp [cInt] at e0 e1 e2 e3 e4
    exact ⟨⟨n0, n1, n2, n3, n4⟩, by rw [e0, e1, e2, e3, e4]⟩
theorem ints_cell {b : Value} {x : DataW H × List MemPlace} (h : DataW.trod enc Try.prog W 0 (fun _ => true) true fuel 25 [b] = some x) : ∃ A n c l, b = .slice A n c ∧ Row W W.heap.size A n c (c32 l) ∧ rngL l := by
  rcases open_ints Try.underlying25 Try.underlying21 (by kernel_rfl) h with ⟨hcs, _⟩ | ⟨x, l, c, zs, hcs, _, hl, hm, hz, _, hcell, hwz⟩
  · simp at hcs
    exact ⟨none, 0, 0, [], hcs, Row.none_, rng_nil⟩
  · simp at hcs
    exact ⟨some x, l, c, zs.take l, hcs, row_nums hl hm (by simpa using hz) hcell rfl, fun n hn => wf_i32 (hwz n (List.mem_of_mem_take hn))⟩
theorem code_cell {b : Value} {x : DataW H × List MemPlace} (h : DataW.trod enc Try.prog W 0 (fun _ => true) true fuel 22 [b] = some x) : ∃ A n c l, b = .slice A n c ∧ RowI W W.heap.size A n c l := by
  have hb : ∃ A n c, b = .slice A n c := by
    rcases Go.Deep.open_slice Try.underlying22 h with ⟨hcs, _⟩ | ⟨x, l, c, m, n, D, Pl, hcs, _⟩
    · simp at hcs; exact ⟨_, _, _, hcs⟩
    · simp at hcs; exact ⟨_, _, _, hcs⟩
  obtain ⟨A, n, c, rfl⟩ := hb
  obtain ⟨l, hl⟩ := open_code (W := W) (a := A) (len := n) (cap := c) (d := x.1) (p := x.2) ⟨fuel, by simpa [Value.cells] using h⟩
  exact ⟨A, n, c, l, rfl, hl⟩
theorem open_case {v : Value} {d : DataW H} {p : List MemPlace} {base : Nat} (hv : Value.okWide Try.prog W .any base 27 v)
    (h : DataW.Trod enc Try.prog W 0 (fun _ => true) true 27 v d p) : ∃ K : CD, v = .agg #[.slice K.A K.n K.c, .int .i64 K.f.s, .int .i64 K.f.o, .int .i64 K.f.n, .int .i64 K.f.i, .int .i64 K.f.u, .slice K.oA K.no K.oc, .slice K.fA K.nf K.fc, .slice K.iA K.ni K.ic, .int .i64 K.fu] ∧ ∃ l old first ins, CR W W.heap.size K l old first ins := by
  obtain ⟨cs, rfl, _⟩ := okWide_struct Try.underlying27 hv
  obtain ⟨fuel, hf⟩ := h
  obtain ⟨xs, n, _, _, hl, hlen, hf⟩ := DataW.trod_struct Try.underlying27 hf
  obtain ⟨cs⟩ := cs
  have hl' : cs.length = 10 := by rw [cCase] at hl; simpa [Value.cells] using hl
  match cs, hl', xs, hlen with
  | [k0, k1, k2, k3, k4, k5, k6, k7, k8, k9], _, [y0, y1, y2, y3, y4, y5], _ =>
    have h0 := hf 0 _ rfl
    have h1 := hf 1 _ rfl
    have h2 := hf 2 _ rfl
    have h3 := hf 3 _ rfl
    have h4 := hf 4 _ rfl
    have h5 := hf 5 _ rfl
    simp [cFrm, cSl, cCo, cInt, Value.cells] at h0 h1 h2 h3 h4 h5
    obtain ⟨A, m0, c, l, rfl, r0⟩ := code_cell h0
    obtain ⟨f, e1⟩ := frame_cells h1
    obtain ⟨oA, no, oc, old, rfl, r2, g2⟩ := ints_cell h2
    obtain ⟨fA, nf, fc, first, rfl, r3, g3⟩ := ints_cell h3
    obtain ⟨iA, ni, ic, ins, rfl, r4, g4⟩ := ints_cell h4
    obtain ⟨n5, e5, _, _⟩ := DataW.trod_int Try.underlying3 h5
    simp at e1 e5
    obtain ⟨rfl, rfl, rfl, rfl, rfl⟩ := e1
    subst e5
    exact ⟨⟨A, m0, c, f, oA, no, oc, fA, nf, fc, iA, ni, ic, n5⟩, rfl, l, old, first, ins, r0, r2, r3, r4, g2, g3, g4⟩
end
end Go.Proofs.Ytmjelcoljmefeaa
