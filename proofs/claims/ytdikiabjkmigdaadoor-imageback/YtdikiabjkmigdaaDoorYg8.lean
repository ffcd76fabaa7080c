/-
  How an argument that is an image reads: eight numbers, a frame's five among them, three slices.
-/
import Derived.Test.YtdikiabjkmigdaaDoorOFrame
import Derived.Test.YtdikiabjkmigdaaDoorIFrame
import Derived.Test.YtdikiabjkmigdaaDoorYg2
import Derived.Deep.Slices
namespace Go.Proofs.YtdikiabjkmigdaaDoor
open Go.ChangeShapes Go.WideShapes Go.ChangeAt Go.RowKit
set_option maxRecDepth 20000
theorem yFrm : Tryd.prog.cellsOf 24 = 5 := by kernel_rfl
theorem yImg : Tryd.prog.cellsOf 28 = 13 := by kernel_rfl
theorem ySl : Tryd.prog.cellsOf 25 = 1 := by kernel_rfl
theorem yCo : Tryd.prog.cellsOf 26 = 1 := by kernel_rfl
theorem yU : Tryd.prog.cellsOf 22 = 1 := by kernel_rfl
section
variable {H : Type} {enc : TypeId × Value → H} {W : World} {fuel : Nat}
theorem yframe_cells {cs : List Value} {x : DataW H × List MemPlace} (h : DataW.trod enc Tryd.prog W 0 (fun _ => true) true fuel 24 cs = some x) : ∃ f : Fr, cs = [.int .i64 f.s, .int .i64 f.o, .int .i64 f.n, .int .i64 f.i, .int .i64 f.u] := by
  obtain ⟨xs, n, _, _, hl, hlen, hf⟩ := DataW.trod_struct Tryd.underlying24 h
  rw [yFrm] at hl
  match cs, hl, xs, hlen with
  | [a, b, c, d, e], _, [y0, y1, y2, y3, y4], _ =>
    obtain ⟨n0, e0, _, _⟩ := DataW.trod_int Tryd.underlying3 (hf 0 _ rfl)
    obtain ⟨n1, e1, _, _⟩ := DataW.trod_int Tryd.underlying3 (hf 1 _ rfl)
    obtain ⟨n2, e2, _, _⟩ := DataW.trod_int Tryd.underlying3 (hf 2 _ rfl)
    obtain ⟨n3, e3, _, _⟩ := DataW.trod_int Tryd.underlying3 (hf 3 _ rfl)
    obtain ⟨n4, e4, _, _⟩ := DataW.trod_int Tryd.underlying3 (hf 4 _ rfl)
    simp [cInt] at e0 e1 e2 e3 e4
    exact ⟨⟨n0, n1, n2, n3, n4⟩, by rw [e0, e1, e2, e3, e4]⟩
theorem yints_cell {b : Value} {x : DataW H × List MemPlace} (h : DataW.trod enc Tryd.prog W 0 (fun _ => true) true fuel 25 [b] = some x) : ∃ A n c l, b = .slice A n c ∧ Row W W.heap.size A n c (c32 l) ∧ ∀ v ∈ l, ok32 v := by
  rcases open_ints Tryd.underlying25 Tryd.underlying21 (by kernel_rfl) h with ⟨hcs, _⟩ | ⟨x, l, c, zs, hcs, _, hl, hm, hz, _, hcell, hwz⟩
  · simp at hcs
    exact ⟨none, 0, 0, [], hcs, Row.none_, fun v hv => by cases hv⟩
  · simp at hcs
    exact ⟨some x, l, c, zs.take l, hcs, row_nums hl hm (by simpa using hz) hcell rfl, fun n hn => wf_i32 (hwz n (List.mem_of_mem_take hn))⟩
theorem ycode_cell {b : Value} {x : DataW H × List MemPlace} (h : DataW.trod enc Tryd.prog W 0 (fun _ => true) true fuel 26 [b] = some x) : ∃ A n c l, b = .slice A n c ∧ RowI W W.heap.size A n c l := by
  have hb : ∃ A n c, b = .slice A n c := by
    rcases Go.Deep.open_slice Tryd.underlying26 h with ⟨hcs, _⟩ | ⟨x, l, c, m, n, D, Pl, hcs, _⟩
    · simp at hcs; exact ⟨_, _, _, hcs⟩
    · simp at hcs; exact ⟨_, _, _, hcs⟩
  obtain ⟨A, n, c, rfl⟩ := hb
  obtain ⟨l, hl⟩ := open_code (W := W) (a := A) (len := n) (cap := c) (d := x.1) (p := x.2) ⟨fuel, by simpa [Value.cells] using h⟩
  exact ⟨A, n, c, l, rfl, hl⟩
theorem open_image {v : Value} {d : DataW H} {p : List MemPlace} {base : Nat} (hv : Value.okWide Tryd.prog W .any base 28 v)
    (h : DataW.Trod enc Tryd.prog W 0 (fun _ => true) true 28 v d p) : ∃ K : IV, v = .agg #[.int .u32 K.v, .int .u32 K.f, .int .i64 K.e, .int .i64 K.s, .int .i64 K.o, .int .i64 K.n, .int .i64 K.i, .int .i64 K.u, .slice K.fA K.fn K.fc, .slice K.sA K.sn K.sc, .slice K.mA K.mn K.mc, .int .i64 K.x, .int .i64 K.y] ∧ Held W W.heap.size K := by
  obtain ⟨cs, rfl, _⟩ := okWide_struct Tryd.underlying28 hv
  obtain ⟨fuel, hf⟩ := h
  obtain ⟨xs, n, _, _, hl, hlen, hf⟩ := DataW.trod_struct Tryd.underlying28 hf
  obtain ⟨cs⟩ := cs
  have hl' : cs.length = 13 := by rw [yImg] at hl; simpa [Value.cells] using hl
  match cs, hl', xs, hlen with
  | [k0, k1, k2, k3, k4, k5, k6, k7, k8, k9, k10, k11, k12], _, [y0, y1, y2, y3, y4, y5, y6, y7, y8], _ =>
    have h0 := hf 0 _ rfl
    have h1 := hf 1 _ rfl
    have h2 := hf 2 _ rfl
    have h3 := hf 3 _ rfl
    have h4 := hf 4 _ rfl
    have h5 := hf 5 _ rfl
    have h6 := hf 6 _ rfl
    have h7 := hf 7 _ rfl
    have h8 := hf 8 _ rfl
    simp [yFrm, ySl, yCo, yU, cInt, Value.cells] at h0 h1 h2 h3 h4 h5 h6 h7 h8
    obtain ⟨n0, e0, _, w0⟩ := DataW.trod_int Tryd.underlying22 h0
    obtain ⟨n1, e1, _, w1⟩ := DataW.trod_int Tryd.underlying22 h1
    obtain ⟨n2, e2, _, _⟩ := DataW.trod_int Tryd.underlying3 h2
    obtain ⟨f, e3⟩ := yframe_cells h3
    obtain ⟨fA, fn, fc, fs, rfl, r4, g4⟩ := yints_cell h4
    obtain ⟨sA, sn, sc, st, rfl, r5⟩ := ycode_cell h5
    obtain ⟨mA, mn, mc, mv, rfl, r6⟩ := ycode_cell h6
    obtain ⟨n7, e7, _, _⟩ := DataW.trod_int Tryd.underlying3 h7
    obtain ⟨n8, e8, _, _⟩ := DataW.trod_int Tryd.underlying3 h8
    simp at e0 e1 e2 e3 e7 e8
    obtain ⟨rfl, rfl, rfl, rfl, rfl⟩ := e3
    subst e0
    subst e1
    subst e2
    subst e7
    subst e8
    exact ⟨⟨n0, n1, n2, f.s, f.o, f.n, f.i, f.u, n7, n8, fs, st, mv, fA, fn, fc, sA, sn, sc, mA, mn, mc⟩, rfl, r4, r5, r6, ⟨(wf_u32 w0).1, by have := (wf_u32 w0).2; show n0 < 4294967296; omega⟩, ⟨(wf_u32 w1).1, by have := (wf_u32 w1).2; show n1 < 4294967296; omega⟩, g4, r5.oks, r6.oks⟩
end
end Go.Proofs.YtdikiabjkmigdaaDoor
