/-
  How an argument that is an image reads: eight numbers, a frame's five among them, three slices.
-/
import Derived.Test.YtdikiabjkmigdaaGreatDoorOFrame
import Derived.Test.YtdikiabjkmigdaaGreatDoorIMem
import Derived.Deep.Slices
import Derived.SizedLaws
import Derived.Test.YtdikiabjkmigdaaGreatDoorYg2
namespace Go.Proofs.YtdikiabjkmigdaaGreatDoor
open Go.ChangeShapes Go.WideShapes Go.ChangeAt Go.RowKit
set_option maxRecDepth 20000
theorem cIns : Tryz.prog.cellsOf 56 = 2 := by kernel_rfl
theorem cInt : Tryz.prog.cellsOf 3 = 1 := by kernel_rfl
theorem cI32 : Tryz.prog.cellsOf 21 = 1 := by kernel_rfl
theorem wf_i32 {a : Int} (h : (Lit.int .i32 a).wf = true) : -2147483648 ≤ a ∧ a ≤ 2147483647 := by
  simpa [Lit.wf, IntKind.min, IntKind.max, IntKind.signed, IntKind.bits] using h
theorem ins_cells {H : Type} {enc : TypeId × Value → H} {W : World} {base : Nat} {sp : Nat → Bool} {held : Bool} {fuel : Nat} {cs : List Value} {x : DataW H × List MemPlace}
    (h : DataW.trod enc Tryz.prog W base sp held fuel 56 cs = some x) : ∃ o : Int × Int, cs = [.int .i64 o.1, .int .i32 o.2] ∧ okI o := by
  obtain ⟨xs, n, _, _, hl, hlen, hf⟩ := DataW.trod_struct Tryz.underlying56 h
  rw [cIns] at hl
  match cs, hl, xs, hlen with
  | [a, b], _, [y0, y1], _ =>
    have h0 := hf 0 _ rfl
    have h1 := hf 1 _ rfl
    obtain ⟨n0, e0, _, _⟩ := DataW.trod_int Tryz.underlying3 h0
    obtain ⟨n1, e1, _, w1⟩ := DataW.trod_int Tryz.underlying21 h1
    simp [cInt] at e0
    simp [cI32] at e1
    exact ⟨(n0, n1), by rw [e0, e1], wf_i32 w1⟩
theorem open_ins {H : Type} {enc : TypeId × Value → H} {W : World} {base : Nat} {v : Value} {d : DataW H} {p : List MemPlace} (hv : Value.okWide Tryz.prog W .any base 56 v)
    (h : DataW.Trod enc Tryz.prog W 0 (fun _ => true) true 56 v d p) : ∃ o : Int × Int, v = .agg #[.int .i64 o.1, .int .i32 o.2] ∧ okI o := by
  obtain ⟨cs, rfl, _⟩ := okWide_struct Tryz.underlying56 hv
  obtain ⟨fuel, hf⟩ := h
  obtain ⟨o, ho, hk⟩ := ins_cells hf
  exact ⟨o, by rw [← ho]; rfl, hk⟩
theorem csI_get {l : List (Int × Int)} {j : Nat} {u : Value} (h : (csI l)[j]? = some u) : ∃ i, ∃ hi : i < l.length, (j = i * 2 ∧ u = .int .i64 l[i].1) ∨ (j = i * 2 + 1 ∧ u = .int .i32 l[i].2) := by
  have hj : j < l.length * 2 := by have := (List.getElem?_eq_some_iff.1 h).1; rwa [csI_len] at this
  have hi : j / 2 < l.length := by omega
  obtain ⟨h0, h1⟩ := csI_at hi
  refine ⟨j / 2, hi, ?_⟩
  by_cases hz : j % 2 = 0
  · left
    have e : j / 2 * 2 = j := by omega
    rw [e, h] at h0
    exact ⟨e.symm, Option.some.inj h0⟩
  · right
    have e : j / 2 * 2 + 1 = j := by omega
    rw [e, h] at h1
    exact ⟨e.symm, Option.some.inj h1⟩
theorem open_code {H : Type} {enc : TypeId × Value → H} {W : World} {a : Option Addr} {len cap : Nat} {d : DataW H} {p : List MemPlace}
    (h : DataW.Trod enc Tryz.prog W 0 (fun _ => true) true 26 (.slice a len cap) d p) : ∃ l : List (Int × Int), RowI W W.heap.size a len cap l := by
  obtain ⟨fuel, hf⟩ := h
  rcases Go.Deep.open_slice Tryz.underlying26 hf with ⟨hcs, _⟩ | ⟨x, l, c, m, n, D, Pl, hcs, _, hl, hm, hmm, _, hx⟩
  · simp [Value.cells] at hcs
    obtain ⟨rfl, rfl, rfl⟩ := hcs
    exact ⟨[], RowI.none_⟩
  · simp [Value.cells] at hcs
    obtain ⟨rfl, rfl, rfl⟩ := hcs
    have each : ∀ i, i < len → ∃ o : Int × Int, okI o ∧ ∃ b f, x = ⟨b, f, none⟩ ∧ b < W.heap.size ∧ W.cell? ⟨b, f + i * 2, none⟩ = some (.int .i64 o.1) ∧ W.cell? ⟨b, f + i * 2 + 1, none⟩ = some (.int .i32 o.2) := by
      intro i hi
      obtain ⟨cs, h1, h2⟩ := hx i (by rw [hmm]; split <;> omega)
      rw [cIns] at h1
      obtain ⟨_, hlen, hcell⟩ := World.cells?_some h1
      obtain ⟨o, rfl, hok⟩ := ins_cells h2
      obtain ⟨b, f, sp⟩ := x
      obtain ⟨cs0, g1, g2⟩ := hx 0 (by rw [hmm]; split <;> omega)
      rw [cIns] at g1
      obtain ⟨_, _, gcell⟩ := World.cells?_some g1
      obtain ⟨o0, rfl, _⟩ := ins_cells g2
      have h0 : W.cell? ⟨b, f, sp⟩ = some (.int .i64 o0.1) := by
        have := gcell 0 (by omega)
        simpa [Addr.add] using this
      obtain rfl : sp = none := by simpa using World.cell?_spot h0
      have k0 := hcell 0 (by omega)
      have k1 := hcell 1 (by omega)
      rw [Addr.add_lit, Addr.add_lit] at k0 k1
      exact ⟨o, hok, b, f, rfl, World.block_lt_of_cell? W _ h0, by simpa using k0, by simpa using k1⟩
    refine ⟨(List.range len).map fun i => if h : i < len then Classical.choose (each i h) else (0, 0), by simp, hl, hm, (fun h => by cases h), fun hn => ?_, fun o ho => ?_⟩
    · obtain ⟨_, b, f, rfl, hb, _⟩ := Classical.choose_spec (each 0 hn)
      refine ⟨b, f, rfl, hb, fun j u hu => ?_⟩
      obtain ⟨i, hi, hor⟩ := csI_get hu
      have hil : i < len := by simpa using hi
      obtain ⟨_, b', f', e, _, c0, c1⟩ := Classical.choose_spec (each i hil)
      obtain ⟨rfl, rfl⟩ : b = b' ∧ f = f' := by simpa using e
      rcases hor with ⟨rfl, rfl⟩ | ⟨rfl, rfl⟩
      · rw [c0]; simp [hil]
      · rw [← Nat.add_assoc, c1]; simp [hil]
    · obtain ⟨i, hi, rfl⟩ := List.mem_map.1 ho
      have hi' := List.mem_range.1 hi
      simp only [hi', dif_pos]
      exact (Classical.choose_spec (each i hi')).1
theorem bytes8 : Tryz.prog.bytesOf 5 = 1 := by kernel_rfl
theorem row_open8s {H : Type} {enc : TypeId × Value → H} {W : World} {a : Option Addr} {len cap : Nat} {d : DataW H} {p : List MemPlace} {ts : List TypeId} {ds : List (DataW H)}
    (h : DataW.Trod enc Tryz.prog W 0 (fun _ => true) true 29 (.slice a len cap) d p) (hsz : (DataW.weightsEach Tryz.prog ts ds).all (· ≤ reachBytes) = true) {j : Nat} (ht : ts[j]? = some 29) (hd : ds[j]? = some d) :
    ∃ l : List UInt8, Row W W.heap.size a len cap (cs8 l) ∧ len ≤ 140737488351232 := by
  obtain ⟨fuel, hf⟩ := h
  rcases open_ints Tryz.underlying29 Tryz.underlying5 (by kernel_rfl) hf with ⟨hcs, _⟩ | ⟨x, l, c, zs, hcs, _, hl, hm, hz, hdd, hcell, hwz⟩
  · simp [Value.cells] at hcs
    obtain ⟨rfl, rfl, rfl⟩ := hcs
    exact ⟨[], Row.none_, by omega⟩
  · simp [Value.cells] at hcs
    obtain ⟨rfl, rfl, rfl⟩ := hcs
    refine ⟨(zs.take len).map fun z => byt z.toNat, row_nums hl hm (by simpa using hz) hcell (nums8 _ fun n hn => hwz n (List.mem_of_mem_take hn)), ?_⟩
    obtain rfl := congrArg Prod.fst hdd
    have := sized_slice hsz ht hd Tryz.underlying29
    rw [bytes8] at this
    simp only [lits, List.length_map, List.length_take, List.length_drop, reachBytes] at this
    have hz' : zs.length = cap := by simpa using hz
    omega
end Go.Proofs.YtdikiabjkmigdaaGreatDoor
namespace Go.Proofs.YtdikiabjkmigdaaGreatDoor
open Go.ChangeShapes Go.WideShapes Go.ChangeAt Go.RowKit
set_option maxRecDepth 20000
theorem yFrm : Tryz.prog.cellsOf 24 = 5 := by kernel_rfl
theorem yImg : Tryz.prog.cellsOf 28 = 13 := by kernel_rfl
theorem ySl : Tryz.prog.cellsOf 25 = 1 := by kernel_rfl
theorem yCo : Tryz.prog.cellsOf 26 = 1 := by kernel_rfl
theorem yU : Tryz.prog.cellsOf 22 = 1 := by kernel_rfl
section
variable {H : Type} {enc : TypeId × Value → H} {W : World} {fuel : Nat}
theorem yframe_cells {cs : List Value} {x : DataW H × List MemPlace} (h : DataW.trod enc Tryz.prog W 0 (fun _ => true) true fuel 24 cs = some x) : ∃ f : Fr, cs = [.int .i64 f.s, .int .i64 f.o, .int .i64 f.n, .int .i64 f.i, .int .i64 f.u] := by
  obtain ⟨xs, n, _, _, hl, hlen, hf⟩ := DataW.trod_struct Tryz.underlying24 h
  rw [yFrm] at hl
  match cs, hl, xs, hlen with
  | [a, b, c, d, e], _, [y0, y1, y2, y3, y4], _ =>
    obtain ⟨n0, e0, _, _⟩ := DataW.trod_int Tryz.underlying3 (hf 0 _ rfl)
    obtain ⟨n1, e1, _, _⟩ := DataW.trod_int Tryz.underlying3 (hf 1 _ rfl)
    obtain ⟨n2, e2, _, _⟩ := DataW.trod_int Tryz.underlying3 (hf 2 _ rfl)
    obtain ⟨n3, e3, _, _⟩ := DataW.trod_int Tryz.underlying3 (hf 3 _ rfl)
    obtain ⟨n4, e4, _, _⟩ := DataW.trod_int Tryz.underlying3 (hf 4 _ rfl)
    simp [cInt] at e0 e1 e2 e3 e4
    exact ⟨⟨n0, n1, n2, n3, n4⟩, by rw [e0, e1, e2, e3, e4]⟩
theorem yints_cell {b : Value} {x : DataW H × List MemPlace} (h : DataW.trod enc Tryz.prog W 0 (fun _ => true) true fuel 25 [b] = some x) : ∃ A n c l, b = .slice A n c ∧ Row W W.heap.size A n c (c32 l) ∧ ∀ v ∈ l, ok32 v := by
  rcases open_ints Tryz.underlying25 Tryz.underlying21 (by kernel_rfl) h with ⟨hcs, _⟩ | ⟨x, l, c, zs, hcs, _, hl, hm, hz, _, hcell, hwz⟩
  · simp at hcs
    exact ⟨none, 0, 0, [], hcs, Row.none_, fun v hv => by cases hv⟩
  · simp at hcs
    exact ⟨some x, l, c, zs.take l, hcs, row_nums hl hm (by simpa using hz) hcell rfl, fun n hn => wf_i32 (hwz n (List.mem_of_mem_take hn))⟩
theorem ycode_cell {b : Value} {x : DataW H × List MemPlace} (h : DataW.trod enc Tryz.prog W 0 (fun _ => true) true fuel 26 [b] = some x) : ∃ A n c l, b = .slice A n c ∧ RowI W W.heap.size A n c l := by
  have hb : ∃ A n c, b = .slice A n c := by
    rcases Go.Deep.open_slice Tryz.underlying26 h with ⟨hcs, _⟩ | ⟨x, l, c, m, n, D, Pl, hcs, _⟩
    · simp at hcs; exact ⟨_, _, _, hcs⟩
    · simp at hcs; exact ⟨_, _, _, hcs⟩
  obtain ⟨A, n, c, rfl⟩ := hb
  obtain ⟨l, hl⟩ := open_code (W := W) (a := A) (len := n) (cap := c) (d := x.1) (p := x.2) ⟨fuel, by simpa [Value.cells] using h⟩
  exact ⟨A, n, c, l, rfl, hl⟩
theorem open_image {v : Value} {d : DataW H} {p : List MemPlace} {base : Nat} (hv : Value.okWide Tryz.prog W .any base 28 v)
    (h : DataW.Trod enc Tryz.prog W 0 (fun _ => true) true 28 v d p) : ∃ K : IV, v = .agg #[.int .u32 K.v, .int .u32 K.f, .int .i64 K.e, .int .i64 K.s, .int .i64 K.o, .int .i64 K.n, .int .i64 K.i, .int .i64 K.u, .slice K.fA K.fn K.fc, .slice K.sA K.sn K.sc, .slice K.mA K.mn K.mc, .int .i64 K.x, .int .i64 K.y] ∧ Held W W.heap.size K := by
  obtain ⟨cs, rfl, _⟩ := okWide_struct Tryz.underlying28 hv
  obtain ⟨fuel, hf⟩ := h
  obtain ⟨xs, n, _, _, hl, hlen, hf⟩ := DataW.trod_struct Tryz.underlying28 hf
  obtain ⟨cs⟩ := cs
  have hl' : cs.length = 13 := by rw [yImg] at hl; simpa [Value.cells] using hl
  match cs, hl', xs, hlen with
  | [k0, k1, k2, k3, k4, k5, k6, k7, k8, k9, k10, k11, k12], _, [y0, y1, y2, y3, y4, y5, y6, y7, y8], _ =>
    have h0 := hf 0 _ rfl
    have h1 := hf 1 _ rfl
    have h2 := hf 2 _ rfl
    have h3 := hf 3 _ rfl
    have h4 := hf 4 _ rfl
    have h5 := hf 5 _ rfl
    have h6 := hf 6 _ rfl
    have h7 := hf 7 _ rfl
    have h8 := hf 8 _ rfl
    simp [yFrm, ySl, yCo, yU, cInt, Value.cells] at h0 h1 h2 h3 h4 h5 h6 h7 h8
    obtain ⟨n0, e0, _, w0⟩ := DataW.trod_int Tryz.underlying22 h0
    obtain ⟨n1, e1, _, w1⟩ := DataW.trod_int Tryz.underlying22 h1
    obtain ⟨n2, e2, _, _⟩ := DataW.trod_int Tryz.underlying3 h2
    obtain ⟨f, e3⟩ := yframe_cells h3
    obtain ⟨fA, fn, fc, fs, rfl, r4, g4⟩ := yints_cell h4
    obtain ⟨sA, sn, sc, st, rfl, r5⟩ := ycode_cell h5
    obtain ⟨mA, mn, mc, mv, rfl, r6⟩ := ycode_cell h6
    obtain ⟨n7, e7, _, _⟩ := DataW.trod_int Tryz.underlying3 h7
    obtain ⟨n8, e8, _, _⟩ := DataW.trod_int Tryz.underlying3 h8
    simp at e0 e1 e2 e3 e7 e8
    obtain ⟨rfl, rfl, rfl, rfl, rfl⟩ := e3
    subst e0
    subst e1
    subst e2
    subst e7
    subst e8
    exact ⟨⟨n0, n1, n2, f.s, f.o, f.n, f.i, f.u, n7, n8, fs, st, mv, fA, fn, fc, sA, sn, sc, mA, mn, mc⟩, rfl, r4, r5, r6, ⟨(wf_u32 w0).1, by have := (wf_u32 w0).2; show n0 < 4294967296; omega⟩, ⟨(wf_u32 w1).1, by have := (wf_u32 w1).2; show n1 < 4294967296; omega⟩, g4, r5.oks, r6.oks⟩
end
end Go.Proofs.YtdikiabjkmigdaaGreatDoor
