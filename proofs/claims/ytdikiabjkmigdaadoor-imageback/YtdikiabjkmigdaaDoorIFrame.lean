/-
  How an argument that is an instruction, or a code, reads; bytes with the form's own reach: lemmas for the rows' own step.
-/
import Derived.Test.YtdikiabjkmigdaaDoorOFrame
import Derived.Test.YtdikiabjkmigdaaDoorIMem
import Derived.Deep.Slices
import Derived.SizedLaws
namespace Go.Proofs.YtdikiabjkmigdaaDoor
open Go.ChangeShapes Go.WideShapes Go.ChangeAt Go.RowKit
set_option maxRecDepth 20000
theorem cIns : Tryd.prog.cellsOf 67 = 2 := by kernel_rfl
theorem cInt : Tryd.prog.cellsOf 3 = 1 := by kernel_rfl
theorem cI32 : Tryd.prog.cellsOf 21 = 1 := by kernel_rfl
theorem wf_i32 {a : Int} (h : (Lit.int .i32 a).wf = true) : -2147483648 ≤ a ∧ a ≤ 2147483647 := by
  simpa [Lit.wf, IntKind.min, IntKind.max, IntKind.signed, IntKind.bits] using h
theorem ins_cells {H : Type} {enc : TypeId × Value → H} {W : World} {base : Nat} {sp : Nat → Bool} {held : Bool} {fuel : Nat} {cs : List Value} {x : DataW H × List MemPlace}
    (h : DataW.trod enc Tryd.prog W base sp held fuel 67 cs = some x) : ∃ o : Int × Int, cs = [.int .i64 o.1, .int .i32 o.2] ∧ okI o := by
  obtain ⟨xs, n, _, _, hl, hlen, hf⟩ := DataW.trod_struct Tryd.underlying67 h
  rw [cIns] at hl
  match cs, hl, xs, hlen with
  | [a, b], _, [y0, y1], _ =>
    have h0 := hf 0 _ rfl
    have h1 := hf 1 _ rfl
    obtain ⟨n0, e0, _, _⟩ := DataW.trod_int Tryd.underlying3 h0
    obtain ⟨n1, e1, _, w1⟩ := DataW.trod_int Tryd.underlying21 h1
    simp [cInt] at e0
    simp [cI32] at e1
    exact ⟨(n0, n1), by rw [e0, e1], wf_i32 w1⟩
theorem open_ins {H : Type} {enc : TypeId × Value → H} {W : World} {base : Nat} {v : Value} {d : DataW H} {p : List MemPlace} (hv : Value.okWide Tryd.prog W .any base 67 v)
    (h : DataW.Trod enc Tryd.prog W 0 (fun _ => true) true 67 v d p) : ∃ o : Int × Int, v = .agg #[.int .i64 o.1, .int .i32 o.2] ∧ okI o := by
  obtain ⟨cs, rfl, _⟩ := okWide_struct Tryd.underlying67 hv
  obtain ⟨fuel, hf⟩ := h
  obtain ⟨o, ho, hk⟩ := ins_cells hf
  exact ⟨o, by rw [← ho]; rfl, hk⟩
theorem csI_get {l : List (Int × Int)} {j : Nat} {u : Value} (h : (csI l)[j]? = some u) : ∃ i, ∃ hi : i < l.length, (j = i * 2 ∧ u = .int .i64 l[i].1) ∨ (j = i * 2 + 1 ∧ u = .int .i32 l[i].2) := by
  have hj : j < l.length * 2 := by have := (List.getElem?_eq_some_iff.1 h).1; rwa [csI_len] at this
  have hi : j / 2 < l.length := by omega
  obtain ⟨h0, h1⟩ := csI_at hi
  refine ⟨j / 2, hi, ?_⟩
  by_cases hz : j % 2 = 0
  · left
    have e : j / 2 * 2 = j := by omega
    rw [e, h] at h0
    exact ⟨e.symm, Option.some.inj h0⟩
  · right
    have e : j / 2 * 2 + 1 = j := by omega
    rw [e, h] at h1
    exact ⟨e.symm, Option.some.inj h1⟩
theorem open_code {H : Type} {enc : TypeId × Value → H} {W : World} {a : Option Addr} {len cap : Nat} {d : DataW H} {p : List MemPlace}
    (h : DataW.Trod enc Tryd.prog W 0 (fun _ => true) true 26 (.slice a len cap) d p) : ∃ l : List (Int × Int), RowI W W.heap.size a len cap l := by
  obtain ⟨fuel, hf⟩ := h
  rcases Go.Deep.open_slice Tryd.underlying26 hf with ⟨hcs, _⟩ | ⟨x, l, c, m, n, D, Pl, hcs, _, hl, hm, hmm, _, hx⟩
  · simp [Value.cells] at hcs
    obtain ⟨rfl, rfl, rfl⟩ := hcs
    exact ⟨[], RowI.none_⟩
  · simp [Value.cells] at hcs
    obtain ⟨rfl, rfl, rfl⟩ := hcs
    have each : ∀ i, i < len → ∃ o : Int × Int, okI o ∧ ∃ b f, x = ⟨b, f, none⟩ ∧ b < W.heap.size ∧ W.cell? ⟨b, f + i * 2, none⟩ = some (.int .i64 o.1) ∧ W.cell? ⟨b, f + i * 2 + 1, none⟩ = some (.int .i32 o.2) := by
      intro i hi
      obtain ⟨cs, h1, h2⟩ := hx i (by rw [hmm]; split <;> omega)
      rw [cIns] at h1
      obtain ⟨_, hlen, hcell⟩ := World.cells?_some h1
      obtain ⟨o, rfl, hok⟩ := ins_cells h2
      obtain ⟨b, f, sp⟩ := x
      obtain ⟨cs0, g1, g2⟩ := hx 0 (by rw [hmm]; split <;> omega)
      rw [cIns] at g1
      obtain ⟨_, _, gcell⟩ := World.cells?_some g1
      obtain ⟨o0, rfl, _⟩ := ins_cells g2
      have h0 : W.cell? ⟨b, f, sp⟩ = some (.int .i64 o0.1) := by
        have := gcell 0 (by omega)
        simpa [Addr.add] using this
      obtain rfl : sp = none := by simpa using World.cell?_spot h0
      have k0 := hcell 0 (by omega)
      have k1 := hcell 1 (by omega)
      rw [Addr.add_lit, Addr.add_lit] at k0 k1
      exact ⟨o, hok, b, f, rfl, World.block_lt_of_cell? W _ h0, by simpa using k0, by simpa using k1⟩
    refine ⟨(List.range len).map fun i => if h : i < len then Classical.choose (each i h) else (0, 0), by simp, hl, hm, (fun h => by cases h), fun hn => ?_, fun o ho => ?_⟩
    · obtain ⟨_, b, f, rfl, hb, _⟩ := Classical.choose_spec (each 0 hn)
      refine ⟨b, f, rfl, hb, fun j u hu => ?_⟩
      obtain ⟨i, hi, hor⟩ := csI_get hu
      have hil : i < len := by simpa using hi
      obtain ⟨_, b', f', e, _, c0, c1⟩ := Classical.choose_spec (each i hil)
      obtain ⟨rfl, rfl⟩ : b = b' ∧ f = f' := by simpa using e
      rcases hor with ⟨rfl, rfl⟩ | ⟨rfl, rfl⟩
      · rw [c0]; simp [hil]
      · rw [← Nat.add_assoc, c1]; simp [hil]
    · obtain ⟨i, hi, rfl⟩ := List.mem_map.1 ho
      have hi' := List.mem_range.1 hi
      simp only [hi', dif_pos]
      exact (Classical.choose_spec (each i hi')).1
theorem bytes8 : Tryd.prog.bytesOf 5 = 1 := by kernel_rfl
theorem row_open8s {H : Type} {enc : TypeId × Value → H} {W : World} {a : Option Addr} {len cap : Nat} {d : DataW H} {p : List MemPlace} {ts : List TypeId} {ds : List (DataW H)}
    (h : DataW.Trod enc Tryd.prog W 0 (fun _ => true) true 29 (.slice a len cap) d p) (hsz : (DataW.weightsEach Tryd.prog ts ds).all (· ≤ reachBytes) = true) {j : Nat} (ht : ts[j]? = some 29) (hd : ds[j]? = some d) :
    ∃ l : List UInt8, Row W W.heap.size a len cap (cs8 l) ∧ len ≤ 140737488351232 := by
  obtain ⟨fuel, hf⟩ := h
  rcases open_ints Tryd.underlying29 Tryd.underlying5 (by kernel_rfl) hf with ⟨hcs, _⟩ | ⟨x, l, c, zs, hcs, _, hl, hm, hz, hdd, hcell, hwz⟩
  · simp [Value.cells] at hcs
    obtain ⟨rfl, rfl, rfl⟩ := hcs
    exact ⟨[], Row.none_, by omega⟩
  · simp [Value.cells] at hcs
    obtain ⟨rfl, rfl, rfl⟩ := hcs
    refine ⟨(zs.take len).map fun z => byt z.toNat, row_nums hl hm (by simpa using hz) hcell (nums8 _ fun n hn => hwz n (List.mem_of_mem_take hn)), ?_⟩
    obtain rfl := congrArg Prod.fst hdd
    have := sized_slice hsz ht hd Tryd.underlying29
    rw [bytes8] at this
    simp only [lits, List.length_map, List.length_take, List.length_drop, reachBytes] at this
    have hz' : zs.length = cap := by simpa using hz
    omega
end Go.Proofs.YtdikiabjkmigdaaDoor
