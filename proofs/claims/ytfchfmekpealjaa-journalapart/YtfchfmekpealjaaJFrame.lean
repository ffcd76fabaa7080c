/-
  How an argument that is a slice of the laws' Op reads: a lemma for the rows' own step.
-/
import Derived.Test.YtfchfmekpealjaaOFrame
import Derived.Test.YtfchfmekpealjaaJOps
import Derived.Deep.Slices
namespace Go.Proofs.Ytfchfmekpealjaa
open Go.ChangeShapes Go.WideShapes Go.ChangeAt Go.RowKit
theorem cJo : Try.prog.cellsOf 39 = 4 := by kernel_rfl
theorem cInt : Try.prog.cellsOf 3 = 1 := by kernel_rfl
theorem cWord : Try.prog.cellsOf 37 = 1 := by kernel_rfl
theorem cSl : Try.prog.cellsOf 36 = 1 := by kernel_rfl
theorem wf_i64 {a : Int} (h : (Lit.int .i64 a).wf = true) : -9223372036854775808 ≤ a ∧ a ≤ 9223372036854775807 := by
  simpa [Lit.wf, IntKind.min, IntKind.max, IntKind.signed, IntKind.bits] using h
theorem u32_of {a : Int} (h : (Lit.int .u32 a).wf = true) : ∃ v : UInt32, a = (v.toNat : Int) := by
  have := wf_u32 h
  exact ⟨word a.toNat, by rw [word_toNat]; omega⟩
set_option maxRecDepth 20000 in
theorem jo_cells {H : Type} {enc : TypeId × Value → H} {W : World} {fuel : Nat} {cs : List Value} {x : DataW H × List MemPlace}
    (h : DataW.trod enc Try.prog W 0 (fun _ => true) true fuel 39 cs = some x) : ∃ o : JO, cs = joC o ∧ joOk W o := by
  obtain ⟨xs, n, _, _, hl, hlen, hf⟩ := DataW.trod_struct Try.underlying39 h
  rw [cJo] at hl
  match cs, hl, xs, hlen with
  | [a, b, c, d], _, [y0, y1, y2, y3], _ =>
    have h0 := hf 0 _ rfl
    have h1 := hf 1 _ rfl
    have h2 := hf 2 _ rfl
    have h3 := hf 3 _ rfl
    obtain ⟨n0, e0, _, w0⟩ := DataW.trod_int Try.underlying3 h0
    obtain ⟨n2, e2, _, w2⟩ := DataW.trod_int Try.underlying3 h2
    obtain ⟨n3, e3, _, w3⟩ := DataW.trod_int Try.underlying37 h3
    simp [cInt] at e0 e2
    simp [cWord] at e3
    obtain ⟨v, rfl⟩ := u32_of w3
    have hb : ∃ (A : Option Addr) (k m : Nat) (l : List UInt32), b = .slice A k m ∧ Row W W.heap.size A k m (cs32 l) := by
      rcases open_ints Try.underlying36 Try.underlying37 (by kernel_rfl) h1 with ⟨hcs, _⟩ | ⟨x, l, c, zs, hcs, _, hl, hm, hz, _, hcell, hwz⟩
      · simp [cSl] at hcs
        exact ⟨none, 0, 0, [], hcs, Row.none_⟩
      · simp [cSl] at hcs
        exact ⟨some x, l, c, _, hcs, row_nums hl hm (by simpa using hz) hcell (nums32 _ fun n hn => hwz n (List.mem_of_mem_take hn))⟩
    obtain ⟨A, k, m, l, rfl, hrow⟩ := hb
    exact ⟨⟨n0, A, k, m, l, n2, v⟩, by rw [e0, e2, e3]; rfl, hrow, (wf_i64 w2).2, (wf_i64 w0).1, (wf_i64 w0).2⟩
set_option maxRecDepth 20000 in
theorem open_jops {H : Type} {enc : TypeId × Value → H} {W : World} {a : Option Addr} {len cap : Nat} {d : DataW H} {p : List MemPlace}
    (h : DataW.Trod enc Try.prog W 0 (fun _ => true) true 22 (.slice a len cap) d p) : ∃ os : List JO, JOps W a len cap os := by
  obtain ⟨fuel, hf⟩ := h
  rcases Go.Deep.open_slice Try.underlying22 hf with ⟨hcs, _⟩ | ⟨x, l, c, m, n, D, Pl, hcs, _, hl, hm, hmm, _, hx⟩
  · simp [Value.cells] at hcs
    obtain ⟨rfl, rfl, rfl⟩ := hcs
    exact ⟨[], rfl, Nat.le_refl _, by simp [maxLen], by intro j o h; simp at h, by intro o h; simp at h⟩
  · simp [Value.cells] at hcs
    obtain ⟨rfl, rfl, rfl⟩ := hcs
    have each : ∀ i, i < len → ∃ o : JO, joOk W o ∧ ∃ b f, x = ⟨b, f, none⟩ ∧ b < W.heap.size ∧ ∀ j u, (joC o)[j]? = some u → W.cell? ⟨b, f + i * 4 + j, none⟩ = some u := by
      intro i hi
      obtain ⟨cs, h1, h2⟩ := hx i (by rw [hmm]; split <;> omega)
      rw [cJo] at h1
      obtain ⟨_, hlen, hcell⟩ := World.cells?_some h1
      obtain ⟨o, rfl, hok⟩ := jo_cells h2
      obtain ⟨b, f, sp⟩ := x
      obtain ⟨cs0, g1, g2⟩ := hx 0 (by rw [hmm]; split <;> omega)
      rw [cJo] at g1
      obtain ⟨_, _, gcell⟩ := World.cells?_some g1
      obtain ⟨o0, rfl, _⟩ := jo_cells g2
      have h0 : W.cell? ⟨b, f, sp⟩ = some (.int .i64 o0.kd) := by
        have := gcell 0 (by omega)
        simpa [Addr.add, joC] using this
      obtain rfl : sp = none := by simpa using World.cell?_spot h0
      refine ⟨o, hok, b, f, rfl, ?_, fun j u hu => ?_⟩
      · exact World.block_lt_of_cell? W _ h0
      · have hj : j < (joC o).length := (List.getElem?_eq_some_iff.1 hu).1
        have h3 := hcell j (by rw [← hlen]; exact hj)
        rw [Addr.add_lit, Addr.add_lit] at h3
        rw [h3]
        first | exact hu | simpa using hu
    refine ⟨(List.range len).map fun i => if h : i < len then Classical.choose (each i h) else ⟨0, none, 0, 0, [], 0, 0⟩, by simp, hl, hm, fun j o ho => ?_, fun o ho => ?_⟩
    · rw [List.getElem?_map] at ho
      by_cases hj : j < len
      · rw [List.getElem?_range hj] at ho
        simp [hj] at ho
        subst ho
        obtain ⟨b, f, rfl, hb, hc⟩ := (Classical.choose_spec (each j hj)).2
        exact ⟨b, f, rfl, hb, hc⟩
      · rw [List.getElem?_eq_none (by simpa using hj)] at ho
        cases ho
    · obtain ⟨i, hi, rfl⟩ := List.mem_map.1 ho
      have hi' := List.mem_range.1 hi
      simp only [hi', dif_pos]
      exact (Classical.choose_spec (each i hi')).1
end Go.Proofs.Ytfchfmekpealjaa
