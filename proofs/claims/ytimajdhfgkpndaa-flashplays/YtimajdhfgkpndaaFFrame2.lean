/-
  How an argument that is a struct Op, or a slice of them, reads: lemmas for the rows' own step.
-/
import Derived.Test.YtimajdhfgkpndaaOFrame
import Derived.Test.YtimajdhfgkpndaaFApart
import Derived.Deep.Slices
namespace Go.Proofs.Ytimajdhfgkpndaa
open Go.ChangeShapes Go.WideShapes Go.ChangeAt Go.RowKit
theorem cOp : Try.prog.cellsOf 30 = 3 := by kernel_rfl
theorem cInt : Try.prog.cellsOf 3 = 1 := by kernel_rfl
theorem cWord : Try.prog.cellsOf 28 = 1 := by kernel_rfl
theorem wf_i64 {a : Int} (h : (Lit.int .i64 a).wf = true) : -9223372036854775808 ≤ a ∧ a ≤ 9223372036854775807 := by
  simpa [Lit.wf, IntKind.min, IntKind.max, IntKind.signed, IntKind.bits] using h
theorem op_cells {H : Type} {enc : TypeId × Value → H} {W : World} {base : Nat} {sp : Nat → Bool} {held : Bool} {fuel : Nat} {cs : List Value} {x : DataW H × List MemPlace}
    (h : DataW.trod enc Try.prog W base sp held fuel 30 cs = some x) : ∃ o : Int × Int × UInt32, cs = opC o ∧ opOk o := by
  obtain ⟨xs, n, _, _, hl, hlen, hf⟩ := DataW.trod_struct Try.underlying30 h
  rw [cOp] at hl
  match cs, hl, xs, hlen with
  | [a, b, c], _, [y0, y1, y2], _ =>
    have h0 := hf 0 _ rfl
    have h1 := hf 1 _ rfl
    have h2 := hf 2 _ rfl
    obtain ⟨n0, e0, _, _⟩ := DataW.trod_int Try.underlying3 h0
    obtain ⟨n1, e1, _, w1⟩ := DataW.trod_int Try.underlying3 h1
    obtain ⟨n2, e2, _, w2⟩ := DataW.trod_int Try.underlying28 h2
    simp [cInt] at e0 e1
    simp [cWord] at e2
    obtain ⟨v, rfl⟩ := u32_of w2
    exact ⟨(n0, n1, v), by rw [e0, e1, e2]; rfl, wf_i64 w1⟩
theorem open_op {H : Type} {enc : TypeId × Value → H} {W : World} {base : Nat} {v : Value} {d : DataW H} {p : List MemPlace} (hv : Value.okWide Try.prog W .any base 30 v)
    (h : DataW.Trod enc Try.prog W 0 (fun _ => true) true 30 v d p) : ∃ o : Int × Int × UInt32, v = .agg (opC o).toArray ∧ opOk o := by
  obtain ⟨cs, rfl, _⟩ := okWide_struct Try.underlying30 hv
  obtain ⟨fuel, hf⟩ := h
  obtain ⟨o, ho, hk⟩ := op_cells hf
  exact ⟨o, by rw [← ho]; rfl, hk⟩
/-- A slice of things that are done: three cells each. -/
structure Ops (w : World) (A : Option Addr) (n c : Nat) (os : List (Int × Int × UInt32)) : Prop where
  len : os.length = n
  cap : n ≤ c
  max : c ≤ maxLen
  cells : ∀ j o, os[j]? = some o → ∃ b f, A = some ⟨b, f, none⟩ ∧ b < w.heap.size ∧ ∀ i u, (opC o)[i]? = some u → w.cell? ⟨b, f + j * 3 + i, none⟩ = some u
  oks : ∀ o ∈ os, opOk o
end Go.Proofs.Ytimajdhfgkpndaa
