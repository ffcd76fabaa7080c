/-
  How an argument that is a slice of slices of bytes reads: a lemma for the rows' own step.
-/
import Derived.Test.YtmajnkdfchjcbaaOFrame
import Derived.Test.YtmajnkdfchjcbaaORow
import Derived.Deep.Matrix
namespace Go.Proofs.Ytmajnkdfchjcbaa
open Go.ChangeShapes Go.WideShapes Go.ChangeAt Go.RowKit
theorem grid_open {H : Type} {enc : TypeId × Value → H} {W : World} {a : Option Addr} {len cap : Nat} {d : DataW H} {p : List MemPlace}
    (h : DataW.Trod enc Try.prog W 0 (fun _ => true) true 49 (.slice a len cap) d p) : ∃ ls : List (List UInt8), Grid W W.heap.size a len cap ls := by
  obtain ⟨fuel, hf⟩ := h
  rcases Deep.open_int_rows Try.underlying49 Try.underlying22 Try.underlying5 (by kernel_rfl) (by kernel_rfl) hf with ⟨hcs, _⟩ | ⟨x, l, c, A, L, C, Z, hcs, _, hl, hm, _, hx⟩
  · simp [Value.cells] at hcs
    obtain ⟨rfl, rfl, rfl⟩ := hcs
    exact ⟨[], rfl, fun i hi => absurd hi (by simp)⟩
  · simp [Value.cells] at hcs
    obtain ⟨rfl, rfl, rfl⟩ := hcs
    refine ⟨(List.range len).map fun r => ((Z r).take (L r)).map fun z => byt z.toNat, by simp, fun i hi => ?_⟩
    have hi' : i < len := by simpa using hi
    obtain ⟨hc, h1, h2, h3, h4, h5, h6⟩ := hx i (by omega)
    obtain ⟨b, o, sp⟩ := x
    have hsp : sp = none := by simpa [Addr.add] using World.cell?_spot (hx 0 (by omega)).1
    subst hsp
    rw [Addr.add_lit] at hc
    refine ⟨b, o, A i, L i, C i, rfl, ?_, hc, ?_⟩
    · have := World.block_lt_of_cell? W _ hc
      simpa using this
    · have he : ((List.range len).map fun r => ((Z r).take (L r)).map fun z => byt z.toNat)[i] = ((Z i).take (L i)).map fun z => byt z.toNat := by simp
      rw [he]
      cases hA : A i with
      | none =>
        have h0 := h5 hA
        have hL : L i = 0 := by omega
        rw [hL, h0]
        exact Row.none_
      | some a' => exact row_nums h1 h2 h3 (fun c hc' => (h6 a' hA).2 c (by omega)) (nums8 _ fun n hn => h4 n (List.mem_of_mem_take hn))
end Go.Proofs.Ytmajnkdfchjcbaa
