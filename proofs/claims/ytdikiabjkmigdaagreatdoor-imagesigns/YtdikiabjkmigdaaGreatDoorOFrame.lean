/-
  How an argument that is a slice of bytes, or of words, reads: lemmas for the rows' own step.
-/
import Derived.Test.YtdikiabjkmigdaaGreatDoorRows
import Derived.Test.YtdikiabjkmigdaaGreatDoorOMem
import Derived.OpenShut
import Derived.ShutString
import Derived.ChangeOld
namespace Go.Proofs.YtdikiabjkmigdaaGreatDoor
set_option maxRecDepth 20000
open Go.ChangeShapes Go.WideShapes Go.ChangeAt Go.RowKit
theorem own : ownKnob Tryz.prog.godebug = none := by kernel_rfl
theorem laidOut : laidOutB Tryz.prog = true := by kernel_rfl
theorem row_nums {W : World} {k : IntKind} {x : Addr} {len cap : Nat} {zs : List Int} {xs : List Value} (hl : len ≤ cap) (hm : cap ≤ maxLen) (hz : zs.length = cap) (hcell : ∀ i, i < zs.length → W.cell? (x.add i) = some (.int k (zs.getD i 0)))
    (hx : xs = (zs.take len).map (Value.int k)) : Row W W.heap.size (some x) len cap xs := by
  subst hx
  refine ⟨by simp; omega, hl, hm, (fun h => by cases h), fun hn => ?_⟩
  obtain ⟨b, o, sp⟩ := x
  have h0 := hcell 0 (by omega)
  obtain rfl : sp = none := by simpa [Addr.add] using World.cell?_spot h0
  refine ⟨b, o, rfl, ?_, fun j u hu => ?_⟩
  · have := World.block_lt_of_cell? W _ h0
    simpa [Addr.add] using this
  · have hj : j < len := by
      have := (List.getElem?_eq_some_iff.1 hu).1
      simp at this; omega
    have h1 := hcell j (by omega)
    rw [Addr.add_lit] at h1
    rw [h1]
    rw [List.getElem?_map, List.getElem?_take, if_pos hj, List.getElem?_eq_getElem (by omega)] at hu
    simp at hu
    rw [← hu]
    simp [List.getD, List.getElem?_eq_getElem (show j < zs.length by omega)]
theorem wf_u8 {a : Int} (h : (Lit.int .u8 a).wf = true) : 0 ≤ a ∧ a ≤ 255 := by
  simpa [Lit.wf, IntKind.min, IntKind.max, IntKind.signed, IntKind.bits] using h
theorem wf_u32 {a : Int} (h : (Lit.int .u32 a).wf = true) : 0 ≤ a ∧ a ≤ 4294967295 := by
  simpa [Lit.wf, IntKind.min, IntKind.max, IntKind.signed, IntKind.bits] using h
theorem nums8 (zs : List Int) (h : ∀ n ∈ zs, (Lit.int .u8 n).wf = true) : cs8 (zs.map fun z => byt z.toNat) = zs.map (Value.int .u8) := by
  unfold cs8
  rw [List.map_map]
  apply List.map_congr_left
  intro z hz
  have := wf_u8 (h z hz)
  simp only [Function.comp_apply, byt_toNat]
  congr 1
  omega
theorem nums32 (zs : List Int) (h : ∀ n ∈ zs, (Lit.int .u32 n).wf = true) : cs32 (zs.map fun z => word z.toNat) = zs.map (Value.int .u32) := by
  unfold cs32
  rw [List.map_map]
  apply List.map_congr_left
  intro z hz
  have := wf_u32 (h z hz)
  simp only [Function.comp_apply, word_toNat]
  congr 1
  omega
theorem row_open8 {H : Type} {enc : TypeId × Value → H} {W : World} {a : Option Addr} {len cap : Nat} {d : DataW H} {p : List MemPlace}
    (h : DataW.Trod enc Tryz.prog W 0 (fun _ => true) true 29 (.slice a len cap) d p) : ∃ l : List UInt8, Row W W.heap.size a len cap (cs8 l) := by
  obtain ⟨fuel, hf⟩ := h
  rcases open_ints Tryz.underlying29 Tryz.underlying5 (by kernel_rfl) hf with ⟨hcs, _⟩ | ⟨x, l, c, zs, hcs, _, hl, hm, hz, _, hcell, hwz⟩
  · simp [Value.cells] at hcs
    obtain ⟨rfl, rfl, rfl⟩ := hcs
    exact ⟨[], Row.none_⟩
  · simp [Value.cells] at hcs
    obtain ⟨rfl, rfl, rfl⟩ := hcs
    exact ⟨(zs.take len).map fun z => byt z.toNat, row_nums hl hm (by simpa using hz) hcell (nums8 _ fun n hn => hwz n (List.mem_of_mem_take hn))⟩
theorem row_open32 {H : Type} {enc : TypeId × Value → H} {W : World} {a : Option Addr} {len cap : Nat} {d : DataW H} {p : List MemPlace}
    (h : DataW.Trod enc Tryz.prog W 0 (fun _ => true) true 96 (.slice a len cap) d p) : ∃ l : List UInt32, Row W W.heap.size a len cap (cs32 l) := by
  obtain ⟨fuel, hf⟩ := h
  rcases open_ints Tryz.underlying96 Tryz.underlying22 (by kernel_rfl) hf with ⟨hcs, _⟩ | ⟨x, l, c, zs, hcs, _, hl, hm, hz, _, hcell, hwz⟩
  · simp [Value.cells] at hcs
    obtain ⟨rfl, rfl, rfl⟩ := hcs
    exact ⟨[], Row.none_⟩
  · simp [Value.cells] at hcs
    obtain ⟨rfl, rfl, rfl⟩ := hcs
    exact ⟨(zs.take len).map fun z => word z.toNat, row_nums hl hm (by simpa using hz) hcell (nums32 _ fun n hn => hwz n (List.mem_of_mem_take hn))⟩
end Go.Proofs.YtdikiabjkmigdaaGreatDoor
