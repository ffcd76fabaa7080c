/-
  Contracts of Hex, of package sha and of the reference of layer 4; of the reference's digit, and of strings.IndexByte.
-/
import Derived.Test.YthglpniemenhcaaDoorSMem
import Derived.Laws.Externs
import Derived.Lib.Bytealg
namespace Go.Proofs.YthglpniemenhcaaDoor
open Go.RowKit
set_option maxHeartbeats 800000
theorem digs_at (j : Nat) (h : j < 16) : (ByteArray.mk #[48, 49, 50, 51, 52, 53, 54, 55, 56, 57, 97, 98, 99, 100, 101, 102])[j]'(h) = dig j := by
  exact match j, h with
  | 0, _ => rfl | 1, _ => rfl | 2, _ => rfl | 3, _ => rfl | 4, _ => rfl | 5, _ => rfl | 6, _ => rfl | 7, _ => rfl
  | 8, _ => rfl | 9, _ => rfl | 10, _ => rfl | 11, _ => rfl | 12, _ => rfl | 13, _ => rfl | 14, _ => rfl | 15, _ => rfl
  | n + 16, h => absurd h (by omega)
theorem dig_get (j : Nat) (h : j < digs.length) : digs[j] = dig j := by
  unfold dig; rw [List.getD_eq_getElem?_getD, List.getElem?_eq_getElem h]; rfl
theorem undI_at (c : UInt8) (j : Nat) (hj : j < 16) (hc : dig j = c) (hk : ∀ k, k < j → dig k ≠ c) : undI c = (j : Int) := by
  have h1 : undig c = j := by
    unfold undig
    rw [List.findIdx_eq (show j < digs.length from hj)]
    refine ⟨by rw [dig_get, hc]; simp, fun k hkj => ?_⟩
    rw [dig_get]
    simpa using hk k hkj
  unfold undI
  rw [h1, if_pos hj]
theorem undI_no (c : UInt8) (hk : ∀ k, k < 16 → dig k ≠ c) : undI c = -1 := by
  have h1 : undig c = 16 := by
    unfold undig
    refine List.findIdx_eq_length.2 fun x hx => ?_
    obtain ⟨i, hi, rfl⟩ := List.getElem_of_mem hx
    rw [dig_get]
    simpa using hk i hi
  unfold undI
  rw [h1, if_neg (by omega)]
theorem indexByte_is (c : UInt8) : ∀ l : List UInt8, Lib.indexByte l c = if l.findIdx (· == c) < l.length then ((l.findIdx (· == c) : Nat) : Int) else -1
  | [] => rfl
  | b :: l => by
    rw [Lib.indexByte, indexByte_is c l, List.findIdx_cons]
    by_cases h : (b == c) = true
    · simp [h]
    · have h' : (b == c) = false := by simpa using h
      simp only [h', Bool.false_eq_true, if_false, cond_false, List.length_cons]
      by_cases h2 : List.findIdx (· == c) l < l.length
      · rw [if_pos h2, if_neg (by rw [beq_iff_eq]; omega), if_pos (by omega)]; omega
      · rw [if_neg h2, if_pos (by rfl), if_neg (by omega)]
theorem indexByte_digs (c : UInt8) : Lib.indexByte digs c = undI c := indexByte_is c digs
end Go.Proofs.YthglpniemenhcaaDoor
