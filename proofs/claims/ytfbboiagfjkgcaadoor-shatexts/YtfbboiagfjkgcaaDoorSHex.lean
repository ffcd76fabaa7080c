/-
  Contracts of Hex, of package sha and of the reference of layer 4; of the reference's digit, and of strings.IndexByte.
-/
import Derived.Test.YtfbboiagfjkgcaaDoorSMem
import Derived.Laws.Externs
import Derived.Lib.Bytealg
namespace Go.Proofs.YtfbboiagfjkgcaaDoor
open Go.RowKit
set_option maxHeartbeats 800000
theorem digs_at (j : Nat) (h : j < 16) : (ByteArray.mk #[48, 49, 50, 51, 52, 53, 54, 55, 56, 57, 97, 98, 99, 100, 101, 102])[j]'(h) = dig j := by
  exact match j, h with
  | 0, _ => rfl | 1, _ => rfl | 2, _ => rfl | 3, _ => rfl | 4, _ => rfl | 5, _ => rfl | 6, _ => rfl | 7, _ => rfl
  | 8, _ => rfl | 9, _ => rfl | 10, _ => rfl | 11, _ => rfl | 12, _ => rfl | 13, _ => rfl | 14, _ => rfl | 15, _ => rfl
  | n + 16, h => absurd h (by omega)
theorem dig_get (j : Nat) (h : j < digs.length) : digs[j] = dig j := by
  unfold dig; rw [List.getD_eq_getElem?_getD, List.getElem?_eq_getElem h]; rfl
theorem undI_at (c : UInt8) (j : Nat) (hj : j < 16) (hc : dig j = c) (hk : ∀ k, k < j → dig k ≠ c) : undI c = (j : Int) := by
  have h1 : undig c = j := by
    unfold undig
    rw [List.findIdx_eq (show j < digs.length from hj)]
    refine ⟨by rw [dig_get, hc]; simp, fun k hkj => ?_⟩
    rw [dig_get]
    simpa using hk k hkj
  unfold undI
  rw [h1, if_pos hj]
theorem undI_no (c : UInt8) (hk : ∀ k, k < 16 → dig k ≠ c) : undI c = -1 := by
  have h1 : undig c = 16 := by
    unfold undig
    refine List.findIdx_eq_length.2 fun x hx => ?_
    obtain ⟨i, hi, rfl⟩ := List.getElem_of_mem hx
    rw [dig_get]
    simpa using hk i hi
  unfold undI
  rw [h1, if_neg (by omega)]
theorem indexByte_is (c : UInt8) : ∀ l : List UInt8, Lib.indexByte l c = if l.findIdx (· == c) < l.length then ((l.findIdx (· == c) : Nat) : Int) else -1
  | [] => rfl
  | b :: l => by
    rw [Lib.indexByte, indexByte_is c l, List.findIdx_cons]
    by_cases h : (b == c) = true
    · simp [h]
    · have h' : (b == c) = false := by simpa using h
      simp only [h', Bool.false_eq_true, if_false, cond_false, List.length_cons]
      by_cases h2 : List.findIdx (· == c) l < l.length
      · rw [if_pos h2, if_neg (by rw [beq_iff_eq]; omega), if_pos (by omega)]; omega
      · rw [if_neg h2, if_pos (by rfl), if_neg (by omega)]
theorem indexByte_digs (c : UInt8) : Lib.indexByte digs c = undI c := indexByte_is c digs
theorem digit_any (c : UInt8) (w : World) : Calls Tryd.prog 36 #[.int .u8 (c.toNat : Int)] w fun e w' => e = .returned (.int .i64 (undI c)) ∧ w = w' := by
  go_enter Tryd.func36, Tryd.ntmps36
  go_wp2
  go_loop [3] (fun i => ∃ j : Nat, j ≤ 16 ∧ i = .int .i64 (j : Int) ∧ Hid (∀ k, k < j → dig k ≠ c)) (fun i => 16 - (intOf i).toNat)
  case atStart => exact ⟨0, Nat.zero_le _, rfl, fun k hk => absurd hk (by omega)⟩
  case round =>
    obtain ⟨j, hj, rfl, HJ⟩ := hrel
    by_cases hlt : j < 16
    · have hix := digs_at j hlt
      by_cases hc : dig j = c
      · have HU := hide (undI_at c j hlt hc HJ.out)
        have ht : (((dig j).toNat : Int) == (c.toNat : Int)) = true := by rw [hc]; simp
        clear hc
        go_wp2
        go_ret
        exact ⟨by rw [HU.out]; rfl, rfl⟩
      · have ht : (((dig j).toNat : Int) == (c.toNat : Int)) = false := by
          rw [beq_eq_false_iff_ne]; intro h; exact hc (UInt8.toNat_inj.1 (by omega))
        have HC := hide hc
        clear hc
        go_wp2
        go_round
        case rel => exact ⟨j + 1, by omega, by go_num, fun k hk => by
          by_cases hkj : k = j
          · subst hkj; exact HC.out
          · exact HJ.out k (by omega)⟩
        case measure => simp [intOf]; omega
    · obtain rfl : j = 16 := by omega
      have HU := hide (undI_no c HJ.out)
      go_wp2
      go_ret
      exact ⟨by rw [HU.out]; rfl, rfl⟩
theorem run_ext (c : UInt8) (w : World) : (callFunc 41 #[.string ⟨#[48, 49, 50, 51, 52, 53, 54, 55, 56, 57, 97, 98, 99, 100, 101, 102]⟩, .int .u8 (c.toNat : Int)]).run Tryd.prog w = .ok (.value (.int .i64 (undI c))) w := by
  rw [run_callFunc_extern Tryd.func41 (by kernel_rfl) (by kernel_rfl) (by kernel_rfl) (e := Extern.BytealgIndexByte.indexByte) (by kernel_rfl), Lib.run_indexByteString]
  have h1 : (c.toNat : Int).toNat.toUInt8 = c := by simp
  rw [h1]
  exact congrArg (fun z => Result.ok (Next.value (.int .i64 z)) w) (indexByte_digs c)
theorem IndexByte_any (c : UInt8) (w : World) : Calls Tryd.prog 35 #[.string ⟨#[48, 49, 50, 51, 52, 53, 54, 55, 56, 57, 97, 98, 99, 100, 101, 102]⟩, .int .u8 (c.toNat : Int)] w fun e w' => e = .returned (.int .i64 (undI c)) ∧ w = w' := by
  have hx := run_ext c
  go_enter Tryd.func35, Tryd.ntmps35
  go_wp2
  go_ret
  exact ⟨rfl, rfl⟩
end Go.Proofs.YtfbboiagfjkgcaaDoor
