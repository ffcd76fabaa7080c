/-
  Arrays that are compared; the contract of the statements' own helper known of layer 4.
-/
import Derived.Test.YtdikiabjkmigdaaGreatDoorSSum
import Derived.ChangeKeysEq
import Derived.Lib.SlBytesConst
namespace Go.Proofs.YtdikiabjkmigdaaGreatDoor
set_option maxRecDepth 20000
open Go.RowKit
set_option maxHeartbeats 800000

theorem eq_items {P : Program} (d : Nat) (e : TypeId) (k : IntKind) (he : P.underlying e = some (.int k)) (xs : List Value) (w : World) : ∀ is : List Nat, (∀ i, i ∈ is → ∃ z, xs[i]? = some (.int k z)) → (Op.eqItems (d + 1) e 1 xs.toArray xs.toArray is).run P w = .ok true w
  | [], _ => by simp [Op.eqItems]
  | i :: is, h => by
    obtain ⟨z, hz⟩ := h i (by simp)
    have hagg : (isAgg e).run P w = .ok false w := by
      unfold isAgg
      rw [Sem.run_bind, run_underlying he w]
      simp
    have hp : (part e xs.toArray (i * 1)).run P w = .ok (.int k z) w := by simp [part, hagg, hz, Result.andThen]
    have heq := run_equalIn_int (P := P) w d e k k z z he
    have ih := eq_items d e k he xs w is (fun j hj => h j (by simp [hj]))
    simp only [Op.eqItems, Sem.run_bind, hp, Result.andThen_ok, heq]
    simp [ih]
theorem eq8w (X : List UInt32) (h : X.length = 8) (w : World) : (Op.equalIn 10000 115 (.agg (cs32 X).toArray) (.agg (cs32 X).toArray)).run Tryz.prog w = .ok true w := by
  obtain ⟨i, hi, -⟩ := info_parts info32
  rw [run_equalIn_array w 9999 _ _ Tryz.underlying115 hi, show Tryz.prog.cellsOf 22 = 1 by kernel_rfl]
  exact eq_items 9998 _ .u32 Tryz.underlying22 _ w _ (fun j hj => ⟨_, cs32_at (by rw [h]; simpa using hj)⟩)
theorem eq32b (X : List UInt8) (h : X.length = 32) (w : World) : (Op.equalIn 10000 49 (.agg (cs8 X).toArray) (.agg (cs8 X).toArray)).run Tryz.prog w = .ok true w := by
  obtain ⟨i, hi, -⟩ := info_parts info8
  rw [run_equalIn_array w 9999 _ _ Tryz.underlying49 hi, show Tryz.prog.cellsOf 5 = 1 by kernel_rfl]
  exact eq_items 9998 _ .u8 Tryz.underlying5 _ w _ (fun j hj => ⟨_, cs8_at (by rw [h]; simpa using hj)⟩)
theorem unh_00 : unhE [48, 48] = 4 := by kernel_rfl
theorem first_0 (w : World) : (Instr.index 115 (.agg (cs32 firstL).toArray) (.int .i64 0)).run Tryz.prog w = .ok (.int .u32 1779033703) w := at8w w firstL rfl 0 (by decide)
end Go.Proofs.YtdikiabjkmigdaaGreatDoor
