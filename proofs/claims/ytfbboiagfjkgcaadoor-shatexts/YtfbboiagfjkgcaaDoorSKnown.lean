/-
  Arrays that are compared; the contract of the statements' own helper known of layer 4.
-/
import Derived.Test.YtfbboiagfjkgcaaDoorSSum
import Derived.Test.YtfbboiagfjkgcaaDoorSUnhex
import Derived.Test.YtfbboiagfjkgcaaDoorSAbc
import Derived.ChangeKeysEq
import Derived.Lib.SlBytesConst
namespace Go.Proofs.YtfbboiagfjkgcaaDoor
open Go.RowKit
set_option maxHeartbeats 800000

theorem eq_items {P : Program} (d : Nat) (e : TypeId) (k : IntKind) (he : P.underlying e = some (.int k)) (xs : List Value) (w : World) : ∀ is : List Nat, (∀ i, i ∈ is → ∃ z, xs[i]? = some (.int k z)) → (Op.eqItems (d + 1) e 1 xs.toArray xs.toArray is).run P w = .ok true w
  | [], _ => by simp [Op.eqItems]
  | i :: is, h => by
    obtain ⟨z, hz⟩ := h i (by simp)
    have hagg : (isAgg e).run P w = .ok false w := by
      unfold isAgg
      rw [Sem.run_bind, run_underlying he w]
      simp
    have hp : (part e xs.toArray (i * 1)).run P w = .ok (.int k z) w := by simp [part, hagg, hz, Result.andThen]
    have heq := run_equalIn_int (P := P) w d e k k z z he
    have ih := eq_items d e k he xs w is (fun j hj => h j (by simp [hj]))
    simp only [Op.eqItems, Sem.run_bind, hp, Result.andThen_ok, heq]
    simp [ih]
theorem eq8w (X : List UInt32) (h : X.length = 8) (w : World) : (Op.equalIn 10000 23 (.agg (cs32 X).toArray) (.agg (cs32 X).toArray)).run Tryd.prog w = .ok true w := by
  obtain ⟨i, hi, -⟩ := info_parts info32
  rw [run_equalIn_array w 9999 _ _ Tryd.underlying23 hi, show Tryd.prog.cellsOf 22 = 1 by kernel_rfl]
  exact eq_items 9998 _ .u32 Tryd.underlying22 _ w _ (fun j hj => ⟨_, cs32_at (by rw [h]; simpa using hj)⟩)
theorem eq32b (X : List UInt8) (h : X.length = 32) (w : World) : (Op.equalIn 10000 37 (.agg (cs8 X).toArray) (.agg (cs8 X).toArray)).run Tryd.prog w = .ok true w := by
  obtain ⟨i, hi, -⟩ := info_parts info8
  rw [run_equalIn_array w 9999 _ _ Tryd.underlying37 hi, show Tryd.prog.cellsOf 5 = 1 by kernel_rfl]
  exact eq_items 9998 _ .u8 Tryd.underlying5 _ w _ (fun j hj => ⟨_, cs8_at (by rw [h]; simpa using hj)⟩)
theorem unh_00 : unhE [48, 48] = 4 := by kernel_rfl
theorem first_0 (w : World) : (Instr.index 23 (.agg (cs32 firstL).toArray) (.int .i64 0)).run Tryd.prog w = .ok (.int .u32 1779033703) w := at8w w firstL rfl 0 (by decide)
theorem known_any (B : Nat) (w : World) (hB : B ≤ w.heap.size) (hK : KT B w) : Calls Tryd.prog 9 #[] w fun e w' => e = .returned (.bool true) ∧ Below w.heap.size w w' := by
  have kc := fun (w : World) (C : Array Value) (n c : Nat) => Lib.run_convert_bytes_const (P := Tryd.prog) w 24 5 C n c Tryd.underlying24 Tryd.underlying5
  have hf0 := first_0
  go_enter Tryd.func9, Tryd.ntmps9
  go_wp2_with fail
  refine (Unhex_any [48, 48] w).mono ?_
  unfold UnhPost
  rw [unh_00]
  rintro e w1 ⟨rfl, hb1⟩
  have hs1 := hb1.size
  have hl1 : (cs8 (unM [48, 48])).length = 32 := by rw [cs8_len, unM_len]
  have hZ : (cs8 (List.replicate 32 0)).length = 32 := rfl
  go_wp2_with (first
    | (refine wpList_storeB rfl 37 (.tmp 1) (.tmp 5) rfl w1.heap.size (cs8 (unM [48, 48])) rfl rfl 37 (cs8 (List.replicate 32 0)) (Blk.at _ _ _ rfl) 32 size32b hl1 rfl (cs8_one _) ?_; rw [World.setRow_alloc_new]; have hb2 := (Below.refl w1.heap.size w1).alloc (Nat.le_refl _) (.cells (cs8 (unM [48, 48])).toArray 37 (0, 0)); generalize World.alloc w1 _ = w2 at hb2 ⊢))
  have hb02 := hb1.trans (hb2.mono hs1)
  have hs2 := hb02.size
  have hb23 : Below w.heap.size w (w2.alloc (.cells #[.int .u8 97, .int .u8 98, .int .u8 99] 5 (3, 4))) := hb02.alloc hs2 _
  refine (Sum_any (w2.heap.size + 1) _ _ _ [97, 98, 99] _ (row_lit _ _ _ _ 3 rfl (by unfold maxLen; omega) _ rfl) (by simp) ((hK.keep hb23 hB).more (by omega)) (by omega)).mono ?_
  rintro e w3 ⟨rfl, hb3⟩
  have hb03 := hb23.trans (hb3.mono (by simp; omega))
  have hs3 := hb03.size
  go_wp2_with fail
  refine (Hex_any (sumL [97, 98, 99]) _ (sumL_len _)).mono ?_
  rw [abc_hex]
  rintro e w4 ⟨rfl, hb4⟩
  have hb04 := hb03.trans (hb4.mono hs3)
  have hs4 := hb04.size
  go_wp2_with fail
  refine (First_any _).mono ?_
  rintro e w5 ⟨rfl, hb5⟩
  have hb05 := hb04.trans (hb5.mono hs4)
  go_wp2
  go_ret
  exact ⟨rfl, hb05⟩
end Go.Proofs.YtfbboiagfjkgcaaDoor
