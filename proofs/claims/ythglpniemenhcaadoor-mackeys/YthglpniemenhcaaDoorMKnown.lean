/-
  The contract of the statements' own helper known of layer 5.
-/
import Derived.Test.YthglpniemenhcaaDoorMPkg4
import Derived.Test.YthglpniemenhcaaDoorMFox
namespace Go.Proofs.YthglpniemenhcaaDoor
open Go.RowKit
set_option maxHeartbeats 800000

theorem made31 : (madeCells (Value.int .u8 0).cells (31 * 1)).toList = cs8 (nulL 31) := by kernel_rfl
theorem known_any (B : Nat) (w : World) (hB : B ≤ w.heap.size) (hK : KT B w) : Calls Tryd.prog 9 #[] w fun e w' => e = .returned (.bool true) ∧ Below w.heap.size w w' := by
  obtain ⟨i0, hi, hz0, hz1, hz2⟩ := info_parts info8
  have kc := fun (w : World) (C : Array Value) (n c : Nat) => Lib.run_convert_bytes_const (P := Tryd.prog) w 22 5 C n c Tryd.underlying22 Tryd.underlying5
  have HE : Hid (∀ k, unE k (nulL 31) = 2) := fun k => unE_short (by rw [nulL_len]; omega)
  have hsz : (w.alloc (.cells #[.int .u8 107] 5 (1, 2))).heap.size = w.heap.size + 1 := by simp
  go_enter Tryd.func9, Tryd.ntmps9
  go_wp2_with (at_make; refine wpList_make_full _ rfl _ _ 22 rfl w.heap.size 5 i0 (.int .u8 0) 1 Tryd.underlying22 hi hz0 hz1 _ _ _ _ 31 rfl rfl rfl rfl (by rw [hz2]; omega) (by unfold maxLen; omega) (by simp) ?_; intro w1 ho1 hg1; rw [made31, hsz] at ho1; have hb1 : Below w.heap.size w w1 := ((Below.refl _ _).alloc (Nat.le_refl _) _).grown hg1 (by simp) (by simp); have hk1 : Row w1 (w.heap.size + 1) (some ⟨w.heap.size, 0, none⟩) 1 1 (cs8 [107]) := (row_lit w #[.int .u8 107] 5 (1, 2) 1 rfl (by unfold maxLen; omega) _ rfl).keep ((Below.refl (w.heap.size + 1) _).grown hg1 (by simp) (by simp)) (Nat.le_refl _); have hs1 : w.heap.size + 1 ≤ w1.heap.size := (by have h1 := hg1.size; omega))
  have hr1 := Row.of_own ho1
  clear ho1 hg1
  refine (Open_any w1.heap.size _ 1 1 [107] _ 31 31 (nulL 31) w1 (hk1.more hs1) hr1 (Nat.le_refl _) ((hK.keep hb1 hB).more (by omega)) (by omega) (by omega)).mono ?_
  unfold Gives
  rw [HE.out]
  rintro e w2 ⟨A2, n2, c2, rfl, ho2, hb2⟩
  have hb02 := hb1.trans (hb2.mono (by omega))
  have hs2 := hb02.size
  clear ho2 hb2 hk1 hr1 hb1
  have kc2 : ∀ (D C : Array Value) (d : Nat × Nat) (n c : Nat), (convert 22 22 (.slice (some ⟨w2.heap.size + 1, 0, none⟩) n c)).run Tryd.prog ((w2.alloc (.cells D 5 d)).alloc (.cells C 5)) = .ok (.slice (some ⟨w2.heap.size + 1, 0, none⟩) n c) ((w2.alloc (.cells D 5 d)).alloc (.cells C 5 (C.size, C.size + 1))) := fun D C d n c => by
    have h := kc (w2.alloc (.cells D 5 d)) C n c
    have hz : (w2.alloc (.cells D 5 d)).heap.size = w2.heap.size + 1 := by simp
    rw [hz] at h
    exact h
  go_wp2_with fail
  have hb03 := (hb02.alloc hs2 (.cells #[.int .u8 107, .int .u8 101, .int .u8 121] 5 (3, 4))).alloc (by simp; omega) (.cells (cs8 foxL).toArray 5 (43, 44))
  have r1 := (row_lit w2 #[.int .u8 107, .int .u8 101, .int .u8 121] 5 (3, 4) 3 rfl (by unfold maxLen; omega) (cs8 [107, 101, 121]) rfl).alloc (by simp) (.cells (cs8 foxL).toArray 5 (43, 44))
  have r2 := row_lit (w2.alloc (.cells #[.int .u8 107, .int .u8 101, .int .u8 121] 5 (3, 4))) (cs8 foxL).toArray 5 (43, 44) 43 rfl (by unfold maxLen; omega) (cs8 foxL) rfl
  have hz : (w2.alloc (.cells #[.int .u8 107, .int .u8 101, .int .u8 121] 5 (3, 4))).heap.size = w2.heap.size + 1 := by simp
  rw [hz] at r2
  have hz2 : ((w2.alloc (.cells #[.int .u8 107, .int .u8 101, .int .u8 121] 5 (3, 4))).alloc (.cells (cs8 foxL).toArray 5 (43, 44))).heap.size = w2.heap.size + 1 + 1 := by simp
  refine (Tag_any (w2.heap.size + 1 + 1) _ 3 3 [107, 101, 121] _ 43 43 foxL ((w2.alloc (.cells #[.int .u8 107, .int .u8 101, .int .u8 121] 5 (3, 4))).alloc (.cells (cs8 foxL).toArray 5 (43, 44))) (r1.more (by omega)) r2 (by omega) ((hK.keep hb03 hB).more (by omega)) (by omega) (by omega)).mono ?_
  rintro e w3 ⟨rfl, hb3⟩
  have hb04 := hb03.trans (hb3.mono (by omega))
  have hs4 := hb04.size
  go_wp2_with fail
  refine (Hex_any _ _ (tagL_len _ _)).mono ?_
  rw [fox_hex]
  rintro e w4 ⟨rfl, hb4⟩
  go_wp2
  go_ret
  exact ⟨rfl, hb04.trans (hb4.mono hs4)⟩
end Go.Proofs.YthglpniemenhcaaDoor
