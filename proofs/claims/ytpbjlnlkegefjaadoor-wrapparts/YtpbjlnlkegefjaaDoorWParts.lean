/-
  The walk of WrapParts: it returns true, and turns nothing that was there.
-/
import Derived.Test.YtpbjlnlkegefjaaDoorWKnown
import Derived.Test.YtpbjlnlkegefjaaDoorWBv
namespace Go.Proofs.YtpbjlnlkegefjaaDoor
open Go.RowKit
set_option maxHeartbeats 400000
theorem quo_n {b : Int} (a : Int) (h : b ≠ 0) : binV 4 a b = wrap32 (a.tdiv b) := if_neg h
theorem tmod_lt (a : Int) {b : Int} (h : b ≠ 0) : (a.tmod b).natAbs < b.natAbs := by
  rw [Int.natAbs_tmod]
  exact Nat.mod_lt _ (by omega)
theorem tmod_sign (a b : Int) : (0 ≤ a → 0 ≤ a.tmod b) ∧ (a ≤ 0 → a.tmod b ≤ 0) := by
  refine ⟨fun h => Int.tmod_nonneg b h, fun h => ?_⟩
  have := Int.tmod_nonneg b (show 0 ≤ -a by omega)
  rw [Int.neg_tmod] at this
  omega
theorem rem_n {a b : Int} (hb : (Lit.int .i32 b).wf = true) (h : b ≠ 0) : binV 5 a b = a.tmod b := by
  show wrap32 (a - wrap32 (b * quoV a b)) = _
  have hq : quoV a b = wrap32 (a.tdiv b) := if_neg h
  rw [hq, wrap32_bv, wrap32_bv, wrap32_bv, bv_sub, bv_toInt, bv_mul, bv_toInt, ← bv_mul, ← bv_sub, ← wrap32_bv]
  have h1 := Int.tmod_add_mul_tdiv a b
  have h2 := tmod_lt a h
  have h3 := of_wf hb
  rw [show a - b * a.tdiv b = a.tmod b by omega]
  exact wrap32_self (by omega)
theorem parts_n {a b : Int} (ha : (Lit.int .i32 a).wf = true) (hb : (Lit.int .i32 b).wf = true) (h : b ≠ 0) : (binV 1 (binV 3 (binV 4 a b) b) (binV 5 a b) != a) = false := by
  rw [bne_eq_false_iff_eq, binV1, binV3, bv_toInt, quo_n a h, wrap32_bv, bv_toInt, rem_n hb h, ← bv_mul, ← bv_add]
  have h1 := Int.tmod_add_mul_tdiv a b
  rw [show a.tdiv b * b + a.tmod b = a by rw [Int.mul_comm]; omega, bv_self ha]
theorem quo_z (a : Int) : binV 4 a 0 = 0 := rfl
theorem rem_z {a : Int} (ha : (Lit.int .i32 a).wf = true) : binV 5 a 0 = a := by
  show wrap32 (a - wrap32 (0 * quoV a 0)) = _
  rw [Int.zero_mul, show wrap32 0 = 0 by kernel_rfl, Int.sub_zero]
  exact wrap32_self (of_wf ha)
theorem parts_z {a : Int} (ha : (Lit.int .i32 a).wf = true) : (binV 1 (binV 3 0 0) a != a) = false := by
  rw [bne_eq_false_iff_eq, binV1, binV3, bv_toInt, show bv 0 = 0#32 from rfl, BitVec.mul_zero, BitVec.zero_add, bv_self ha]

theorem parts_walk (a b : Int) (w : World) (ha : (Lit.int .i32 a).wf = true) (hb : (Lit.int .i32 b).wf = true) (ht : Tab w) :
    Calls Tryd.prog 7 #[.int .i32 a, .int .i32 b] w fun e w' => e = .returned (.bool true) ∧ Below w.heap.size w w' := by
  by_cases h0 : b = 0
  · subst h0
    have e1 := quo_z a
    have e2 := rem_z ha
    have e3 := parts_z ha
    clear ha hb
    go_enter Tryd.func7, Tryd.ntmps7
    go_wp2_with (first
      | (go_at_call 24; refine (bin_any _ _ _ _ (by decide) (by decide)).mono ?_; rintro e w' ⟨rfl, rfl⟩)
      | (go_at_call 13; refine (known_any _ ht).mono ?_; rintro e w' ⟨rfl, hb⟩))
    go_ret
    exact ⟨rfl, hb⟩
  have e1 := parts_n ha hb h0
  have hr := rem_n (a := a) hb h0
  have hl := tmod_lt a h0
  have hs := tmod_sign a b
  have hba := of_wf ha
  have hbb := of_wf hb
  rw [← hr] at hl hs
  obtain ⟨s1, s2⟩ := hs
  have r1 : -2147483648 ≤ binV 5 a b := by omega
  have r2 : binV 5 a b ≤ 2147483647 := by omega
  have hbz : (b == 0) = false := by simpa using h0
  clear hr ha hb
  by_cases hneg : b < 0
  · have l1 : b < binV 5 a b := by omega
    have l2 : binV 5 a b < -b := by omega
    clear hl
    by_cases hz : binV 5 a b = 0
    · have ez : (binV 5 a b == 0) = true := by simpa using hz
      clear hz s1 s2
      go_enter Tryd.func7, Tryd.ntmps7
      go_wp2_with (first
        | (go_at_call 24; refine (bin_any _ _ _ _ (by decide) (by decide)).mono ?_; rintro e w' ⟨rfl, rfl⟩)
        | (go_at_call 13; refine (known_any _ ht).mono ?_; rintro e w' ⟨rfl, hb⟩))
      go_ret
      exact ⟨rfl, hb⟩
    · have ez : (binV 5 a b == 0) = false := by simpa using hz
      by_cases han : a < 0
      · have hrn : binV 5 a b < 0 := by omega
        clear hz s1 s2
        go_enter Tryd.func7, Tryd.ntmps7
        go_wp2_with (first
          | (go_at_call 24; refine (bin_any _ _ _ _ (by decide) (by decide)).mono ?_; rintro e w' ⟨rfl, rfl⟩)
          | (go_at_call 13; refine (known_any _ ht).mono ?_; rintro e w' ⟨rfl, hb⟩))
        go_ret
        exact ⟨rfl, hb⟩
      · have hrn : 0 ≤ binV 5 a b := by omega
        clear hz s1 s2
        go_enter Tryd.func7, Tryd.ntmps7
        go_wp2_with (first
          | (go_at_call 24; refine (bin_any _ _ _ _ (by decide) (by decide)).mono ?_; rintro e w' ⟨rfl, rfl⟩)
          | (go_at_call 13; refine (known_any _ ht).mono ?_; rintro e w' ⟨rfl, hb⟩))
        go_ret
        exact ⟨rfl, hb⟩
  · have l1 : -b < binV 5 a b := by omega
    have l2 : binV 5 a b < b := by omega
    clear hl
    by_cases hz : binV 5 a b = 0
    · have ez : (binV 5 a b == 0) = true := by simpa using hz
      clear hz s1 s2
      go_enter Tryd.func7, Tryd.ntmps7
      go_wp2_with (first
        | (go_at_call 24; refine (bin_any _ _ _ _ (by decide) (by decide)).mono ?_; rintro e w' ⟨rfl, rfl⟩)
        | (go_at_call 13; refine (known_any _ ht).mono ?_; rintro e w' ⟨rfl, hb⟩))
      go_ret
      exact ⟨rfl, hb⟩
    · have ez : (binV 5 a b == 0) = false := by simpa using hz
      by_cases han : a < 0
      · have hrn : binV 5 a b < 0 := by omega
        clear hz s1 s2
        go_enter Tryd.func7, Tryd.ntmps7
        go_wp2_with (first
          | (go_at_call 24; refine (bin_any _ _ _ _ (by decide) (by decide)).mono ?_; rintro e w' ⟨rfl, rfl⟩)
          | (go_at_call 13; refine (known_any _ ht).mono ?_; rintro e w' ⟨rfl, hb⟩))
        go_ret
        exact ⟨rfl, hb⟩
      · have hrn : 0 ≤ binV 5 a b := by omega
        clear hz s1 s2
        go_enter Tryd.func7, Tryd.ntmps7
        go_wp2_with (first
          | (go_at_call 24; refine (bin_any _ _ _ _ (by decide) (by decide)).mono ?_; rintro e w' ⟨rfl, rfl⟩)
          | (go_at_call 13; refine (known_any _ ht).mono ?_; rintro e w' ⟨rfl, hb⟩))
        go_ret
        exact ⟨rfl, hb⟩
end Go.Proofs.YtpbjlnlkegefjaaDoor
