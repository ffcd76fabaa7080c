/-
  The walk of WrapShifts: it returns true, and turns nothing that was there.
-/
import Derived.Test.YtpbjlnlkegefjaaDoorWKnown
import Derived.Test.YtpbjlnlkegefjaaDoorWBv
import Derived.LoopTactic
namespace Go.Proofs.YtpbjlnlkegefjaaDoor
open Go.RowKit
set_option maxHeartbeats 400000
/-- A power of two, by its lowest 32 bits. -/
def pw (j : Nat) : Int := wrap32 (2 ^ j)
theorem pw_zero : pw 0 = 1 := by kernel_rfl
theorem pw_succ (j : Nat) : binV 1 (pw j) (pw j) = pw (j + 1) := by
  rw [binV1, pw, pw, wrap32_bv, wrap32_bv, bv_toInt, ← bv_add, Int.pow_succ]
  congr 2
  omega
theorem bv_pw (j : Nat) : bv (pw j) = bv (2 ^ j) := by rw [pw, wrap32_bv, bv_toInt]
theorem and31 (n : Int) : bits .and .i32 n 31 = n % 32 := by
  rw [and_bv]
  have h1 : (bv n &&& bv 31).toNat = (n % 32).toNat := by
    rw [BitVec.toNat_and, show (bv 31).toNat = 2 ^ 5 - 1 from rfl, Nat.and_two_pow_sub_one_eq_mod, bv, BitVec.toNat_ofInt]
    omega
  rw [BitVec.toInt_eq_toNat_bmod, h1, Int.bmod_def]
  omega
theorem shl_pw (a n : Int) : (binV 6 a n == binV 3 a (pw (n % 32).toNat)) = true := by
  rw [beq_iff_eq, binV3, bv_pw, ← bv_mul]
  exact wrap32_bv _
theorem low_bv (a : Int) (k : Nat) (hk : k ≤ 31) : bv a &&& (bv (2 ^ k) - 1#32) = bv (a % 2 ^ k) := by
  have hp : (2 : Int) ^ k = ((2 ^ k : Nat) : Int) := by simp
  have hle : 2 ^ k ≤ 2 ^ 31 := Nat.pow_le_pow_right (by decide) hk
  have hpos : 0 < 2 ^ k := Nat.two_pow_pos k
  have h1 : (bv (2 ^ k)).toNat = 2 ^ k := by
    rw [bv, BitVec.toNat_ofInt, hp]
    omega
  have h2 : (bv (2 ^ k) - 1#32).toNat = 2 ^ k - 1 := by
    rw [BitVec.toNat_sub, h1]
    have : (1#32).toNat = 1 := rfl
    rw [this]
    omega
  apply BitVec.eq_of_toNat_eq
  rw [BitVec.toNat_and, h2, Nat.and_two_pow_sub_one_eq_mod, bv, bv, BitVec.toNat_ofInt, BitVec.toNat_ofInt]
  have hd : 2 ^ 32 = 2 ^ k * 2 ^ (32 - k) := by rw [← Nat.pow_add]; congr 1; omega
  have h3 : a % (2 ^ k : Int) = (a % ((2 ^ 32 : Nat) : Int)) % ((2 ^ k : Nat) : Int) := by
    rw [hp]
    refine (Int.emod_emod_of_dvd a ?_).symm
    rw [hd]
    exact Int.natCast_dvd_natCast.2 (Nat.dvd_mul_right _ _)
  have h4 : 0 ≤ a % ((2 ^ 32 : Nat) : Int) := Int.emod_nonneg _ (by decide)
  rw [h3]
  generalize a % ((2 ^ 32 : Nat) : Int) = z at h4 ⊢
  obtain ⟨m, rfl⟩ := Int.eq_ofNat_of_zero_le h4
  have h5 : m % 2 ^ k < 2 ^ k := Nat.mod_lt _ hpos
  rw [← Int.natCast_emod, ← Int.natCast_emod, Nat.mod_eq_of_lt (a := m % 2 ^ k) (by omega)]
  exact (Int.toNat_natCast _).symm
theorem back (a n : Int) (h : (Lit.int .i32 a).wf = true) :
    (binV 1 (binV 6 (binV 7 a n) n) (binV 8 a (binV 2 (pw (n % 32).toNat) 1)) == a) = true := by
  have hk : (n % 32).toNat ≤ 31 := by omega
  generalize hK : (n % 32).toNat = k at hk ⊢
  have h6 : binV 6 (binV 7 a n) n = (bv (a / 2 ^ k * 2 ^ k)).toInt := by
    rw [← wrap32_bv, ← hK]; rfl
  rw [beq_iff_eq, binV1, h6, bv_toInt, binV8, binV2, bv_toInt, bv_toInt, bv_pw, show bv 1 = 1#32 from rfl, low_bv a k hk, ← bv_add, Int.mul_comm, Int.mul_ediv_add_emod, bv_self h]
theorem down_neg (a n : Int) (h : a < 0) : binV 7 a n < 0 := Int.ediv_neg_of_neg_of_pos h (Int.pow_pos (by decide))
theorem down_pos (a n : Int) (h : 0 ≤ a) : 0 ≤ binV 7 a n := Int.ediv_nonneg h (Int.pow_nonneg (by decide))
theorem shifts_walk (a n : Int) (w : World) (ha : (Lit.int .i32 a).wf = true) (_ : (Lit.int .i32 n).wf = true) (ht : Tab w) :
    Calls Tryd.prog 8 #[.int .i32 a, .int .i32 n] w fun e w' => e = .returned (.bool true) ∧ Below w.heap.size w w' := by
  have e0 := and31 n
  go_enter Tryd.func8, Tryd.ntmps8
  go_wp2
  go_loop [6, 7] (fun p i => ∃ j : Nat, j ≤ (n % 32).toNat ∧ i = .int .i32 j ∧ p = .int .i32 (pw j)) (fun _ i => (n % 32).toNat - (intOf i).toNat)
  case atStart => exact ⟨0, Nat.zero_le _, rfl, by rw [pw_zero]⟩
  case round =>
    obtain ⟨j, hj, rfl, rfl⟩ := hrel
    clear e0
    by_cases hlt : j < (n % 32).toNat
    · have hlt' : (j : Int) < n % 32 := by omega
      have hs := pw_succ j
      go_wp2_with (go_at_call 24; refine (bin_any _ _ _ _ (by decide) (by decide)).mono ?_; rintro e w' ⟨rfl, rfl⟩)
      go_round
      case rel => exact ⟨j + 1, by omega, by go_num, rfl⟩
      case measure => simp [intOf]; omega
    · obtain rfl : j = (n % 32).toNat := by omega
      have hge : ¬ (((n % 32).toNat : Int) < n % 32) := by omega
      have e1 := shl_pw a n
      have e2 := back a n ha
      by_cases hneg : a < 0
      · have e3 := down_neg a n hneg
        clear hlt hj ha
        go_wp2_with (first
          | (go_at_call 24; refine (bin_any _ _ _ _ (by decide) (by decide)).mono ?_; rintro e w' ⟨rfl, rfl⟩)
          | (go_at_call 13; refine (known_any _ ht).mono ?_; rintro e w' ⟨rfl, hb⟩))
        go_ret
        exact ⟨rfl, hb⟩
      · have e3 := down_pos a n (by omega)
        clear hlt hj ha
        go_wp2_with (first
          | (go_at_call 24; refine (bin_any _ _ _ _ (by decide) (by decide)).mono ?_; rintro e w' ⟨rfl, rfl⟩)
          | (go_at_call 13; refine (known_any _ ht).mono ?_; rintro e w' ⟨rfl, hb⟩))
        go_ret
        exact ⟨rfl, hb⟩
end Go.Proofs.YtpbjlnlkegefjaaDoor
