/-
  Plain arithmetic behind the document's own answers for layer 1: remainders, powers of two, bits counted one by one. No program stands in this file.
-/
import Derived.Test.YtbcgofmhplgfbaaDoorWBv
namespace Go.Proofs.YtbcgofmhplgfbaaDoor
open Go.RowKit

/-- A power of two, kept whole. -/
def p2 (k : Nat) : Int := 2 ^ k
theorem p2_succ (k : Nat) : 2 * p2 k = p2 (k + 1) := by unfold p2; rw [Int.pow_succ, Int.mul_comm]
theorem p2_nat (k : Nat) : p2 k = ((2 ^ k : Nat) : Int) := by unfold p2; simp
theorem p2_pos (k : Nat) : 1 ≤ p2 k := by rw [p2_nat]; have := Nat.two_pow_pos k; omega
theorem p2_le {k m : Nat} (h : k ≤ m) : p2 k ≤ p2 m := by
  rw [p2_nat, p2_nat]; exact Int.ofNat_le.2 (Nat.pow_le_pow_right (by decide) h)
theorem p2_31 {k : Nat} (h : k ≤ 31) : p2 k ≤ 2147483648 := p2_le h
theorem p2_61 {k : Nat} (h : k ≤ 61) : p2 k ≤ 2305843009213693952 := p2_le h

/-- Which bits are kept: of both, of one, of just one. -/
def opN (kind : Int) (X Y : Nat) : Nat := if kind = 1 then X ||| Y else if kind = 2 then X ^^^ Y else X &&& Y
def opB (kind : Int) (p q : Bool) : Bool := if kind = 1 then p || q else if kind = 2 then p != q else p && q
theorem opN_bit (kind : Int) (X Y i : Nat) : (opN kind X Y).testBit i = opB kind (X.testBit i) (Y.testBit i) := by
  unfold opN opB
  split
  · simp
  · split
    · simp
    · simp
theorem opN_lt (kind : Int) {X Y : Nat} (hX : X < 2 ^ 32) (hY : Y < 2 ^ 32) : opN kind X Y < 2 ^ 32 := by
  unfold opN
  split
  · exact Nat.or_lt_two_pow hX hY
  · split
    · exact Nat.xor_lt_two_pow hX hY
    · exact Nat.and_lt_two_pow _ hY
/-- What has been gathered from the lowest bits. -/
def acc (Z i : Nat) : Int := ((Z % 2 ^ i : Nat) : Int)
theorem acc_zero (Z : Nat) : acc Z 0 = 0 := by unfold acc; simp [Nat.mod_one]
theorem acc_ge (Z i : Nat) : 0 ≤ acc Z i := by unfold acc; omega
theorem acc_lt (Z : Nat) {i : Nat} (h : i ≤ 32) : acc Z i ≤ 4294967295 := by
  unfold acc
  have h1 : Z % 2 ^ i < 2 ^ i := Nat.mod_lt _ (Nat.two_pow_pos i)
  have h2 : 2 ^ i ≤ 2 ^ 32 := Nat.pow_le_pow_right (by decide) h
  omega
theorem bitN1 {X i : Nat} (h : X.testBit i = true) : X / 2 ^ i % 2 = 1 := by
  rw [Nat.testBit_eq_decide_div_mod_eq] at h
  simpa using h
theorem bitN0 {X i : Nat} (h : X.testBit i = false) : X / 2 ^ i % 2 = 0 := by
  rw [Nat.testBit_eq_decide_div_mod_eq] at h
  have : ¬ X / 2 ^ i % 2 = 1 := by simpa using h
  omega
theorem acc_succ1 {Z i : Nat} (h : Z.testBit i = true) : acc Z (i + 1) = acc Z i + p2 i := by
  unfold acc; rw [p2_nat, Nat.pow_succ, Nat.mod_mul, bitN1 h]; omega
theorem acc_succ0 {Z i : Nat} (h : Z.testBit i = false) : acc Z (i + 1) = acc Z i := by
  unfold acc; rw [Nat.pow_succ, Nat.mod_mul, bitN0 h]; omega
theorem acc_end {Z : Nat} (h : Z < 2 ^ 32) : acc Z 32 = (Z : Int) := by unfold acc; rw [Nat.mod_eq_of_lt h]
theorem bit1 {X i : Nat} (h : X.testBit i = true) : ((X : Int) / p2 i) % 2 = 1 := by
  rw [p2_nat]
  have := bitN1 h
  omega
theorem bit0 {X i : Nat} (h : X.testBit i = false) : ((X : Int) / p2 i) % 2 = 0 := by
  rw [p2_nat]
  have := bitN0 h
  omega
/-- A number's 32 bits as a natural number. -/
def nat32 (a : Int) : Nat := (a % 4294967296).toNat
theorem nat32_lt (a : Int) : nat32 a < 2 ^ 32 := by unfold nat32; omega
theorem nat32_cast (a : Int) : (nat32 a : Int) = a % 4294967296 := by unfold nat32; omega
theorem bv_nat (a : Int) : (bv a).toNat = nat32 a := by rw [bv, BitVec.toNat_ofInt]; rfl
theorem bv_of_nat (v : BitVec 32) : wrap32 (v.toNat : Int) = v.toInt := by
  rw [← wrap_toNat, IntKind.wrap_i32]; unfold wrap32; rfl
theorem wrap_op0 (a b : Int) : wrap32 (opN 0 (nat32 a) (nat32 b) : Nat) = binV 8 a b := by
  rw [binV8, ← bv_of_nat, BitVec.toNat_and, bv_nat, bv_nat]; rfl
theorem wrap_op1 (a b : Int) : wrap32 (opN 1 (nat32 a) (nat32 b) : Nat) = binV 9 a b := by
  rw [binV9, ← bv_of_nat, BitVec.toNat_or, bv_nat, bv_nat]; rfl
theorem wrap_op2 (a b : Int) : wrap32 (opN 2 (nat32 a) (nat32 b) : Nat) = binV 10 a b := by
  rw [binV10, ← bv_of_nat, BitVec.toNat_xor, bv_nat, bv_nat]; rfl

theorem tmod_lo (n : Int) (h : n < 0) : -4294967296 < n.tmod 4294967296 ∧ n.tmod 4294967296 ≤ 0 ∧ (n.tmod 4294967296 + 2147483648) % 4294967296 = (n + 2147483648) % 4294967296 := by
  have h1 := Int.tmod_add_mul_tdiv n 4294967296
  have h2 := Int.natAbs_tmod n 4294967296
  have h3 : (4294967296 : Int).natAbs = 4294967296 := rfl
  rw [h3] at h2
  have h4 : n.natAbs % 4294967296 < 4294967296 := Nat.mod_lt _ (by decide)
  have h5 := Int.tmod_nonneg 4294967296 (show 0 ≤ -n by omega)
  rw [Int.neg_tmod] at h5
  omega
theorem wrap_eq {n m : Int} (h1 : -2147483648 ≤ m) (h2 : m ≤ 2147483647) (h : (m + 2147483648) % 4294967296 = (n + 2147483648) % 4294967296) : m = wrap32 n := by
  unfold wrap32; omega
theorem tdiv_size (a b : Int) : a.tdiv b = if (decide (a < 0) != decide (b < 0)) = true then -((a.natAbs : Int) / (b.natAbs : Int)) else (a.natAbs : Int) / (b.natAbs : Int) := by
  by_cases ha : a < 0 <;> by_cases hb : b < 0
  · obtain ⟨m, hm⟩ := Int.eq_ofNat_of_zero_le (show 0 ≤ -a by omega)
    obtain rfl : a = -(m : Int) := by omega
    obtain ⟨k, hk⟩ := Int.eq_ofNat_of_zero_le (show 0 ≤ -b by omega)
    obtain rfl : b = -(k : Int) := by omega
    rw [if_neg (by rw [decide_eq_true ha, decide_eq_true hb]; decide), Int.neg_tdiv, Int.tdiv_neg, Int.neg_neg, Int.natAbs_neg, Int.natAbs_neg, Int.natAbs_natCast, Int.natAbs_natCast]
    rfl
  · obtain ⟨m, hm⟩ := Int.eq_ofNat_of_zero_le (show 0 ≤ -a by omega)
    obtain rfl : a = -(m : Int) := by omega
    obtain ⟨k, rfl⟩ := Int.eq_ofNat_of_zero_le (show 0 ≤ b by omega)
    rw [if_pos (by rw [decide_eq_true ha, decide_eq_false hb]; decide), Int.neg_tdiv, Int.natAbs_neg, Int.natAbs_natCast, Int.natAbs_natCast]
    rfl
  · obtain ⟨m, rfl⟩ := Int.eq_ofNat_of_zero_le (show 0 ≤ a by omega)
    obtain ⟨k, hk⟩ := Int.eq_ofNat_of_zero_le (show 0 ≤ -b by omega)
    obtain rfl : b = -(k : Int) := by omega
    rw [if_pos (by rw [decide_eq_false ha, decide_eq_true hb]; decide), Int.tdiv_neg, Int.natAbs_neg, Int.natAbs_natCast, Int.natAbs_natCast]
    rfl
  · obtain ⟨m, rfl⟩ := Int.eq_ofNat_of_zero_le (show 0 ≤ a by omega)
    obtain ⟨k, rfl⟩ := Int.eq_ofNat_of_zero_le (show 0 ≤ b by omega)
    rw [if_neg (by rw [decide_eq_false ha, decide_eq_false hb]; decide), Int.natAbs_natCast, Int.natAbs_natCast]
    rfl
/-- The cut quotient, 0 by 0. -/
def overV (a b : Int) : Int := if b = 0 then 0 else a.tdiv b
theorem overV_same {a b : Int} (h0 : b ≠ 0) (h : decide (a < 0) = decide (b < 0)) : overV a b = (a.natAbs : Int) / (b.natAbs : Int) := by
  unfold overV
  rw [if_neg h0, tdiv_size, if_neg (by rw [h]; simp)]
theorem overV_diff {a b : Int} (h0 : b ≠ 0) (h : decide (a < 0) = !decide (b < 0)) : overV a b = -((a.natAbs : Int) / (b.natAbs : Int)) := by
  unfold overV
  rw [if_neg h0, tdiv_size, if_pos (by rw [h]; simp)]
theorem overV_bd {a b : Int} (h1 : -2147483648 ≤ a) (h2 : a ≤ 2147483647) : -2147483648 ≤ overV a b ∧ overV a b ≤ 2147483648 := by
  unfold overV
  have h0 : (a.tdiv b).natAbs = a.natAbs / b.natAbs := Int.natAbs_tdiv a b
  have h3 : a.natAbs / b.natAbs ≤ a.natAbs := Nat.div_le_self _ _
  generalize a.natAbs / b.natAbs = d at h0 h3
  split <;> omega
theorem tdiv_bd {a b : Int} (h1 : -2147483648 ≤ a) (h2 : a ≤ 2147483647) : -2147483648 ≤ a.tdiv b ∧ a.tdiv b ≤ 2147483648 := by
  have h0 : (a.tdiv b).natAbs = a.natAbs / b.natAbs := Int.natAbs_tdiv a b
  have h3 : a.natAbs / b.natAbs ≤ a.natAbs := Nat.div_le_self _ _
  generalize a.natAbs / b.natAbs = d at h0 h3
  omega
theorem size_bd {a b : Int} (h1 : -2147483648 ≤ a) (h2 : a ≤ 2147483647) : 0 ≤ (a.natAbs : Int) / (b.natAbs : Int) ∧ (a.natAbs : Int) / (b.natAbs : Int) ≤ 2147483648 := by
  have h3 : a.natAbs / b.natAbs ≤ a.natAbs := Nat.div_le_self _ _
  rw [← Int.natCast_ediv]
  generalize a.natAbs / b.natAbs = d at h3
  omega
/-- The remainder by the plain quotient. -/
theorem rem_plain {a b : Int} : wrap32 (a - overV a b * b) = binV 5 a b := by
  unfold overV
  show _ = wrap32 (a - wrap32 (b * quoV a b))
  unfold quoV
  by_cases h : b = 0
  · simp only [h, if_true, Int.mul_zero, Int.sub_zero, show wrap32 0 = 0 by kernel_rfl]
  · rw [if_neg h, if_neg h, wrap32_bv, wrap32_bv, wrap32_bv, wrap32_bv, bv_sub, bv_sub, bv_toInt, bv_mul, bv_mul, bv_toInt, BitVec.mul_comm]
theorem quo_plain {a b : Int} : wrap32 (overV a b) = binV 4 a b := by
  unfold overV
  show _ = quoV a b
  unfold quoV
  by_cases h : b = 0
  · simp only [h, if_true, show wrap32 0 = 0 by kernel_rfl]
  · rw [if_neg h, if_neg h]
/-- The floor by the cut quotient. -/
theorem floor_lem {a m : Int} (hm : 1 ≤ m) : (a < a.tdiv m * m → a / m = a.tdiv m - 1) ∧ (¬ a < a.tdiv m * m → a / m = a.tdiv m) := by
  have h1 := Int.tmod_add_mul_tdiv a m
  have h2 := Int.mul_ediv_add_emod a m
  have h3 := Int.emod_nonneg a (show m ≠ 0 by omega)
  have h4 := Int.emod_lt_of_pos a (show 0 < m by omega)
  have h5 : (a.tmod m).natAbs < m.natAbs := by rw [Int.natAbs_tmod]; exact Nat.mod_lt _ (by omega)
  have hd : m * (a / m - a.tdiv m) = a.tmod m - a % m := by rw [Int.mul_sub]; omega
  rw [Int.mul_comm (a.tdiv m) m]
  generalize ht : a / m - a.tdiv m = t at hd
  constructor
  · intro h
    have hn : a.tmod m < 0 := by omega
    have : t = -1 := by
      have u1 : m * t < 0 := by omega
      have u2 : -2 * m < m * t := by omega
      have u3 : t < 0 := by
        apply Int.not_le.1; intro c
        have := Int.mul_nonneg (show 0 ≤ m by omega) c
        omega
      have u4 : -2 < t := by
        apply Int.not_le.1; intro c
        have := Int.mul_le_mul_of_nonneg_left c (show 0 ≤ m by omega)
        omega
      omega
    omega
  · intro h
    have hn : 0 ≤ a.tmod m := by omega
    have : t = 0 := by
      have u1 : -m < m * t := by omega
      have u2 : m * t < m := by omega
      have u3 : t < 1 := by
        apply Int.not_le.1; intro c
        have := Int.mul_le_mul_of_nonneg_left c (show 0 ≤ m by omega)
        omega
      have u4 : -1 < t := by
        apply Int.not_le.1; intro c
        have := Int.mul_le_mul_of_nonneg_left c (show 0 ≤ m by omega)
        omega
      omega
    omega
/-- The lowest five bits of a number. -/
def five (b : Int) : Nat := (b % 32).toNat
theorem five_le (b : Int) : five b ≤ 31 := by unfold five; omega
theorem five_eq (b : Int) : (nat32 b : Int) % 32 = (five b : Int) := by rw [nat32_cast]; unfold five; omega
theorem shl_plain (a b : Int) : wrap32 (a * p2 (five b)) = binV 6 a b := rfl
theorem ediv_bd {a m : Int} (h1 : -2147483648 ≤ a) (h2 : a ≤ 2147483647) (hm : 1 ≤ m) : -2147483648 ≤ a / m ∧ a / m ≤ 2147483647 := by
  by_cases h0 : a < 0
  · have h3 : a ≤ a / m := by
      rw [Int.le_ediv_iff_mul_le (by omega)]
      have := Int.mul_nonneg (show 0 ≤ -a by omega) (show 0 ≤ m - 1 by omega)
      rw [Int.mul_sub, Int.neg_mul, Int.mul_one] at this
      omega
    have h5 := Int.ediv_neg_of_neg_of_pos h0 (show 0 < m by omega)
    omega
  · have h3 := Int.ediv_le_self m (show 0 ≤ a by omega)
    have h4 := Int.ediv_nonneg (show 0 ≤ a by omega) (show 0 ≤ m by omega)
    omega
theorem shr_plain {a b : Int} (h : (Lit.int .i32 a).wf = true) : wrap32 (a / p2 (five b)) = binV 7 a b := by
  have h1 := of_wf h
  exact wrap32_self (ediv_bd h1.1 h1.2 (p2_pos _))
theorem mul_bd {a b A B : Int} (h1 : -A ≤ a) (h2 : a ≤ A) (h3 : -B ≤ b) (h4 : b ≤ B) : -(A * B) ≤ a * b ∧ a * b ≤ A * B := by
  have k1 := Int.natAbs_mul a b
  have k2 : a.natAbs * b.natAbs ≤ A.natAbs * B.natAbs := Nat.mul_le_mul (by omega) (by omega)
  have k3 : (A * B).natAbs = A.natAbs * B.natAbs := Int.natAbs_mul A B
  have k4 : 0 ≤ A * B := Int.mul_nonneg (by omega) (by omega)
  omega
end Go.Proofs.YtbcgofmhplgfbaaDoor
