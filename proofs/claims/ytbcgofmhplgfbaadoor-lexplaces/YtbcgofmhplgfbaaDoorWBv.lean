/-
  32-bit numbers as bit vectors: the plain facts behind the laws of sums, products and bits. No program stands in this file.
-/
import Derived.Test.YtbcgofmhplgfbaaDoorWMath
namespace Go.Proofs.YtbcgofmhplgfbaaDoor
open Go.RowKit

theorem bv_ao (x y : BitVec 32) : (x &&& y) + (x ||| y) = x + y := by
  have h1 : x ||| y = x + (y &&& ~~~x) := by
    rw [BitVec.add_eq_or_of_and_eq_zero]
    · ext i; simp; cases x[i] <;> simp
    · ext i; simp; cases x[i] <;> simp
  have h2 : y = (x &&& y) + (y &&& ~~~x) := by
    rw [BitVec.add_eq_or_of_and_eq_zero]
    · ext i; simp; cases x[i] <;> simp
    · ext i; simp; cases x[i] <;> simp
  rw [h1]
  generalize hz : y &&& ~~~x = z at h2 ⊢
  conv => rhs; rw [h2]
  ac_rfl
theorem bv_xo (x y : BitVec 32) : x ^^^ y = (x ||| y) - (x &&& y) := by
  have h1 : x ||| y = (x ^^^ y) + (x &&& y) := by
    rw [BitVec.add_eq_or_of_and_eq_zero]
    · ext i; simp; cases x[i] <;> cases y[i] <;> simp
    · ext i; simp; cases x[i] <;> cases y[i] <;> simp
  rw [h1, BitVec.add_sub_cancel]
/-- A number as 32 bits. -/
def bv (n : Int) : BitVec 32 := BitVec.ofInt 32 n
theorem bv_toInt (v : BitVec 32) : bv v.toInt = v := BitVec.ofInt_toInt
theorem wrap32_bv (n : Int) : wrap32 n = (bv n).toInt := by
  rw [bv, BitVec.toInt_ofInt, Int.bmod_def]
  unfold wrap32
  omega
theorem wrap_toNat (v : BitVec 32) : IntKind.i32.wrap (v.toNat : Int) = v.toInt := by
  rw [IntKind.wrap_i32, BitVec.toInt_eq_toNat_bmod, Int.bmod_def]; omega
theorem of_wf {a : Int} (h : (Lit.int .i32 a).wf = true) : -2147483648 ≤ a ∧ a ≤ 2147483647 := by
  simpa [Lit.wf, IntKind.min, IntKind.max, IntKind.signed, IntKind.bits] using h
theorem wrap32_self {a : Int} (h : -2147483648 ≤ a ∧ a ≤ 2147483647) : wrap32 a = a := by unfold wrap32; omega
theorem bv_self {a : Int} (h : (Lit.int .i32 a).wf = true) : (bv a).toInt = a := by rw [← wrap32_bv, wrap32_self (of_wf h)]
theorem bv_add (a b : Int) : bv (a + b) = bv a + bv b := BitVec.ofInt_add _ _
theorem bv_mul (a b : Int) : bv (a * b) = bv a * bv b := BitVec.ofInt_mul _ _
theorem bv_neg (a : Int) : bv (-a) = - bv a := BitVec.ofInt_neg
theorem bv_sub (a b : Int) : bv (a - b) = bv a - bv b := by rw [Int.sub_eq_add_neg, bv_add, bv_neg, BitVec.sub_eq_add_neg]
theorem and_bv (a b : Int) : bits .and .i32 a b = (bv a &&& bv b).toInt := wrap_toNat _
theorem or_bv (a b : Int) : bits .or .i32 a b = (bv a ||| bv b).toInt := wrap_toNat _
theorem xor_bv (a b : Int) : bits .xor .i32 a b = (bv a ^^^ bv b).toInt := wrap_toNat _
theorem binV1 (a b : Int) : binV 1 a b = (bv a + bv b).toInt := by rw [← bv_add]; exact wrap32_bv _
theorem binV2 (a b : Int) : binV 2 a b = (bv a - bv b).toInt := by rw [← bv_sub]; exact wrap32_bv _
theorem binV3 (a b : Int) : binV 3 a b = (bv a * bv b).toInt := by rw [← bv_mul]; exact wrap32_bv _
theorem binV8 (a b : Int) : binV 8 a b = (bv a &&& bv b).toInt := and_bv a b
theorem binV9 (a b : Int) : binV 9 a b = (bv a ||| bv b).toInt := or_bv a b
theorem binV10 (a b : Int) : binV 10 a b = (bv a ^^^ bv b).toInt := xor_bv a b
theorem unV1 (a : Int) : unV 1 a = (- bv a).toInt := by rw [← bv_neg]; exact wrap32_bv _

-- the laws of bits
theorem bits1 (a b : Int) : (binV 1 (binV 8 a b) (binV 9 a b) == binV 1 a b) = true := by
  rw [beq_iff_eq, binV1, binV1, binV8, binV9, bv_toInt, bv_toInt, bv_ao]
theorem bits2 (a b : Int) : (binV 10 a b == binV 2 (binV 9 a b) (binV 8 a b)) = true := by
  rw [beq_iff_eq, binV2, binV8, binV9, binV10, bv_toInt, bv_toInt, bv_xo]
theorem bits3 (a b : Int) (h : (Lit.int .i32 a).wf = true) : (binV 10 (binV 10 a b) b == a) = true := by
  rw [beq_iff_eq, binV10, binV10, bv_toInt, BitVec.xor_assoc, BitVec.xor_self, BitVec.xor_zero, bv_self h]
theorem bits4 (a b : Int) : (binV 8 (binV 8 a b) a == binV 8 a b) = true := by
  rw [beq_iff_eq, binV8, binV8, bv_toInt]
  congr 1
  ext i; simp; cases (bv a)[i] <;> simp

-- the laws of a ring
theorem ring1 (a b : Int) : (binV 1 a b == binV 1 b a) = true := by rw [beq_iff_eq, binV1, binV1, BitVec.add_comm]
theorem ring2 (a b c : Int) : (binV 1 (binV 1 a b) c == binV 1 a (binV 1 b c)) = true := by
  rw [beq_iff_eq, binV1, binV1, binV1, binV1, bv_toInt, bv_toInt, BitVec.add_assoc]
theorem ring3 (a b : Int) : (binV 3 a b == binV 3 b a) = true := by rw [beq_iff_eq, binV3, binV3, BitVec.mul_comm]
theorem ring4 (a b c : Int) : (binV 3 (binV 3 a b) c == binV 3 a (binV 3 b c)) = true := by
  rw [beq_iff_eq, binV3, binV3, binV3, binV3, bv_toInt, bv_toInt, BitVec.mul_assoc]
theorem ring5 (a b c : Int) : (binV 3 a (binV 1 b c) == binV 1 (binV 3 a b) (binV 3 a c)) = true := by
  rw [beq_iff_eq, binV3, binV1, binV1, binV3, binV3, bv_toInt, bv_toInt, bv_toInt, BitVec.mul_add]
theorem ring6 (a : Int) : (binV 1 a (unV 1 a) == 0) = true := by
  rw [beq_iff_eq, binV1, unV1, bv_toInt, BitVec.add_comm, BitVec.add_left_neg]; rfl
theorem ring7 (a b : Int) : (binV 2 a b == binV 1 a (binV 2 0 b)) = true := by
  rw [beq_iff_eq, binV2, binV1, binV2, bv_toInt, BitVec.sub_eq_add_neg]
  rw [show bv 0 = 0#32 from rfl, BitVec.zero_sub]
theorem ring8 (a : Int) (h : (Lit.int .i32 a).wf = true) : (binV 3 a 1 == a) = true := by
  rw [beq_iff_eq, binV3, show bv 1 = 1#32 from rfl, BitVec.mul_one, bv_self h]
end Go.Proofs.YtbcgofmhplgfbaaDoor
