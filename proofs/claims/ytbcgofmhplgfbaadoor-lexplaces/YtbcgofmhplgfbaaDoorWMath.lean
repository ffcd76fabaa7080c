/-
  Plain arithmetic of 32-bit numbers: what each operation of layer 1 gives, as functions on integers. No program stands in this file.
-/
import Derived.WalkKit
import Derived.ProofKit
import Derived.Laws.Shifts
import Derived.Laws.BitsAllLaws
namespace Go.Proofs.YtbcgofmhplgfbaaDoor
open Go.RowKit

def quoV (a b : Int) : Int := if b = 0 then 0 else wrap32 (a.tdiv b)
def remV (a b : Int) : Int := wrap32 (a - wrap32 (b * quoV a b))
def shlV (a b : Int) : Int := wrap32 (a * 2 ^ (b % 32).toNat)
def shrV (a b : Int) : Int := a / 2 ^ (b % 32).toNat
def truV (p : Bool) : Int := if p then 1 else 0
/-- What Bin gives for an operation. -/
def binV (op a b : Int) : Int :=
  if op = 1 then wrap32 (a + b) else if op = 2 then wrap32 (a - b) else if op = 3 then wrap32 (a * b)
  else if op = 4 then quoV a b else if op = 5 then remV a b else if op = 6 then shlV a b else if op = 7 then shrV a b
  else if op = 8 then bits .and .i32 a b else if op = 9 then bits .or .i32 a b else if op = 10 then bits .xor .i32 a b
  else if op = 11 then truV (a == b) else if op = 12 then truV (a != b) else if op = 13 then truV (decide (a < b))
  else if op = 14 then truV (decide (a ≤ b)) else if op = 15 then truV (decide (b < a)) else if op = 16 then truV (decide (b ≤ a)) else 0
/-- Whether it is an operation. -/
def binB (op : Int) : Bool := decide (1 ≤ op ∧ op ≤ 16)
/-- What Un gives, and whether it is an operation. -/
def unV (op a : Int) : Int := if op = 1 then wrap32 (-a) else if op = 2 then truV (a == 0) else 0
def unB (op : Int) : Bool := decide (op = 1 ∨ op = 2)

theorem sh_eq (b : Int) : bits .and .u32 (b % 4294967296) 31 = b % 32 := by
  rw [u32_and _ _ (by omega) (by omega) (by omega) (by omega)]
  have : (31 : Int).toNat = 31 := rfl
  rw [this, show (31 : Nat) = 2 ^ 5 - 1 from rfl, Nat.and_two_pow_sub_one_eq_mod]
  omega

theorem le_eq (a b : Int) (h : (a == b) = true) : (1 : Int) = truV (decide (a ≤ b)) := by
  have : a = b := by simpa using h
  simp [truV, this]
theorem le_ne (a b : Int) (h : (a == b) = false) : truV (decide (a < b)) = truV (decide (a ≤ b)) := by
  have : a ≠ b := by simpa using h
  congr 1
  rw [decide_eq_decide]
  omega
theorem ge_eq (a b : Int) (h : (a == b) = true) : (1 : Int) = truV (decide (b ≤ a)) := by
  have : a = b := by simpa using h
  simp [truV, this]
theorem ge_ne (a b : Int) (h : (a == b) = false) : truV (decide (b < a)) = truV (decide (b ≤ a)) := by
  have : a ≠ b := by simpa using h
  congr 1
  rw [decide_eq_decide]
  omega
theorem ret_int {k : IntKind} {a b : Int} (h : a = b) : Ending.returned (.int k a) = .returned (.int k b) := by rw [h]
theorem ret_two {k : IntKind} {a b : Int} {p q : Bool} (h : a = b) (g : p = q) : Ending.returned (.tuple #[.int k a, .bool p]) = .returned (.tuple #[.int k b, .bool q]) := by rw [h, g]
end Go.Proofs.YtbcgofmhplgfbaaDoor
