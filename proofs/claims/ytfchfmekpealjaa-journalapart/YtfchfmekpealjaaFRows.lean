/-
  Contracts of the laws' helpers: rows (a flash of two sectors), Count.
-/
import Derived.Test.YtfchfmekpealjaaFAlike
import Derived.Test.YtfchfmekpealjaaFNil
namespace Go.Proofs.Ytfchfmekpealjaa
open Go.RowKit
set_option maxHeartbeats 400000

def rowW (l : List UInt32) (i : Nat) : UInt32 := if 0 < l.length then l.getD (i % l.length) 0 else word (i * 2654435761)
def rowsL (l : List UInt32) (k : Nat) : List UInt32 := (List.range k).map (rowW l)
theorem rowsL_len (l : List UInt32) (k : Nat) : (rowsL l k).length = k := by simp [rowsL]
theorem rowsL_succ (l : List UInt32) (k : Nat) : rowsL l (k + 1) = rowsL l k ++ [rowW l k] := by simp [rowsL, List.range_succ]
theorem mul_w (j : Nat) : IntKind.u32.wrap ((j : Int) * 2654435761) = ((word (j * 2654435761)).toNat : Int) := by
  rw [word_toNat]; simp only [IntKind.wrap, IntKind.bits, IntKind.signed]; simp
theorem count_lo {a m : Int} (hm : 0 < m) (h : a.tmod m < 0) : a % m = a.tmod m + m := by
  have h1 := Int.tmod_eq_emod (a := a) (b := m)
  have h2 := Int.emod_nonneg a (show m ≠ 0 by omega)
  have h3 := Int.emod_lt_of_pos a hm
  have h4 : (m.natAbs : Int) = m := by omega
  split at h1 <;> omega
theorem count_hi {a m : Int} (hm : 0 < m) (h : ¬ a.tmod m < 0) : a % m = a.tmod m := by
  have h1 := Int.tmod_eq_emod (a := a) (b := m)
  have h2 := Int.emod_nonneg a (show m ≠ 0 by omega)
  have h3 := Int.emod_lt_of_pos a hm
  have h4 : (m.natAbs : Int) = m := by omega
  split at h1 <;> omega
def cntN (a : Int) (m : Nat) : Nat := (a % (m : Int)).toNat
theorem cntN_lt (a : Int) {m : Nat} (hm : 0 < m) : cntN a m < m := by
  unfold cntN
  have := Int.emod_lt_of_pos a (show (0 : Int) < m by omega)
  have := Int.emod_nonneg a (show (m : Int) ≠ 0 by omega)
  omega
theorem Count_any (a : Int) (n : Nat) (w : World) (hm : 0 < n) (hm2 : n ≤ 512) :
    Calls Try.prog 23 #[.int .i64 a, .int .i64 (n : Int)] w fun e w' => e = .returned (.int .i64 (cntN a n : Int)) ∧ w = w' := by
  obtain ⟨m, hmn⟩ : ∃ m : Int, m = n := ⟨_, rfl⟩
  rw [← hmn]
  have hm3 : 0 < m := by omega
  have hm4 : m ≤ 512 := by omega
  have HC := hide (show cntN a n = (a % m).toNat by rw [hmn]; rfl)
  clear hmn
  have hlo := Int.emod_nonneg a (show m ≠ 0 by omega)
  have hhi := Int.emod_lt_of_pos a hm3
  by_cases h : a.tmod m < 0
  · have he := count_lo hm3 h
    have hw : wrap64 (a.tmod m + m) = a % m := by rw [← he]; unfold wrap64; omega
    clear he
    go_enter Try.func23, Try.ntmps23
    go_wp2
    go_ret
    exact ⟨ret_int (by rw [HC.out]; omega), rfl⟩
  · have HE := hide (count_hi hm3 h)
    have hd : decide (a.tmod m < 0) = false := by simpa using h
    go_enter Try.func23, Try.ntmps23
    go_wp2
    go_ret
    exact ⟨ret_int (by rw [HC.out]; have := HE.out; omega), rfl⟩
theorem Count_512 (a : Int) (w : World) : Calls Try.prog 23 #[.int .i64 a, .int .i64 512] w fun e w' => e = .returned (.int .i64 (cntN a 512 : Int)) ∧ w = w' := Count_any a 512 w (by omega) (by omega)
theorem Count_2 (a : Int) (w : World) : Calls Try.prog 23 #[.int .i64 a, .int .i64 2] w fun e w' => e = .returned (.int .i64 (cntN a 2 : Int)) ∧ w = w' := Count_any a 2 w (by omega) (by omega)
end Go.Proofs.Ytfchfmekpealjaa
