/-
  Contracts of the laws' helpers: rows (a flash of two sectors), Count.
-/
import Derived.Test.YtahnfkoakaimhaaFAlike
import Derived.Test.YtahnfkoakaimhaaFNil
namespace Go.Proofs.Ytahnfkoakaimhaa
open Go.RowKit
set_option maxHeartbeats 400000

def rowW (l : List UInt32) (i : Nat) : UInt32 := if 0 < l.length then l.getD (i % l.length) 0 else word (i * 2654435761)
def rowsL (l : List UInt32) (k : Nat) : List UInt32 := (List.range k).map (rowW l)
theorem rowsL_len (l : List UInt32) (k : Nat) : (rowsL l k).length = k := by simp [rowsL]
theorem rowsL_succ (l : List UInt32) (k : Nat) : rowsL l (k + 1) = rowsL l k ++ [rowW l k] := by simp [rowsL, List.range_succ]
theorem mul_w (j : Nat) : IntKind.u32.wrap ((j : Int) * 2654435761) = ((word (j * 2654435761)).toNat : Int) := by
  rw [word_toNat]; simp only [IntKind.wrap, IntKind.bits, IntKind.signed]; simp
theorem count_lo {a m : Int} (hm : 0 < m) (h : a.tmod m < 0) : a % m = a.tmod m + m := by
  have h1 := Int.tmod_eq_emod (a := a) (b := m)
  have h2 := Int.emod_nonneg a (show m ≠ 0 by omega)
  have h3 := Int.emod_lt_of_pos a hm
  have h4 : (m.natAbs : Int) = m := by omega
  split at h1 <;> omega
theorem count_hi {a m : Int} (hm : 0 < m) (h : ¬ a.tmod m < 0) : a % m = a.tmod m := by
  have h1 := Int.tmod_eq_emod (a := a) (b := m)
  have h2 := Int.emod_nonneg a (show m ≠ 0 by omega)
  have h3 := Int.emod_lt_of_pos a hm
  have h4 : (m.natAbs : Int) = m := by omega
  split at h1 <;> omega
def cntN (a : Int) (m : Nat) : Nat := (a % (m : Int)).toNat
theorem cntN_lt (a : Int) {m : Nat} (hm : 0 < m) : cntN a m < m := by
  unfold cntN
  have := Int.emod_lt_of_pos a (show (0 : Int) < m by omega)
  have := Int.emod_nonneg a (show (m : Int) ≠ 0 by omega)
  omega
end Go.Proofs.Ytahnfkoakaimhaa
