/-
  Contracts of package octet: GetRun, Words, Bytes, Signed, Plain.
-/
import Derived.Test.YtmjelcoljmefeaaOPkg
namespace Go.Proofs.Ytmjelcoljmefeaa
open Go.RowKit
set_option maxHeartbeats 400000

theorem leN_two_lt (l : List UInt8) (h : l.length ≤ 2) : leN l ≤ 65535 := by
  have h1 := leN_lt l
  have h2 : (256 : Nat) ^ l.length ≤ 256 ^ 2 := Nat.pow_le_pow_right (by omega) h
  omega
theorem runN_le (l : List UInt8) (a : Nat) : runN l a ≤ 65535 := leN_two_lt _ (by simp; omega)
theorem grE_out {l : List UInt8} {a : Int} (h : ¬ (0 ≤ a ∧ a ≤ l.length)) : grE l a = 1 := if_neg h
theorem grE_short {l : List UInt8} {a : Nat} (h : a ≤ l.length) (h2 : ¬ (a + 2 + runN l a ≤ l.length)) : grE l (a : Int) = 2 := by
  unfold grE; rw [if_pos ⟨by omega, by omega⟩, if_neg (by rw [Int.toNat_natCast]; omega)]
theorem grE_ok {l : List UInt8} {a : Nat} (h2 : a + 2 + runN l a ≤ l.length) : grE l (a : Int) = 0 := by
  unfold grE; rw [if_pos ⟨by omega, by omega⟩, if_pos (by rw [Int.toNat_natCast]; omega)]
theorem grL_bad {l : List UInt8} {a : Int} (h : grE l a ≠ 0) : grL l a = [] := if_neg h
theorem grT_bad {l : List UInt8} {a : Int} (h : grE l a ≠ 0) : grT l a = 0 := if_neg h
theorem grL_ok {l : List UInt8} {a : Nat} (h : grE l (a : Int) = 0) : grL l (a : Int) = (l.drop (a + 2)).take (runN l a) := if_pos h
theorem grT_ok {l : List UInt8} {a : Nat} (h : grE l (a : Int) = 0) : grT l (a : Int) = a + 2 + runN l a := if_pos h
theorem cs8_cut (l : List UInt8) (a b : Nat) : ((cs8 l).drop a).take b = cs8 ((l.drop a).take b) := by simp [cs8]

end Go.Proofs.Ytmjelcoljmefeaa
