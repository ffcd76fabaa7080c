/-
  The document's own Digits gives what the library's numeral is: contract of midstreamref01.Digits.
-/
import Derived.Test.YtbcgofmhplgfbaaDoorWKnown
import Derived.Test.YtbcgofmhplgfbaaDoorWRef
import Derived.LoopTactic
import Derived.Lib.ItoaNum
import Derived.Laws.IdiomStrings
import Derived.Laws.Concat
namespace Go.Proofs.YtbcgofmhplgfbaaDoor
open Go.RowKit
set_option maxHeartbeats 400000
/-- The byte of a digit. -/
def dig (m : Nat) : UInt8 := UInt8.ofNat (48 + m)
theorem dig_toNat {m : Nat} (h : m < 10) : ((dig m).toNat : Int) = 48 + (m : Int) := by
  unfold dig
  rw [UInt8.toNat_ofNat_of_lt' (by simp [UInt8.size]; omega)]
  omega
theorem dec_small {m : Nat} (h : m < 10) : Lib.decDigits m = [dig m] := Lib.decDigits_one h
theorem dec_big {m : Nat} (h : 9 < m) : Lib.decDigits m = Lib.decDigits (m / 10) ++ [dig (m % 10)] := by
  rw [Lib.decDigits, dif_neg (by omega)]; rfl
theorem nDigits_le {m : Nat} (h : m ≤ 2147483648) : Lib.nDigits m ≤ 10 := by
  by_cases h0 : m = 0
  · subst h0; rw [Lib.nDigits_small (by decide)]; decide
  · apply Nat.le_of_not_lt
    intro hc
    have key : ∀ k u : Nat, k < Lib.nDigits u → 1 ≤ u → 10 ^ k ≤ u := by
      intro k
      induction k with
      | zero => intro u _ hu; simpa using hu
      | succ k ih =>
        intro u hk hu
        by_cases hs : u < 10
        · rw [Lib.nDigits_small hs] at hk; omega
        · rw [Lib.nDigits_big hs] at hk
          have := ih (u / 10) (by omega) (by omega)
          rw [Nat.pow_succ]
          omega
    have := key 10 m hc (by omega)
    omega
theorem conv_dig (W : World) (m : Nat) (h : m < 10) (n : Int) (hn : n = 48 + (m : Int)) :
    (convert 41 9 (.slice (some ⟨W.heap.size, 0, none⟩) 1 1)).run Tryd.prog (W.alloc (.cells #[.int .u8 n] 5)) = .ok (.string ⟨#[dig m]⟩) (W.alloc (.cells #[.int .u8 n] 5)) := by
  refine run_convert_bytes_back (W.alloc (.cells #[.int .u8 n] 5)) 41 9 5 ⟨W.heap.size, 0, none⟩ 1 [dig m] Tryd.underlying41 Tryd.underlying5 Tryd.underlying9 ?_
  intro j hj
  obtain rfl : j = 0 := by simpa using hj
  simp only [List.getElem_cons_zero, dig_toNat h, ← hn]
  simp [go_sem, Addr.add]
theorem str_cons (c : UInt8) (t : List UInt8) : (⟨#[c]⟩ : ByteArray) ++ ⟨t.toArray⟩ = ⟨(c :: t).toArray⟩ := by
  rw [ByteArray.mk_append_mk]; simp
theorem itoa_neg {a : Int} (h : a < 0) : Lib.itoa a = 45 :: Lib.decDigits a.natAbs := if_pos h
theorem itoa_pos {a : Int} (h : ¬ a < 0) : Lib.itoa a = Lib.decDigits a.natAbs := by
  unfold Lib.itoa; rw [if_neg h]; congr 1; omega
theorem ret_str {s t : ByteArray} (h : s = t) : Ending.returned (.string s) = .returned (.string t) := by rw [h]
end Go.Proofs.YtbcgofmhplgfbaaDoor
