/-
  Plain mathematics of the digest's bytes. No program stands in this file.
-/
import Derived.Test.YtfbboiagfjkgcaaDoorSMem
namespace Go.Proofs.YtfbboiagfjkgcaaDoor

theorem be4_get (x : UInt32) (i : Nat) (hi : i < 4) : (be4 x)[i]? = some (byt (x.toNat / 256 ^ (3 - i))) := by
  unfold be4
  rw [List.getElem?_reverse (by rw [leB_len]; exact hi), leB_len]
  simp [leB, show 4 - 1 - i < 4 by omega]
theorem laid_get : ∀ (s : List UInt32) (i : Nat), i < 4 * s.length → (laidL s)[i]? = some (byt ((nth s (i / 4)).toNat / 256 ^ (3 - i % 4)))
  | [], i, h => by simp at h
  | x :: r, i, h => by
    have e : laidL (x :: r) = be4 x ++ laidL r := rfl
    rw [e]
    by_cases hi : i < 4
    · rw [List.getElem?_append_left (by rw [be4_len]; exact hi), be4_get x i hi, show i / 4 = 0 by omega, show i % 4 = i by omega]
      rfl
    · rw [List.getElem?_append_right (by rw [be4_len]; omega), be4_len, laid_get r (i - 4) (by simp at h; omega), show (i - 4) % 4 = i % 4 by omega]
      obtain ⟨k, hk⟩ : ∃ k, i / 4 = k + 1 := ⟨i / 4 - 1, by omega⟩
      rw [hk, show (i - 4) / 4 = k by omega]
      rfl
end Go.Proofs.YtfbboiagfjkgcaaDoor
