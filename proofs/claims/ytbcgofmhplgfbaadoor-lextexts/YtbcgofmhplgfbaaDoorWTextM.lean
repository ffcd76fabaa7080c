/-
  Numerals and what is read of them, as plain lists of bytes: the library's parser and the document's own loop give back the number that was written. No program stands in this file.
-/
import Derived.Test.YtbcgofmhplgfbaaDoorWDigits
import Derived.Lib.ParseIntBTie
namespace Go.Proofs.YtbcgofmhplgfbaaDoor
open Go.RowKit

theorem dig_nat {m : Nat} (h : m < 10) : (dig m).toNat = 48 + m := by
  have := dig_toNat h
  omega
theorem dec_ne (u : Nat) : Lib.decDigits u ≠ [] := by
  intro h
  have := congrArg List.length h
  rw [Lib.decDigits_length] at this
  have := Lib.nDigits_pos u
  simp at *
  omega
/-- One digit more. -/
theorem parse_step (M acc d : Nat) (r : List UInt8) (hd : d < 10) (hM : M ≤ 4294967295) (h : acc * 10 + d ≤ M) :
    Lib.parseUintM M acc (dig d :: r) = Lib.parseUintM M (acc * 10 + d) r := by
  have e := dig_nat hd
  rw [Lib.parseUintM, if_pos (by omega), if_neg (by omega), if_neg (by omega)]
  congr 1
  omega
theorem parse_dec (M : Nat) (hM : M ≤ 4294967295) : ∀ (u acc : Nat) (r : List UInt8), acc * 10 ^ Lib.nDigits u + u ≤ M →
    Lib.parseUintM M acc (Lib.decDigits u ++ r) = Lib.parseUintM M (acc * 10 ^ Lib.nDigits u + u) r := by
  intro u
  induction u using Nat.strongRecOn with
  | _ u ih =>
    intro acc r h
    by_cases hs : u < 10
    · rw [Lib.nDigits_small hs] at h ⊢
      rw [dec_small hs, List.singleton_append, parse_step M acc u r hs hM (by simpa using h)]
    · rw [Lib.nDigits_big hs, Nat.pow_succ, ← Nat.mul_assoc] at h ⊢
      rw [dec_big (by omega), List.append_assoc, ih (u / 10) (by omega) acc _ (by omega), List.singleton_append, parse_step M _ _ r (by omega) hM (by omega)]
      congr 1
      omega
theorem parseU_dec (u : Nat) (h : u ≤ 4294967295) : Lib.parseUintB 32 (Lib.decDigits u) = .ok u := by
  unfold Lib.parseUintB
  rw [if_neg (dec_ne u)]
  have := parse_dec (2 ^ 32 - 1) (by decide) u 0 [] (by simpa using h)
  rw [List.append_nil] at this
  rw [this]
  simp [Lib.parseUintM]
theorem dec_head (u : Nat) : ∃ (d : Nat) (r : List UInt8), d < 10 ∧ Lib.decDigits u = dig d :: r := by
  induction u using Nat.strongRecOn with
  | _ u ih =>
    by_cases hs : u < 10
    · exact ⟨u, [], hs, dec_small hs⟩
    · obtain ⟨d, r, hd, e⟩ := ih (u / 10) (by omega)
      exact ⟨d, r ++ [dig (u % 10)], hd, by rw [dec_big (by omega), e]; rfl⟩
theorem parse_itoa {a : Int} (h1 : -2147483648 ≤ a) (h2 : a ≤ 2147483647) : Lib.parseIntB 32 (Lib.itoa a) = .ok a := by
  by_cases h : a < 0
  · rw [itoa_neg h]
    unfold Lib.parseIntB
    have e : (45 : UInt8).toNat = 45 := rfl
    simp only [e, or_true, if_true, parseU_dec a.natAbs (by omega), not_true_eq_false, false_and, if_false, true_and]
    rw [if_neg (by omega)]
    congr 1
    omega
  · rw [itoa_pos h]
    obtain ⟨d, r, hd, e⟩ := dec_head a.natAbs
    have hn := dig_nat hd
    have hp := parseU_dec a.natAbs (by omega)
    rw [e] at hp ⊢
    unfold Lib.parseIntB
    have n1 : ¬ (dig d).toNat = 45 := by omega
    have n2 : ¬ (dig d).toNat = 43 := by omega
    simp only [n1, n2, or_self, if_false, hp, not_false_eq_true, true_and, false_and]
    rw [if_neg (by omega)]
    congr 1
    omega
theorem itoa_inj {a b : Int} (a1 : -2147483648 ≤ a) (a2 : a ≤ 2147483647) (b1 : -2147483648 ≤ b) (b2 : b ≤ 2147483647) (h : Lib.itoa a = Lib.itoa b) : a = b := by
  have e1 := parse_itoa a1 a2
  rw [h, parse_itoa b1 b2] at e1
  injection e1 with e1
  exact e1.symm

/-- What the document's loop gathers: digits alone count. -/
def gather : Nat → List UInt8 → Nat
  | acc, [] => acc
  | acc, c :: r => gather (if 48 ≤ c.toNat ∧ c.toNat ≤ 57 then 10 * acc + (c.toNat - 48) else acc) r
theorem gather_append (l r : List UInt8) : ∀ acc, gather acc (l ++ r) = gather (gather acc l) r := by
  induction l with
  | nil => intro acc; rfl
  | cons c l ih => intro acc; exact ih _
theorem gather_lt : ∀ (l : List UInt8) (acc k : Nat), acc < 10 ^ k → gather acc l < 10 ^ (k + l.length) := by
  intro l
  induction l with
  | nil => intro acc k h; simpa [gather] using h
  | cons c l ih =>
    intro acc k h
    have := ih (if 48 ≤ c.toNat ∧ c.toNat ≤ 57 then 10 * acc + (c.toNat - 48) else acc) (k + 1) (by rw [Nat.pow_succ]; split <;> omega)
    rw [List.length_cons, show k + (l.length + 1) = k + 1 + l.length by omega]
    exact this
theorem gather_dig (acc d : Nat) (h : d < 10) : gather acc [dig d] = 10 * acc + d := by
  have e := dig_nat h
  show (if 48 ≤ (dig d).toNat ∧ (dig d).toNat ≤ 57 then 10 * acc + ((dig d).toNat - 48) else acc) = _
  rw [if_pos (by omega)]
  omega
theorem gather_dec : ∀ u : Nat, gather 0 (Lib.decDigits u) = u := by
  intro u
  induction u using Nat.strongRecOn with
  | _ u ih =>
    by_cases hs : u < 10
    · rw [dec_small hs, gather_dig _ _ hs]; omega
    · rw [dec_big (by omega), gather_append, ih (u / 10) (by omega), gather_dig _ _ (by omega)]; omega
theorem gather_itoa (a : Int) : gather 0 (Lib.itoa a) = a.natAbs := by
  by_cases h : a < 0
  · rw [itoa_neg h]; exact gather_dec _
  · rw [itoa_pos h]; exact gather_dec _
theorem itoa_length {a : Int} (h1 : -2147483648 ≤ a) (h2 : a ≤ 2147483647) : (Lib.itoa a).length ≤ 11 := by
  have := nDigits_le (m := a.natAbs) (by omega)
  by_cases h : a < 0
  · rw [itoa_neg h, List.length_cons, Lib.decDigits_length]; omega
  · rw [itoa_pos h, Lib.decDigits_length]; omega
theorem itoa_head_neg {a : Int} (h : a < 0) : (Lib.itoa a).head? = some 45 := by rw [itoa_neg h]; rfl
theorem itoa_head_pos {a : Int} (h : ¬ a < 0) : ∃ c r, Lib.itoa a = c :: r ∧ c.toNat ≠ 45 := by
  obtain ⟨d, r, hd, e⟩ := dec_head a.natAbs
  exact ⟨dig d, r, by rw [itoa_pos h, e], by rw [dig_nat hd]; omega⟩
end Go.Proofs.YtbcgofmhplgfbaaDoor
