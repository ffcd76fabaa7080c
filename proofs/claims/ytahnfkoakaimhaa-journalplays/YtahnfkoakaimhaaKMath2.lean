/-
  Plain mathematics of the checksum: sealing and opening, turned bits, exclusive ors of bytes. No program stands in this file.
-/
import Derived.Test.YtahnfkoakaimhaaKMath
namespace Go.Proofs.Ytahnfkoakaimhaa

def sealL (l : List UInt8) : List UInt8 := l ++ leB 4 (crcOn 0 l)
def opB (l : List UInt8) : Bool := leN (l.drop (l.length - 4)) == crcOn 0 (l.take (l.length - 4))
def opE (l : List UInt8) : Int := if l.length < 4 then 2 else if opB l = true then 0 else 5
def opL (l : List UInt8) : List UInt8 := if opE l = 0 then l.take (l.length - 4) else []

theorem sealL_len (l : List UInt8) : (sealL l).length = l.length + 4 := by unfold sealL; rw [List.length_append, leB_len]
theorem crc256 (l : List UInt8) : crcOn 0 l < 256 ^ 4 := by have := crcOn_lt 0 l; omega
theorem opE_short {l : List UInt8} (h : l.length < 4) : opE l = 2 := if_pos h
theorem opE_ok {l : List UInt8} (h : ¬ l.length < 4) (h2 : opB l = true) : opE l = 0 := by unfold opE; rw [if_neg h, if_pos h2]
theorem opE_bad {l : List UInt8} (h : ¬ l.length < 4) (h2 : opB l = false) : opE l = 5 := by unfold opE; rw [if_neg h, if_neg (by rw [h2]; decide)]
theorem opL_ok {l : List UInt8} (h : opE l = 0) : opL l = l.take (l.length - 4) := if_pos h
theorem opL_bad {l : List UInt8} (h : opE l ≠ 0) : opL l = [] := if_neg h
theorem opL_len (l : List UInt8) : (opL l).length ≤ l.length := by
  unfold opL
  split
  · simp
  · simp
/-- The document's own test. -/
theorem opB_seal {l : List UInt8} (h : ¬ l.length < 4) : (sealL (l.take (l.length - 4)) == l) = opB l := by
  rw [Bool.eq_iff_iff, beq_iff_eq, opB, beq_iff_eq]
  have hd : (l.drop (l.length - 4)).length = 4 := by simp; omega
  have hs : l.take (l.length - 4) ++ l.drop (l.length - 4) = l := List.take_append_drop _ _
  generalize l.take (l.length - 4) = t at hs ⊢
  generalize l.drop (l.length - 4) = d at hs hd ⊢
  subst hs
  unfold sealL
  rw [List.append_cancel_left_eq]
  constructor
  · intro h1; rw [← h1, leN_leB, Nat.mod_eq_of_lt (crc256 t)]
  · intro h1; rw [← h1, ← hd, leB_leN]
theorem opB_sealed (l : List UInt8) : opB (sealL l) = true := by
  rw [← opB_seal (by rw [sealL_len]; omega), sealL_len, Nat.add_sub_cancel, show (sealL l).take l.length = l from List.take_left' rfl, beq_iff_eq]
theorem opE_sealed (l : List UInt8) : opE (sealL l) = 0 := opE_ok (by rw [sealL_len]; omega) (opB_sealed l)
theorem opL_sealed (l : List UInt8) : opL (sealL l) = l := by
  rw [opL_ok (opE_sealed l), sealL_len, Nat.add_sub_cancel]; exact List.take_left' rfl
/-- What is opened leaves one register. -/
theorem reg_open {l : List UInt8} (h : ¬ l.length < 4) (h2 : opB l = true) : reg 4294967295 l = trN 32 4294967295 := by
  have hd : (l.drop (l.length - 4)).length = 4 := by simp; omega
  rw [opB, beq_iff_eq] at h2
  rw [show l = l.take (l.length - 4) ++ l.drop (l.length - 4) from (List.take_append_drop _ _).symm, reg_app]
  generalize l.take (l.length - 4) = t at h2 ⊢
  generalize l.drop (l.length - 4) = d at h2 hd ⊢
  have hr := reg_lt t (show 4294967295 < 4294967296 by omega)
  have hN := leN_lt d
  rw [hd] at hN
  have h3 : leN d = reg 4294967295 t ^^^ 4294967295 := by rw [h2, crcOn, show inv 0 = 4294967295 from rfl, inv_x hr]
  rw [reg, hd, run_is _ _ _ (by omega), h3, ← Nat.xor_assoc, Nat.xor_self, Nat.zero_xor]
/-- Turned bits within 32 are told. -/
theorem open_turned {b s : List UInt8} {k e : Nat} (hl : s.length = b.length + 4) (hx : leN s = leN (sealL b) ^^^ e <<< k) (hk : k ≤ 8 * s.length) (he : e < 4294967296) (hm : e < 2 ^ (8 * s.length - k)) (h0 : e ≠ 0) :
    opE s = 5 := by
  have h4 : ¬ s.length < 4 := by omega
  refine opE_bad h4 ?_
  rcases hb : opB s with _ | _
  · rfl
  · exfalso
    have h1 := reg_open h4 hb
    have h2 := reg_open (by rw [sealL_len]; omega) (opB_sealed b)
    have h3 : reg 4294967295 s = reg 4294967295 (sealL b) ^^^ run 0 (8 * s.length) (e <<< k) := by
      unfold reg
      rw [sealL_len, ← hl, hx, ← run_x, Nat.xor_zero]
    rw [h1, h2] at h3
    have h5 : run 0 (8 * s.length) (e <<< k) = 0 := by
      have h6 : trN 32 4294967295 ^^^ trN 32 4294967295 = trN 32 4294967295 ^^^ (trN 32 4294967295 ^^^ run 0 (8 * s.length) (e <<< k)) := by rw [← h3]
      rw [← Nat.xor_assoc, Nat.xor_self, Nat.zero_xor] at h6
      exact h6.symm
    rw [Nat.shiftLeft_eq, show 8 * s.length = k + (8 * s.length - k) by omega] at h5
    exact run_burst he hm h0 h5
-- exclusive ors
theorem x_split {a b : Nat} (ha : a < 256) (hb : b < 256) (x y : Nat) : (a + 256 * x) ^^^ (b + 256 * y) = (a ^^^ b) + 256 * (x ^^^ y) := by
  have h1 := Nat.xor_mod_two_pow (a := a + 256 * x) (b := b + 256 * y) (n := 8)
  have h2 := Nat.shiftRight_xor_distrib (a := a + 256 * x) (b := b + 256 * y) (i := 8)
  simp only [Nat.shiftRight_eq_div_pow] at h2
  rw [show (a + 256 * x) % 2 ^ 8 = a by omega, show (b + 256 * y) % 2 ^ 8 = b by omega] at h1
  rw [show (a + 256 * x) / 2 ^ 8 = x by omega, show (b + 256 * y) / 2 ^ 8 = y by omega] at h2
  omega
def xl (a b : List UInt8) : List UInt8 := List.zipWith (· ^^^ ·) a b
theorem xl_len (a b : List UInt8) (h : a.length = b.length) : (xl a b).length = b.length := by simp [xl]; omega
theorem leN_xl : ∀ (a b : List UInt8), a.length = b.length → leN (xl a b) = leN a ^^^ leN b
  | [], [], _ => rfl
  | c :: a, d :: b, h => by
    have ih := leN_xl a b (by simpa using h)
    unfold xl at ih ⊢
    rw [List.zipWith_cons_cons, leN, leN, leN, ih, UInt8.toNat_xor, x_split c.toNat_lt d.toNat_lt]
theorem sum_linear (a b c : List UInt8) (hab : a.length = b.length) (hbc : b.length = c.length) : crcOn 0 (xl (xl a b) c) = crcOn 0 a ^^^ crcOn 0 b ^^^ crcOn 0 c := by
  have hl : (xl (xl a b) c).length = c.length := xl_len _ _ (by rw [xl_len _ _ hab]; exact hbc)
  have e : reg 4294967295 (xl (xl a b) c) = reg 4294967295 a ^^^ reg 4294967295 b ^^^ reg 4294967295 c := by
    unfold reg
    rw [hl, leN_xl _ _ (by rw [xl_len _ _ hab]; exact hbc), leN_xl _ _ hab, hab, hbc, ← run_x, ← run_x]
    simp
  have ha := reg_lt a (show 4294967295 < 4294967296 by omega)
  have hb := reg_lt b (show 4294967295 < 4294967296 by omega)
  have hc := reg_lt c (show 4294967295 < 4294967296 by omega)
  unfold crcOn
  rw [show inv 0 = 4294967295 from rfl, e, inv_x ha, inv_x hb, inv_x hc, inv_x (x_lt (x_lt ha hb) hc), x4 (reg 4294967295 a), Nat.xor_self, Nat.xor_zero, Nat.xor_assoc _ _ 4294967295]
/-- One bit of bytes is turned. -/
theorem leN_flip : ∀ (l : List UInt8) (p q : Nat) (h : p < l.length) (x : UInt8), q < 8 → x.toNat = l[p].toNat ^^^ 2 ^ q → leN (l.set p x) = leN l ^^^ 2 ^ (8 * p + q)
  | c :: l, 0, q, _, x, hq, hx => by
    have h2 : (2 : Nat) ^ q < 2 ^ 8 := Nat.pow_lt_pow_right (by omega) hq
    have h1 := x_split c.toNat_lt (by simpa using h2) (leN l) 0
    simp only [List.getElem_cons_zero] at hx
    rw [List.set_cons_zero, leN, leN, hx, show 8 * 0 + q = q by omega]
    simpa using h1.symm
  | c :: l, p + 1, q, h, x, hq, hx => by
    have ih := leN_flip l p q (by simpa using h) x hq (by simpa using hx)
    have h1 := x_split c.toNat_lt (show 0 < 256 by omega) (leN l) (2 ^ (8 * p + q))
    rw [List.set_cons_succ, leN, leN, ih, show 8 * (p + 1) + q = 8 + (8 * p + q) by omega, Nat.pow_add 2 8 (8 * p + q)]
    simpa using h1.symm
/-- The bits of a burst up to a place. -/
theorem burst_next (x i : Nat) : x % 2 ^ (i + 1) = if x / 2 ^ i % 2 = 1 then x % 2 ^ i ^^^ 2 ^ i else x % 2 ^ i := by
  have h := Nat.mod_mul (x := x) (a := 2 ^ i) (b := 2)
  have hl : x % 2 ^ i < 2 ^ i := Nat.mod_lt _ (Nat.pow_pos (by omega))
  rw [Nat.pow_succ, h]
  split
  · rename_i h1
    rw [h1, Nat.mul_one]
    have h2 := Nat.two_pow_add_eq_or_of_lt hl 1
    have h3 : 2 ^ i ^^^ x % 2 ^ i = 2 ^ i ||| x % 2 ^ i := by
      apply Nat.eq_of_testBit_eq
      intro j
      rw [Nat.testBit_xor, Nat.testBit_or, Nat.testBit_two_pow]
      by_cases hj : i = j
      · subst hj
        rw [Nat.testBit_lt_two_pow hl]; simp
      · simp [hj]
    rw [Nat.xor_comm, h3, Nat.add_comm]
    simpa using h2
  · rename_i h1
    rw [show x / 2 ^ i % 2 = 0 by omega]; simp
theorem burst_set (x i k : Nat) (h : x / 2 ^ i % 2 = 1) : (x % 2 ^ (i + 1)) <<< k = (x % 2 ^ i) <<< k ^^^ 2 ^ (k + i) := by
  rw [burst_next, if_pos h, Nat.shiftLeft_xor_distrib, Nat.shiftLeft_eq (2 ^ i) k, ← Nat.pow_add, Nat.add_comm i k]
theorem burst_not (x i : Nat) (h : x / 2 ^ i % 2 ≠ 1) : x % 2 ^ (i + 1) = x % 2 ^ i := by rw [burst_next, if_neg h]
theorem burst_some (x i : Nat) (h : x / 2 ^ i % 2 = 1) : x % 2 ^ (i + 1) ≠ 0 := by
  have h1 := Nat.mod_mul (x := x) (a := 2 ^ i) (b := 2)
  have hl : 0 < 2 ^ i := Nat.pow_pos (by omega)
  rw [Nat.pow_succ, h1, h, Nat.mul_one]
  omega
theorem leN_inj {l m : List UInt8} (h : l.length = m.length) (h2 : leN l = leN m) : l = m := by rw [← leB_leN l, ← leB_leN m, h, h2]
end Go.Proofs.Ytahnfkoakaimhaa
