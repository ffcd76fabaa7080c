/-
  Plain mathematics of the checksum: the register's step as a linear map of numbers below 2^32, runs of bits, and what follows from it. No program stands in this file.
-/
import Derived.Test.YtahnfkoakaimhaaOMath
namespace Go.Proofs.Ytahnfkoakaimhaa

/-- The register behind one bit 0. -/
def tr (r : Nat) : Nat := if r % 2 = 1 then (r / 2) ^^^ 3988292384 else r / 2
/-- The register behind the lowest m bits of x, the lowest first. -/
def run (r : Nat) : Nat → Nat → Nat
  | 0, _ => r
  | m + 1, x => run (tr (r ^^^ (x % 2))) m (x / 2)
/-- All bits turned. -/
def inv (r : Nat) : Nat := 4294967295 - r
/-- The register behind bytes. -/
def reg (r : Nat) (l : List UInt8) : Nat := run r (8 * l.length) (leN l)
def crcOn (s : Nat) (l : List UInt8) : Nat := inv (reg (inv s) l)

theorem x_div (a b : Nat) : (a ^^^ b) / 2 = (a / 2) ^^^ (b / 2) := by
  have := Nat.shiftRight_xor_distrib (a := a) (b := b) (i := 1)
  simpa [Nat.shiftRight_eq_div_pow] using this
theorem x_mod (a b : Nat) : (a ^^^ b) % 2 = (a % 2) ^^^ (b % 2) := by
  have := Nat.xor_mod_two_pow (a := a) (b := b) (n := 1)
  simpa using this
theorem x_lt {a b : Nat} (ha : a < 4294967296) (hb : b < 4294967296) : a ^^^ b < 4294967296 := Nat.xor_lt_two_pow (n := 32) ha hb
theorem bit_cases (a : Nat) : a % 2 = 0 ∨ a % 2 = 1 := by omega
theorem x4 (a b c d : Nat) : (a ^^^ b) ^^^ (c ^^^ d) = (a ^^^ c) ^^^ (b ^^^ d) := by
  rw [Nat.xor_assoc, Nat.xor_assoc, ← Nat.xor_assoc b c d, Nat.xor_comm b c, Nat.xor_assoc c b d]
theorem tr_x (a b : Nat) : tr (a ^^^ b) = tr a ^^^ tr b := by
  unfold tr
  rw [x_mod, x_div]
  generalize a / 2 = p
  generalize b / 2 = q
  rcases bit_cases a with ha | ha <;> rcases bit_cases b with hb | hb <;> rw [ha, hb] <;> simp
  · rw [Nat.xor_assoc]
  · rw [Nat.xor_assoc, Nat.xor_assoc, Nat.xor_comm q]
  · rw [x4]; simp
theorem tr_zero : tr 0 = 0 := rfl
theorem tr_lt {r : Nat} (h : r < 4294967296) : tr r < 4294967296 := by
  unfold tr
  split
  · exact x_lt (by omega) (by omega)
  · omega
theorem tr_none {r : Nat} (h : r < 4294967296) (h0 : tr r = 0) : r = 0 := by
  unfold tr at h0
  split at h0
  · have : r / 2 = 3988292384 := by
      have h1 : r / 2 = (r / 2 ^^^ 3988292384) ^^^ 3988292384 := by rw [Nat.xor_assoc]; simp
      rw [h1, h0]; simp
    omega
  · omega
theorem run_zero (m : Nat) : run 0 m 0 = 0 := by
  induction m with
  | zero => rfl
  | succ m ih => rw [run]; exact ih
theorem run_lt (m : Nat) : ∀ r x, r < 4294967296 → run r m x < 4294967296 := by
  induction m with
  | zero => intro r x h; exact h
  | succ m ih => intro r x h; rw [run]; exact ih _ _ (tr_lt (x_lt h (by omega)))
/-- Runs are linear. -/
theorem run_x (m : Nat) : ∀ r s x y, run (r ^^^ s) m (x ^^^ y) = run r m x ^^^ run s m y := by
  induction m with
  | zero => intro r s x y; rfl
  | succ m ih =>
    intro r s x y
    rw [run, run, run, x_mod, x_div, x4, tr_x, ih]
theorem run_add (a : Nat) : ∀ b r x, run r (a + b) x = run (run r a x) b (x / 2 ^ a) := by
  induction a with
  | zero => intro b r x; simp [run]
  | succ a ih =>
    intro b r x
    rw [Nat.succ_add, run, run, ih, Nat.div_div_eq_div_mul, Nat.pow_succ, Nat.mul_comm (2 ^ a) 2]
theorem run_low (a : Nat) : ∀ r x y, x % 2 ^ a = y % 2 ^ a → run r a x = run r a y := by
  induction a with
  | zero => intro r x y _; rfl
  | succ a ih =>
    intro r x y h
    have e : (2 : Nat) ^ (a + 1) = 2 * 2 ^ a := by rw [Nat.pow_succ, Nat.mul_comm]
    rw [e] at h
    have h1 : x % 2 = y % 2 := by rw [← Nat.mod_mul_right_mod x 2 (2 ^ a), h, Nat.mod_mul_right_mod]
    have h2 : x / 2 % 2 ^ a = y / 2 % 2 ^ a := by rw [Nat.mod_mul_right_div_self x 2 (2 ^ a) |>.symm, h, Nat.mod_mul_right_div_self]
    rw [run, run, h1, ih _ _ _ h2]
/-- From unlike registers the same bits lead to unlike ones. -/
theorem x_eq {a b : Nat} (h : a ^^^ b = 0) : a = b := by
  have h1 : (a ^^^ b) ^^^ b = a := by rw [Nat.xor_assoc]; simp
  rw [h] at h1; simpa using h1.symm
theorem run_none (m : Nat) : ∀ r, r < 4294967296 → run r m 0 = 0 → r = 0 := by
  induction m with
  | zero => intro r _ h; exact h
  | succ m ih =>
    intro r hr h
    rw [run, show (0 : Nat) % 2 = 0 from rfl, show (0 : Nat) / 2 = 0 from rfl, Nat.xor_zero] at h
    exact tr_none hr (ih _ (tr_lt hr) h)
theorem run_inj {m r s x : Nat} (hr : r < 4294967296) (hs : s < 4294967296) (h : run r m x = run s m x) : r = s := by
  have h1 := run_x m r s x x
  rw [h, Nat.xor_self, Nat.xor_self] at h1
  exact x_eq (run_none m _ (x_lt hr hs) h1)
/-- A run over fewer than 2^32 of m bits. -/
def trN (m : Nat) (r : Nat) : Nat := run r m 0
theorem trN_succ (m r : Nat) : trN (m + 1) r = trN m (tr r) := by unfold trN; rw [run]; simp
theorem tr_even {x : Nat} : tr (x ^^^ (x % 2)) = x / 2 := by
  rw [tr_x]
  rcases bit_cases x with h | h
  · rw [h]; unfold tr; rw [if_neg (by omega)]; simp
  · rw [h]; unfold tr; rw [if_pos h]; simp [Nat.xor_assoc]
theorem run_is (m : Nat) : ∀ r x, x < 2 ^ m → run r m x = trN m (r ^^^ x) := by
  induction m with
  | zero => intro r x h; obtain rfl : x = 0 := by simpa using h
            simp [run, trN]
  | succ m ih =>
    intro r x h
    rw [run, ih _ _ (by rw [Nat.pow_succ] at h; omega), trN_succ]
    congr 1
    have h1 : tr (r ^^^ x) = tr ((r ^^^ (x % 2)) ^^^ (x ^^^ (x % 2))) := by
      rw [x4, Nat.xor_self, Nat.xor_zero]
    rw [h1, tr_x (r ^^^ (x % 2)), tr_even]
theorem trN_none {m r : Nat} (hr : r < 4294967296) (h : trN m r = 0) : r = 0 := run_none m r hr h
/-- A burst is seen. -/
theorem run_burst {m k e : Nat} (he : e < 4294967296) (hm : e < 2 ^ m) (h0 : e ≠ 0) : run 0 (k + m) (e * 2 ^ k) ≠ 0 := by
  rw [run_add, run_low k 0 (e * 2 ^ k) 0 (by simp), run_zero, Nat.mul_div_cancel _ (Nat.pow_pos (by omega)), run_is m 0 e hm, Nat.zero_xor]
  exact fun h => h0 (trN_none he h)

-- bytes
theorem reg_nil (r : Nat) : reg r [] = r := rfl
theorem reg_cons (r : Nat) (c : UInt8) (l : List UInt8) : reg r (c :: l) = reg (run r 8 c.toNat) l := by
  have hc := c.toNat_lt
  unfold reg
  rw [List.length_cons, leN, show 8 * (l.length + 1) = 8 + 8 * l.length by omega, run_add]
  rw [show (c.toNat + 256 * leN l) / 2 ^ 8 = leN l by omega, run_low 8 r (c.toNat + 256 * leN l) c.toNat (by omega)]
theorem reg_app (r : Nat) (l m : List UInt8) : reg r (l ++ m) = reg (reg r l) m := by
  induction l generalizing r with
  | nil => rfl
  | cons c l ih => rw [List.cons_append, reg_cons, ih, reg_cons]
theorem reg_lt {r : Nat} (l : List UInt8) (h : r < 4294967296) : reg r l < 4294967296 := run_lt _ _ _ h
theorem inv_lt (r : Nat) : inv r < 4294967296 := by unfold inv; omega
theorem inv_inv {r : Nat} (h : r < 4294967296) : inv (inv r) = r := by unfold inv; omega
theorem inv_inj {r s : Nat} (hr : r < 4294967296) (hs : s < 4294967296) (h : inv r = inv s) : r = s := by unfold inv at h; omega
theorem inv_x {r : Nat} (h : r < 4294967296) : inv r = r ^^^ 4294967295 := by
  have h1 := BitVec.xor_allOnes (x := BitVec.ofNat 32 r)
  have h2 := congrArg BitVec.toNat h1
  rw [BitVec.toNat_xor, BitVec.toNat_not, BitVec.toNat_allOnes, BitVec.toNat_ofNat, Nat.mod_eq_of_lt (by omega)] at h2
  unfold inv
  have e : (2 : Nat) ^ 32 - 1 = 4294967295 := rfl
  rw [e] at h2
  omega
theorem crcOn_lt (s : Nat) (l : List UInt8) : crcOn s l ≤ 4294967295 := by unfold crcOn inv; omega
theorem crcOn_app {s : Nat} (l m : List UInt8) : crcOn (crcOn s l) m = crcOn s (l ++ m) := by
  unfold crcOn
  rw [inv_inv (reg_lt l (inv_lt s)), reg_app]
theorem crcOn_inj {s t : Nat} (l : List UInt8) (hs : s < 4294967296) (ht : t < 4294967296) (h : crcOn s l = crcOn t l) : s = t := by
  unfold crcOn at h
  have h1 := inv_inj (reg_lt l (inv_lt s)) (reg_lt l (inv_lt t)) h
  exact inv_inj hs ht (run_inj (inv_lt s) (inv_lt t) h1)
end Go.Proofs.Ytahnfkoakaimhaa
