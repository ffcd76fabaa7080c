/-
  Plain mathematics of a flash: its words, its power and its planned failure; what each call does to it. No program stands in this file.
-/
import Derived.Test.YtahnfkoakaimhaaOMem
namespace Go.Proofs.Ytahnfkoakaimhaa
open Go.RowKit

def ones32 : UInt32 := 4294967295
def s256 : UInt32 := 256
theorem s256_toNat : s256.toNat = 256 := rfl
theorem ones32_toNat : ones32.toNat = 4294967295 := rfl
/-- A flash: its words, whether the power is on, how many operations were done, and how many are left ahead of the failure, with its mask. -/
structure FS where
  ws : List UInt32
  on : Bool
  ops : Nat
  plan : Option (Nat × UInt32)
/-- k words made ones from place a on. -/
def fillW (ws : List UInt32) (a : Nat) : Nat → List UInt32
  | 0 => ws
  | k + 1 => (fillW ws a k).set (a + k) ones32
/-- A word of which bits are cleared as far as a mask says. -/
def pw (old w m : UInt32) : UInt32 := old &&& ~~~(~~~w &&& m)
def refE (on : Bool) (n : Int) (cnt : Nat) : Int := if on = true then (if 0 ≤ n ∧ n < cnt then 0 else 10) else 7
def cntB (n : Int) : Bool := decide (1 ≤ n ∧ n ≤ 16)
def planE : Option (Nat × UInt32) → Int
  | some (0, _) => 7
  | _ => 0
def opS (s : FS) (eff : UInt32 → List UInt32) (whole : UInt32) : FS :=
  match s.plan with
  | some (0, m) => ⟨eff m, false, s.ops, none⟩
  | some (k + 1, m) => ⟨eff whole, s.on, s.ops + 1, some (k, m)⟩
  | none => ⟨eff whole, s.on, s.ops + 1, none⟩
theorem opS_none (ws : List UInt32) (on : Bool) (ops : Nat) (eff : UInt32 → List UInt32) (whole : UInt32) : opS ⟨ws, on, ops, none⟩ eff whole = ⟨eff whole, on, ops + 1, none⟩ := rfl
theorem opS_torn (ws : List UInt32) (on : Bool) (ops : Nat) (m : UInt32) (eff : UInt32 → List UInt32) (whole : UInt32) : opS ⟨ws, on, ops, some (0, m)⟩ eff whole = ⟨eff m, false, ops, none⟩ := rfl
theorem opS_more (ws : List UInt32) (on : Bool) (ops k : Nat) (m : UInt32) (eff : UInt32 → List UInt32) (whole : UInt32) : opS ⟨ws, on, ops, some (k + 1, m)⟩ eff whole = ⟨eff whole, on, ops + 1, some (k, m)⟩ := rfl
def proW (ws : List UInt32) (a : Nat) (w m : UInt32) : List UInt32 := ws.set a (pw (ws.getD a 0) w m)
def eraW (ws : List UInt32) (a : Nat) (m : UInt32) : List UInt32 := fillW ws a (m.toNat % 257)
def proE (s : FS) (a : Int) : Int := if refE s.on a s.ws.length = 0 then planE s.plan else refE s.on a s.ws.length
def proS (s : FS) (a : Int) (w : UInt32) : FS := if refE s.on a s.ws.length = 0 then opS s (proW s.ws a.toNat w) ones32 else s
def eraE (s : FS) (n : Int) : Int := if refE s.on n (s.ws.length / 256) = 0 then planE s.plan else refE s.on n (s.ws.length / 256)
def eraS (s : FS) (n : Int) : FS := if refE s.on n (s.ws.length / 256) = 0 then opS s (eraW s.ws (256 * n.toNat)) s256 else s
def reaV (s : FS) (a : Int) : UInt32 := if refE s.on a s.ws.length = 0 then s.ws.getD a.toNat 0 else 0
def cutE (n : Int) : Int := if 0 ≤ n then 0 else 1
def cutS (s : FS) (n : Int) (m : UInt32) : FS := if 0 ≤ n then ⟨s.ws, s.on, s.ops, some (n.toNat, m)⟩ else s
def staS (s : FS) : FS := ⟨s.ws, true, s.ops, s.plan⟩
def ofS (ws : List UInt32) : FS := ⟨ws, true, 0, none⟩
def leftN : Option (Nat × UInt32) → Nat
  | some (k, _) => k
  | none => 0
def maskP : Option (Nat × UInt32) → UInt32
  | some (_, m) => m
  | none => 0
def planB : Option (Nat × UInt32) → Bool
  | some _ => true
  | none => false
/-- Whole sectors, from 1 to 16, and a plan that a number can hold. -/
structure FS.Ok (s : FS) : Prop where
  len : ∃ k, 1 ≤ k ∧ k ≤ 16 ∧ s.ws.length = 256 * k
  left : leftN s.plan ≤ 9223372036854775807
theorem fillW_len (ws : List UInt32) (a k : Nat) : (fillW ws a k).length = ws.length := by
  induction k with
  | zero => rfl
  | succ k ih => rw [fillW, List.length_set, ih]
theorem fillW_at (ws : List UInt32) (a k i : Nat) : (fillW ws a k)[i]? = if a ≤ i ∧ i < a + k ∧ i < ws.length then some ones32 else ws[i]? := by
  induction k with
  | zero => rw [fillW, if_neg (by omega)]
  | succ k ih =>
    rw [fillW, List.getElem?_set, fillW_len, ih]
    by_cases h : a + k = i
    · by_cases hl : a + k < ws.length
      · rw [if_pos h, if_pos hl, if_pos (by omega)]
      · rw [if_pos h, if_neg hl, if_neg (by omega), List.getElem?_eq_none (by omega)]
    · rw [if_neg h]
      by_cases h2 : a ≤ i ∧ i < a + k ∧ i < ws.length
      · rw [if_pos h2, if_pos (by omega)]
      · rw [if_neg h2, if_neg (by omega)]
theorem proW_len (ws : List UInt32) (a : Nat) (w m : UInt32) : (proW ws a w m).length = ws.length := by rw [proW, List.length_set]
theorem eraW_len (ws : List UInt32) (a : Nat) (m : UInt32) : (eraW ws a m).length = ws.length := fillW_len _ _ _
theorem opS_len (s : FS) (eff : UInt32 → List UInt32) (whole : UInt32) (h : ∀ m, (eff m).length = s.ws.length) : (opS s eff whole).ws.length = s.ws.length := by
  unfold opS; split <;> exact h _
theorem opS_left (s : FS) (eff : UInt32 → List UInt32) (whole : UInt32) : leftN (opS s eff whole).plan ≤ leftN s.plan := by
  unfold opS; split
  · exact Nat.zero_le _
  · rename_i h; rw [h]; exact Nat.le_succ _
  · exact Nat.zero_le _
theorem proS_len (s : FS) (a : Int) (w : UInt32) : (proS s a w).ws.length = s.ws.length := by
  unfold proS; split
  · exact opS_len _ _ _ (fun m => proW_len _ _ _ _)
  · rfl
theorem eraS_len (s : FS) (n : Int) : (eraS s n).ws.length = s.ws.length := by
  unfold eraS; split
  · exact opS_len _ _ _ (fun m => eraW_len _ _ _)
  · rfl
theorem FS.Ok.opS {s : FS} (h : s.Ok) (eff : UInt32 → List UInt32) (whole : UInt32) (he : ∀ m, (eff m).length = s.ws.length) : (opS s eff whole).Ok :=
  ⟨by rw [opS_len _ _ _ he]; exact h.len, Nat.le_trans (opS_left _ _ _) h.left⟩
theorem FS.Ok.proS {s : FS} (h : s.Ok) (a : Int) (w : UInt32) : (proS s a w).Ok := by
  unfold Go.Proofs.Ytahnfkoakaimhaa.proS; split
  · exact h.opS _ _ (fun m => proW_len _ _ _ _)
  · exact h
theorem FS.Ok.eraS {s : FS} (h : s.Ok) (n : Int) : (eraS s n).Ok := by
  unfold Go.Proofs.Ytahnfkoakaimhaa.eraS; split
  · exact h.opS _ _ (fun m => eraW_len _ _ _)
  · exact h
theorem FS.Ok.cutS {s : FS} (h : s.Ok) (n : Int) (m : UInt32) (hn : n ≤ 9223372036854775807) : (cutS s n m).Ok := by
  unfold Go.Proofs.Ytahnfkoakaimhaa.cutS; split
  · exact ⟨h.len, by show n.toNat ≤ _; omega⟩
  · exact h
theorem FS.Ok.staS {s : FS} (h : s.Ok) : (staS s).Ok := ⟨h.len, h.left⟩
theorem opS_ops (s : FS) (eff : UInt32 → List UInt32) (whole : UInt32) : (opS s eff whole).ops ≤ s.ops + 1 := by
  unfold opS; split
  · exact Nat.le_succ _
  · exact Nat.le_refl _
  · exact Nat.le_refl _
theorem proS_ops (s : FS) (a : Int) (w : UInt32) : (proS s a w).ops ≤ s.ops + 1 := by
  unfold proS; split
  · exact opS_ops _ _ _
  · exact Nat.le_succ _
theorem eraS_ops (s : FS) (n : Int) : (eraS s n).ops ≤ s.ops + 1 := by
  unfold eraS; split
  · exact opS_ops _ _ _
  · exact Nat.le_succ _
theorem cutS_ops (s : FS) (n : Int) (m : UInt32) : (cutS s n m).ops = s.ops := by unfold cutS; split <;> rfl
-- words as numbers, and bit by bit
def iU (a : UInt32) : UInt32 := ~~~a
def nU (a b : UInt32) : UInt32 := a &&& b
def dU (a b : UInt32) : UInt32 := a &&& ~~~b
theorem iU_toNat (a : UInt32) : (iU a).toNat = 4294967295 - a.toNat := by
  unfold iU; rw [UInt32.toNat_not]; have := a.toNat_lt; simp [UInt32.size]
theorem pw_is (old w m : UInt32) : dU old (nU (iU w) m) = pw old w m := rfl
/-- Bits below i that are 0 in w, and 1 in m, are cleared. -/
def pb (n w m : Nat) : Nat → Nat
  | 0 => n
  | i + 1 => if w / 2 ^ i % 2 = 0 ∧ pb n w m i / 2 ^ i % 2 = 1 ∧ m / 2 ^ i % 2 = 1 then pb n w m i - 2 ^ i else pb n w m i
theorem bit_is (x i : Nat) : x.testBit i = decide (x / 2 ^ i % 2 = 1) := Nat.testBit_eq_decide_div_mod_eq
theorem sub_bit (x i j : Nat) (h : x / 2 ^ i % 2 = 1) : (x - 2 ^ i).testBit j = (x.testBit j && decide (j ≠ i)) := by
  have hx : 2 ^ i ≤ x := by
    rcases Nat.lt_or_ge x (2 ^ i) with hl | hl
    · rw [Nat.div_eq_of_lt hl] at h; omega
    · exact hl
  obtain ⟨y, rfl⟩ : ∃ y, x = 2 ^ i + y := ⟨x - 2 ^ i, by omega⟩
  rw [Nat.add_sub_cancel_left]
  have hb : (2 ^ i + y).testBit i = true := by rw [bit_is]; simpa using h
  rcases Nat.lt_trichotomy j i with hj | rfl | hj
  · rw [Nat.testBit_two_pow_add_gt hj]; simp; omega
  · rw [Nat.testBit_two_pow_add_eq] at hb ⊢
    simp at hb
    simp [hb]
  · have hy : y.testBit i = false := by rw [Nat.testBit_two_pow_add_eq] at hb; simpa using hb
    have h0 : y / 2 ^ i % 2 = 0 := by rw [bit_is] at hy; simp at hy; omega
    have hp : 0 < 2 ^ i := Nat.pow_pos (by omega)
    have e : (2 ^ i + y) / 2 ^ (i + 1) = y / 2 ^ (i + 1) := by
      rw [Nat.pow_succ, ← Nat.div_div_eq_div_mul, ← Nat.div_div_eq_div_mul, Nat.add_div_left _ hp]
      omega
    obtain ⟨d, rfl⟩ : ∃ d, j = i + 1 + d := ⟨j - (i + 1), by omega⟩
    rw [bit_is, bit_is, Nat.pow_add 2 (i + 1) d, ← Nat.div_div_eq_div_mul, ← Nat.div_div_eq_div_mul, e]
    simp; omega
theorem pb_bit (n w m i j : Nat) : (pb n w m i).testBit j = (n.testBit j && !(decide (j < i) && !w.testBit j && m.testBit j)) := by
  induction i with
  | zero => simp [pb]
  | succ i ih =>
    rw [pb]
    have hi := ih
    split
    · rename_i h
      rw [sub_bit _ _ _ h.2.1, ih]
      by_cases hj : j = i
      · subst hj
        have h1 : w.testBit j = false := by rw [bit_is]; simp; omega
        have h2 : m.testBit j = true := by rw [bit_is]; simpa using h.2.2
        simp [h1, h2]
      · have : decide (j < i + 1) = decide (j < i) := by simp; omega
        rw [this]; simp [hj]
    · rename_i h
      rw [ih]
      by_cases hj : j = i
      · subst hj
        have h3 : (pb n w m j).testBit j = n.testBit j := by rw [ih]; simp
        simp only [Nat.lt_irrefl, decide_false, Bool.false_and, Bool.not_false, Bool.and_true, Nat.lt_succ_self, decide_true, Bool.true_and]
        rcases hn : n.testBit j with _ | _
        · rfl
        · rw [hn, bit_is] at h3
          rcases hw : w.testBit j with _ | _
          · rcases hm : m.testBit j with _ | _
            · rfl
            · rw [bit_is] at hw hm
              simp at hw hm h3
              omega
          · rfl
      · have : decide (j < i + 1) = decide (j < i) := by simp; omega
        rw [this]
theorem pb_le (n w m i : Nat) : pb n w m i ≤ n := by
  induction i with
  | zero => exact Nat.le_refl _
  | succ i ih =>
    rw [pb]; split
    · exact Nat.le_trans (Nat.sub_le _ _) ih
    · exact ih
theorem pb_pw (old w m : UInt32) : pb old.toNat w.toNat m.toNat 32 = (pw old w m).toNat := by
  apply Nat.eq_of_testBit_eq
  intro j
  rw [pb_bit]
  unfold pw
  rw [UInt32.toNat_and, Nat.testBit_and]
  by_cases hj : j < 32
  · congr 1
    show _ = BitVec.getLsbD (~~~(~~~w.toBitVec &&& m.toBitVec)) j
    rw [BitVec.getLsbD_not, BitVec.getLsbD_and, BitVec.getLsbD_not]
    show (!(decide (j < 32) && !w.toBitVec.getLsbD j && m.toBitVec.getLsbD j)) = _
    simp [hj]
  · have : old.toNat.testBit j = false := Nat.testBit_lt_two_pow (Nat.lt_of_lt_of_le old.toNat_lt (Nat.pow_le_pow_right (by omega) (by omega)))
    simp [this]
end Go.Proofs.Ytahnfkoakaimhaa
