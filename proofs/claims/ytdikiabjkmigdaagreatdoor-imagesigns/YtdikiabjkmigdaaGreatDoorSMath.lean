/-
  Plain mathematics of the digest: words of 32 bits, rotations, the schedule, the rounds, the padding, digits. No program stands in this file.
-/
import Derived.Test.YtdikiabjkmigdaaGreatDoorOMath
namespace Go.Proofs.YtdikiabjkmigdaaGreatDoor
set_option maxRecDepth 20000

-- words
def aU (a b : UInt32) : UInt32 := a + b
def xU (a b : UInt32) : UInt32 := a ^^^ b
def nU (a b : UInt32) : UInt32 := a &&& b
def oU (a b : UInt32) : UInt32 := a ||| b
def iU (a : UInt32) : UInt32 := word (4294967295 - a.toNat)
def sU (n : Nat) (x : UInt32) : UInt32 := word (x.toNat / 2 ^ n)
def rotN (n x : Nat) : Nat := x / 2 ^ n + x % 2 ^ n * 2 ^ (32 - n)
def rU (n : Nat) (x : UInt32) : UInt32 := word (rotN n x.toNat)

theorem rotN_lt {n x : Nat} (hn : n ≤ 32) (hx : x < 4294967296) : rotN n x < 4294967296 := by
  unfold rotN
  have h1 : x / 2 ^ n < 2 ^ (32 - n) := by
    rw [Nat.div_lt_iff_lt_mul (Nat.two_pow_pos n), ← Nat.pow_add, Nat.sub_add_cancel hn]; omega
  have h2 : x % 2 ^ n + 1 ≤ 2 ^ n := Nat.mod_lt _ (Nat.two_pow_pos n)
  have h3 : (x % 2 ^ n + 1) * 2 ^ (32 - n) ≤ 2 ^ n * 2 ^ (32 - n) := Nat.mul_le_mul_right _ h2
  rw [← Nat.pow_add, Nat.add_sub_cancel' hn, Nat.add_mul, Nat.one_mul] at h3
  omega
theorem rU_toNat {n : Nat} (hn : n ≤ 32) (x : UInt32) : (rU n x).toNat = rotN n x.toNat := by
  unfold rU; rw [word_toNat, Nat.mod_eq_of_lt (rotN_lt hn x.toNat_lt)]
theorem rotN_zero (x : Nat) : rotN 0 x = x := by unfold rotN; simp [Nat.mod_one]
theorem rotN_succ {n x : Nat} (hn : n < 32) : rotN (n + 1) x = rotN n x / 2 + rotN n x % 2 * 2147483648 := by
  unfold rotN
  obtain ⟨k, hk⟩ : ∃ k, 32 - n = k + 1 := ⟨31 - n, by omega⟩
  have hk' : 32 - (n + 1) = k := by omega
  rw [hk', hk, Nat.pow_succ 2 k, Nat.pow_succ 2 n, ← Nat.div_div_eq_div_mul, Nat.mod_mul]
  generalize ha : x / 2 ^ n = a
  generalize x % 2 ^ n = b
  have e1 : b * (2 ^ k * 2) = 2 * (b * 2 ^ k) := by rw [← Nat.mul_assoc, Nat.mul_comm]
  have e2 : 2 ^ n * (a % 2) * 2 ^ k = a % 2 * 2147483648 := by
    rw [Nat.mul_comm (2 ^ n), Nat.mul_assoc, ← Nat.pow_add, show n + k = 31 by omega]
  rw [Nat.add_mul, e2, e1]
  generalize b * 2 ^ k = c
  omega
theorem rotN_or {n x : Nat} (h0 : n ≤ 32) (hx : x < 4294967296) : (x * 2 ^ (32 - n) % 4294967296) ||| (x / 2 ^ n) = rotN n x := by
  have h1 : x / 2 ^ n < 2 ^ (32 - n) := by
    rw [Nat.div_lt_iff_lt_mul (Nat.two_pow_pos n), ← Nat.pow_add, Nat.sub_add_cancel h0]; omega
  have h2 : x * 2 ^ (32 - n) % 4294967296 = x % 2 ^ n * 2 ^ (32 - n) := by
    have : (4294967296 : Nat) = 2 ^ n * 2 ^ (32 - n) := by rw [← Nat.pow_add, Nat.add_sub_cancel' h0]
    rw [this, Nat.mul_mod_mul_right]
  rw [h2]
  have := Nat.shiftLeft_add_eq_or_of_lt h1 (x % 2 ^ n)
  rw [Nat.shiftLeft_eq] at this
  rw [← this, rotN, Nat.add_comm]

-- the block's words
def g0 (x : UInt32) : UInt32 := xU (xU (rU 7 x) (rU 18 x)) (sU 3 x)
def g1 (x : UInt32) : UInt32 := xU (xU (rU 17 x) (rU 19 x)) (sU 10 x)
/-- The word of some bytes, the highest first. -/
def beW (l : List UInt8) : UInt32 := word (leN l.reverse)
def nth (l : List UInt32) (i : Nat) : UInt32 := l.getD i 0
def nextW (w : List UInt32) : UInt32 := aU (aU (aU (nth w (w.length - 16)) (g0 (nth w (w.length - 15)))) (nth w (w.length - 7))) (g1 (nth w (w.length - 2)))
def headW (b : List UInt8) (k : Nat) : List UInt32 := (List.range k).map fun i => beW ((b.drop (4 * i)).take 4)
def extW (w : List UInt32) : Nat → List UInt32
  | 0 => w
  | k + 1 => extW w k ++ [nextW (extW w k)]
def schedW (b : List UInt8) : List UInt32 := extW (headW b 16) 48
theorem headW_len (b : List UInt8) (k : Nat) : (headW b k).length = k := by simp [headW]
theorem headW_succ (b : List UInt8) (k : Nat) : headW b (k + 1) = headW b k ++ [beW ((b.drop (4 * k)).take 4)] := by simp [headW, List.range_succ]
theorem extW_len (w : List UInt32) (k : Nat) : (extW w k).length = w.length + k := by
  induction k with
  | zero => rfl
  | succ k ih => rw [extW, List.length_append, ih]; rfl
theorem schedW_len (b : List UInt8) : (schedW b).length = 64 := by rw [schedW, extW_len, headW_len]

-- the rounds
def G0 (a : UInt32) : UInt32 := xU (xU (rU 2 a) (rU 13 a)) (rU 22 a)
def G1 (e : UInt32) : UInt32 := xU (xU (rU 6 e) (rU 11 e)) (rU 25 e)
def chU (e f g : UInt32) : UInt32 := oU (nU e f) (nU (iU e) g)
def majU (a b c : UInt32) : UInt32 := oU (oU (nU a b) (nU a c)) (nU b c)
def rnd (s : List UInt32) (n : UInt32) : List UInt32 :=
  match s with
  | [a, b, c, d, e, f, g, h] =>
    [aU (aU (aU (aU h (G1 e)) (chU e f g)) n) (aU (G0 a) (majU a b c)), a, b, c, aU d (aU (aU (aU h (G1 e)) (chU e f g)) n), e, f, g]
  | s => s
def rnds (k w s : List UInt32) : Nat → List UInt32
  | 0 => s
  | i + 1 => rnd (rnds k w s i) (aU (nth k i) (nth w i))
def plusL (s t : List UInt32) : List UInt32 := List.zipWith aU s t
def kL : List UInt32 := [1116352408, 1899447441, 3049323471, 3921009573, 961987163, 1508970993, 2453635748, 2870763221, 3624381080, 310598401, 607225278, 1426881987, 1925078388, 2162078206, 2614888103, 3248222580, 3835390401, 4022224774, 264347078, 604807628, 770255983, 1249150122, 1555081692, 1996064986, 2554220882, 2821834349, 2952996808, 3210313671, 3336571891, 3584528711, 113926993, 338241895, 666307205, 773529912, 1294757372, 1396182291, 1695183700, 1986661051, 2177026350, 2456956037, 2730485921, 2820302411, 3259730800, 3345764771, 3516065817, 3600352804, 4094571909, 275423344, 430227734, 506948616, 659060556, 883997877, 958139571, 1322822218, 1537002063, 1747873779, 1955562222, 2024104815, 2227730452, 2361852424, 2428436474, 2756734187, 3204031479, 3329325298]
def firstL : List UInt32 := [1779033703, 3144134277, 1013904242, 2773480762, 1359893119, 2600822924, 528734635, 1541459225]
/-- The state behind a block. -/
def stepL (s : List UInt32) (b : List UInt8) : List UInt32 := plusL s (rnds kL (schedW b) s 64)
theorem kL_len : kL.length = 64 := rfl
theorem firstL_len : firstL.length = 8 := rfl
theorem eight {s : List UInt32} (h : s.length = 8) : ∃ a b c d e f g h, s = [a, b, c, d, e, f, g, h] := by
  match s, h with
  | [a, b, c, d, e, f, g, h], _ => exact ⟨a, b, c, d, e, f, g, h, rfl⟩
theorem rnd_len {s : List UInt32} (h : s.length = 8) (n : UInt32) : (rnd s n).length = 8 := by
  obtain ⟨a, b, c, d, e, f, g, h, rfl⟩ := eight h
  rfl
theorem rnds_len (k w : List UInt32) {s : List UInt32} (h : s.length = 8) (i : Nat) : (rnds k w s i).length = 8 := by
  induction i with
  | zero => exact h
  | succ i ih => exact rnd_len ih _
theorem stepL_len {s : List UInt32} (h : s.length = 8) (b : List UInt8) : (stepL s b).length = 8 := by
  rw [stepL, plusL, List.length_zipWith, rnds_len _ _ h, h]; rfl
theorem aU_comm (a b : UInt32) : aU a b = aU b a := by unfold aU; exact UInt32.add_comm a b
theorem aU_assoc (a b c : UInt32) : aU (aU a b) c = aU a (aU b c) := by unfold aU; exact UInt32.add_assoc a b c
theorem plusL_comm (s t : List UInt32) : plusL s t = plusL t s := by
  unfold plusL; rw [List.zipWith_comm]; congr 1; funext a b; exact aU_comm b a

-- many blocks
def overL (s : List UInt32) (l : List UInt8) : Nat → List UInt32
  | 0 => s
  | j + 1 => stepL (overL s l j) ((l.drop (64 * j)).take 64)
theorem overL_len {s : List UInt32} (h : s.length = 8) (l : List UInt8) (j : Nat) : (overL s l j).length = 8 := by
  induction j with
  | zero => exact h
  | succ j ih => exact stepL_len ih _
theorem overL_app (s : List UInt32) (l m : List UInt8) (j : Nat) (h : 64 * j ≤ l.length) : overL s (l ++ m) j = overL s l j := by
  induction j with
  | zero => rfl
  | succ j ih =>
    rw [overL, overL, ih (by omega), List.drop_append_of_le_length (by omega), List.take_append_of_le_length (by simp; omega)]
theorem overL_add (s : List UInt32) (l : List UInt8) (a b : Nat) : overL s l (a + b) = overL (overL s l a) (l.drop (64 * a)) b := by
  induction b with
  | zero => rfl
  | succ b ih => rw [← Nat.add_assoc, overL, overL, ih, List.drop_drop]; congr 3; omega

-- the padding
def padZ (n : Nat) : Nat := (119 - n % 64) % 64
def padL (n : Nat) : List UInt8 := 128 :: (List.replicate (padZ n) 0 ++ (leB 8 (8 * n)).reverse)
theorem padL_len (n : Nat) : (padL n).length = padZ n + 9 := by rw [padL]; simp [leB_len]
theorem padZ_lt (n : Nat) : padZ n ≤ 63 := by unfold padZ; omega
theorem pad_whole (n : Nat) : (n + (padZ n + 9)) % 64 = 0 := by unfold padZ; omega
/-- The state behind all blocks, and the digest. -/
def sumS (l : List UInt8) : List UInt32 := overL firstL (l ++ padL l.length) ((l.length + (padZ l.length + 9)) / 64)
def be4 (n : UInt32) : List UInt8 := (leB 4 n.toNat).reverse
def laidL (s : List UInt32) : List UInt8 := s.flatMap be4
def sumL (l : List UInt8) : List UInt8 := laidL (sumS l)
theorem sumS_len (l : List UInt8) : (sumS l).length = 8 := overL_len firstL_len _ _
theorem be4_len (n : UInt32) : (be4 n).length = 4 := by simp [be4, leB_len]
theorem laidL_len (s : List UInt32) : (laidL s).length = 4 * s.length := by
  induction s with
  | nil => rfl
  | cons n s ih => rw [laidL, List.flatMap_cons, List.length_append, be4_len]; rw [laidL] at ih; rw [ih, List.length_cons]; omega
theorem sumL_len (l : List UInt8) : (sumL l).length = 32 := by rw [sumL, laidL_len, sumS_len]
/-- The digest over whole blocks first, and then over the rest and its padding. -/
theorem sumS_parts (l : List UInt8) (q : Nat) (hq : 64 * q ≤ l.length) : 
    sumS l = overL (overL firstL (l.take (64 * q)) q) (l.drop (64 * q) ++ padL l.length) ((l.length - 64 * q + (padZ l.length + 9)) / 64) := by
  unfold sumS
  have e : (l.length + (padZ l.length + 9)) / 64 = q + (l.length - 64 * q + (padZ l.length + 9)) / 64 := by omega
  rw [e, overL_add]
  congr 1
  · rw [overL_app _ _ _ _ hq, ← overL_app firstL (l.take (64 * q)) (l.drop (64 * q)) q (by simp; omega), List.take_append_drop]
  · rw [List.drop_append_of_le_length hq]

-- digits
def digs : List UInt8 := [48, 49, 50, 51, 52, 53, 54, 55, 56, 57, 97, 98, 99, 100, 101, 102]
def dig (n : Nat) : UInt8 := digs.getD n 0
def hex2 (c : UInt8) : List UInt8 := [dig (c.toNat / 16), dig (c.toNat % 16)]
def hexL (d : List UInt8) : List UInt8 := d.flatMap hex2
/-- The place of a digit, or 16. -/
def undig (c : UInt8) : Nat := digs.findIdx (· == c)
def undI (c : UInt8) : Int := if undig c < 16 then undig c else -1
def unhB (s : List UInt8) : Bool := decide (s.length = 64) && s.all fun c => decide (undig c < 16)
def unhE (s : List UInt8) : Int := if unhB s = true then 0 else 4
def pairB (a b : UInt8) : UInt8 := byt (16 * undig a + undig b)
def unhD : List UInt8 → List UInt8
  | a :: b :: r => pairB a b :: unhD r
  | _ => []
def unhL (s : List UInt8) : List UInt8 := if unhB s = true then unhD s else List.replicate 32 0
end Go.Proofs.YtdikiabjkmigdaaGreatDoor
