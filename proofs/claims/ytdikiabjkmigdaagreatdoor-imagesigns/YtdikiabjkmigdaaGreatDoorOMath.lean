/-
  Plain mathematics of bytes and numbers: the bytes of a number, the lowest first, the number of bytes, and bytes as words. No program stands in this file.
-/
import Derived.WalkKit
import Derived.ProofKit
import Derived.Laws.Shifts
import Derived.Laws.BitsAllLaws
namespace Go.Proofs.YtdikiabjkmigdaaGreatDoor
set_option maxRecDepth 20000
open Go.RowKit

/-- The byte of a number. -/
def byt (v : Nat) : UInt8 := UInt8.ofNat v
theorem byt_toNat (v : Nat) : (byt v).toNat = v % 256 := by unfold byt; simp [UInt8.toNat_ofNat']
theorem byt_of (c : UInt8) : byt c.toNat = c := by unfold byt; simp
theorem byt_mod (v : Nat) : byt (v % 256) = byt v := by apply UInt8.toNat_inj.1; rw [byt_toNat, byt_toNat]; omega
/-- The lowest k bytes of a number, the lowest first. -/
def leB (k v : Nat) : List UInt8 := (List.range k).map fun j => byt (v / 256 ^ j)
theorem leB_len (k v : Nat) : (leB k v).length = k := by simp [leB]
theorem leB_zero (v : Nat) : leB 0 v = [] := rfl
theorem leB_succ (k v : Nat) : leB (k + 1) v = leB k v ++ [byt (v / 256 ^ k)] := by simp [leB, List.range_succ]
theorem leB_cons (k v : Nat) : leB (k + 1) v = byt v :: leB k (v / 256) := by
  induction k generalizing v with
  | zero => simp [leB, List.range_succ]
  | succ k ih =>
    rw [leB_succ (k + 1) v, ih v, leB_succ k (v / 256), Nat.div_div_eq_div_mul, Nat.pow_succ, Nat.mul_comm 256]
    rfl
/-- The number of bytes, the lowest first. -/
def leN : List UInt8 → Nat
  | [] => 0
  | c :: l => c.toNat + 256 * leN l
theorem leN_app (l m : List UInt8) : leN (l ++ m) = leN l + 256 ^ l.length * leN m := by
  induction l with
  | nil => simp [leN]
  | cons c l ih => rw [List.cons_append, leN, leN, ih, List.length_cons, Nat.pow_succ, Nat.mul_add, ← Nat.mul_assoc, Nat.mul_comm (256 ^ l.length) 256, Nat.add_assoc]
theorem leN_lt (l : List UInt8) : leN l < 256 ^ l.length := by
  induction l with
  | nil => simp [leN]
  | cons c l ih =>
    have := c.toNat_lt
    rw [leN, List.length_cons, Nat.pow_succ]
    omega
theorem leN_one (c : UInt8) : leN [c] = c.toNat := by simp [leN]
theorem leN_leB (k v : Nat) : leN (leB k v) = v % 256 ^ k := by
  induction k generalizing v with
  | zero => simp [leB, leN]; omega
  | succ k ih =>
    rw [leB_cons, leN, ih, byt_toNat, Nat.pow_succ, Nat.mul_comm (256 ^ k) 256, Nat.mod_mul]
theorem leB_leN (l : List UInt8) : leB l.length (leN l) = l := by
  induction l with
  | nil => rfl
  | cons c l ih =>
    have hc := c.toNat_lt
    rw [List.length_cons, leB_cons, leN]
    have e1 : byt (c.toNat + 256 * leN l) = c := by
      apply UInt8.toNat_inj.1; rw [byt_toNat]; omega
    have e2 : (c.toNat + 256 * leN l) / 256 = leN l := by omega
    rw [e1, e2, ih]
theorem p256 (k : Nat) : (256 : Nat) ^ k = 2 ^ (8 * k) := by rw [show (256 : Nat) = 2 ^ 8 from rfl, ← Nat.pow_mul]
/-- The parts of a list from a place on. -/
theorem take_step {α : Type} (l : List α) (a i : Nat) (h : a + i < l.length) : (l.drop a).take (i + 1) = (l.drop a).take i ++ [l[a + i]] := by
  rw [List.take_succ_eq_append_getElem (by simp; omega), List.getElem_drop]
theorem drop_step {α : Type} (l : List α) (i : Nat) (h : i < l.length) : l.drop i = l[i] :: l.drop (i + 1) := List.drop_eq_getElem_cons h

-- Put and Get
def widB (width : Int) : Bool := decide (1 ≤ width ∧ width ≤ 8)
def putE (width : Int) (v : Nat) : Int := if widB width = true then (if v < 256 ^ width.toNat then 0 else 3) else 1
def putL (l : List UInt8) (width : Int) (v : Nat) : List UInt8 := if putE width v = 0 then l ++ leB width.toNat v else []
def getE (len : Nat) (a width : Int) : Int := if widB width = true ∧ 0 ≤ a ∧ a ≤ len then (if a + width ≤ len then 0 else 2) else 1
def getN (l : List UInt8) (a width : Int) : Nat := if getE l.length a width = 0 then leN ((l.drop a.toNat).take width.toNat) else 0
def prE (x : List UInt8) : Int := if x.length ≤ 65535 then 0 else 3
def prL (b x : List UInt8) : List UInt8 := if x.length ≤ 65535 then b ++ leB 2 x.length ++ x else []
def runN (l : List UInt8) (a : Nat) : Nat := leN ((l.drop a).take 2)
def grE (l : List UInt8) (a : Int) : Int := if 0 ≤ a ∧ a ≤ l.length then (if a + 2 + runN l a.toNat ≤ l.length ∧ a + 2 ≤ l.length then 0 else 2) else 1
def grL (l : List UInt8) (a : Int) : List UInt8 := if grE l a = 0 then (l.drop (a.toNat + 2)).take (runN l a.toNat) else []
def grT (l : List UInt8) (a : Int) : Int := if grE l a = 0 then a + 2 + runN l a.toNat else 0
-- words
def word (n : Nat) : UInt32 := UInt32.ofNat n
theorem word_toNat (n : Nat) : (word n).toNat = n % 4294967296 := by unfold word; simp [UInt32.toNat_ofNat']
theorem word_of (c : UInt32) : word c.toNat = c := by unfold word; simp
def pad4 (g : List UInt8) : List UInt8 := g ++ List.replicate (4 - g.length) 255
def grp (l : List UInt8) (i : Nat) : List UInt8 := (l.drop (4 * i)).take 4
def wordsK (l : List UInt8) (k : Nat) : List UInt32 := (List.range k).map fun i => word (leN (pad4 (grp l i)))
def wordsL (l : List UInt8) : List UInt32 := wordsK l ((l.length + 3) / 4)
def bytesL (w : List UInt32) : List UInt8 := w.flatMap fun n => leB 4 n.toNat
theorem wordsK_succ (l : List UInt8) (k : Nat) : wordsK l (k + 1) = wordsK l k ++ [word (leN (pad4 (grp l k)))] := by simp [wordsK, List.range_succ]
theorem wordsK_len (l : List UInt8) (k : Nat) : (wordsK l k).length = k := by simp [wordsK]
theorem bytesL_len (w : List UInt32) : (bytesL w).length = 4 * w.length := by
  induction w with
  | nil => rfl
  | cons n w ih => rw [bytesL, List.flatMap_cons, List.length_append, leB_len]; rw [bytesL] at ih; rw [ih, List.length_cons]; omega
theorem bytesL_snoc (w : List UInt32) (n : UInt32) : bytesL (w ++ [n]) = bytesL w ++ leB 4 n.toNat := by simp [bytesL]
end Go.Proofs.YtdikiabjkmigdaaGreatDoor
