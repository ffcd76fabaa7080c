/-
  Plain mathematics of tags: a key as a block, a block mixed with a byte, the tag, what is sealed and opened. No program stands in this file.
-/
import Derived.Test.YtdikiabjkmigdaaDoorSMath
namespace Go.Proofs.YtdikiabjkmigdaaDoor
set_option maxRecDepth 20000

/-- Bytes 0. -/
def nulL (n : Nat) : List UInt8 := List.replicate n 0
theorem nulL_len (n : Nat) : (nulL n).length = n := by simp [nulL]
/-- A key as a block. -/
def blkL (k : List UInt8) : List UInt8 := if k.length ≤ 64 then k ++ nulL (64 - k.length) else sumL k ++ nulL 32
theorem blkL_short {k : List UInt8} (h : k.length ≤ 64) : blkL k = k ++ nulL (64 - k.length) := if_pos h
theorem blkL_long {k : List UInt8} (h : ¬ k.length ≤ 64) : blkL k = sumL k ++ nulL 32 := if_neg h
theorem blkL_len (k : List UInt8) : (blkL k).length = 64 := by
  by_cases h : k.length ≤ 64
  · rw [blkL_short h, List.length_append, nulL_len]; omega
  · rw [blkL_long h, List.length_append, nulL_len, sumL_len]
/-- Each byte put together with one byte. -/
def xB (a b : UInt8) : UInt8 := a ^^^ b
def mixL (c : UInt8) (k : List UInt8) : List UInt8 := k.map fun x => xB x c
theorem mixL_len (c : UInt8) (k : List UInt8) : (mixL c k).length = k.length := by simp [mixL]
theorem mixL_take (c : UInt8) (k : List UInt8) (j : Nat) (h : j < k.length) : mixL c (k.take (j + 1)) = mixL c (k.take j) ++ [xB k[j] c] := by
  rw [List.take_succ_eq_append_getElem h]; unfold mixL; rw [List.map_append]; rfl
/-- A block of which the first j bytes are mixed. -/
def midL (c : UInt8) (k : List UInt8) (j : Nat) : List UInt8 := mixL c (k.take j) ++ k.drop j
theorem midL_zero (c : UInt8) (k : List UInt8) : midL c k 0 = k := by simp [midL, mixL]
theorem midL_all (c : UInt8) (k : List UInt8) : midL c k k.length = mixL c k := by simp [midL]
theorem midL_at (c : UInt8) (k : List UInt8) (j : Nat) (h : j < k.length) : (midL c k j)[j]? = some k[j] := by
  have hl : (mixL c (k.take j)).length = j := by rw [mixL_len, List.length_take]; omega
  unfold midL
  rw [List.getElem?_append_right (by omega), hl, Nat.sub_self, drop_step k j h]; rfl
theorem midL_next (c : UInt8) (k : List UInt8) (j : Nat) (h : j < k.length) : (midL c k j).set j (xB k[j] c) = midL c k (j + 1) := by
  have hl : (mixL c (k.take j)).length = j := by rw [mixL_len, List.length_take]; omega
  unfold midL
  rw [List.set_append_right _ _ (by omega), hl, Nat.sub_self, drop_step k j h, List.set_cons_zero, mixL_take c k j h]
  simp
/-- The tag. -/
def innL (k b : List UInt8) : List UInt8 := sumL (mixL 54 (blkL k) ++ b)
def tagL (k b : List UInt8) : List UInt8 := sumL (mixL 92 (blkL k) ++ innL k b)
theorem innL_len (k b : List UInt8) : (innL k b).length = 32 := sumL_len _
theorem tagL_len (k b : List UInt8) : (tagL k b).length = 32 := sumL_len _
def rgtB (k b t : List UInt8) : Bool := decide (t = tagL k b)
theorem rgtB_len {k b t : List UInt8} (h : t.length ≠ 32) : rgtB k b t = false := by
  unfold rgtB
  rw [decide_eq_false_iff_not]
  intro e
  exact h (by rw [e, tagL_len])
def sealT (k b : List UInt8) : List UInt8 := b ++ tagL k b
theorem sealT_len (k b : List UInt8) : (sealT k b).length = b.length + 32 := by rw [sealT, List.length_append, tagL_len]
/-- What is opened, and the error. -/
def unB (k b : List UInt8) : Bool := rgtB k (b.take (b.length - 32)) (b.drop (b.length - 32))
def unE (k b : List UInt8) : Int := if b.length < 32 then 2 else if unB k b = true then 0 else 6
def unL (k b : List UInt8) : List UInt8 := if unE k b = 0 then b.take (b.length - 32) else []
theorem unE_short {k b : List UInt8} (h : b.length < 32) : unE k b = 2 := if_pos h
theorem unE_ok {k b : List UInt8} (h : ¬ b.length < 32) (hb : unB k b = true) : unE k b = 0 := by rw [unE, if_neg h, if_pos hb]
theorem unE_bad {k b : List UInt8} (h : ¬ b.length < 32) (hb : unB k b = false) : unE k b = 6 := by rw [unE, if_neg h, hb]; rfl
theorem unL_ok {k b : List UInt8} (h : unE k b = 0) : unL k b = b.take (b.length - 32) := if_pos h
theorem unL_bad {k b : List UInt8} (h : unE k b ≠ 0) : unL k b = [] := if_neg h
theorem unB_at {k b : List UInt8} {m : Nat} (h : b.length = m + 32) : unB k b = rgtB k (b.take m) (b.drop m) := by
  unfold unB; rw [h, Nat.add_sub_cancel]
theorem unB_seal (k b : List UInt8) : unB k (sealT k b) = true := by
  rw [unB_at (sealT_len k b)]
  simp [sealT, rgtB]
theorem unE_seal (k b : List UInt8) : unE k (sealT k b) = 0 := unE_ok (by rw [sealT_len]; omega) (unB_seal k b)
theorem unL_seal (k b : List UInt8) : unL k (sealT k b) = b := by
  rw [unL_ok (unE_seal k b), sealT_len, Nat.add_sub_cancel, sealT, List.take_left']
  rfl
/-- Bytes 0 behind a key that is short; the digest of one that is long. -/
theorem blkL_nul {k : List UInt8} {j : Nat} (h : k.length + j ≤ 64) : blkL (k ++ nulL j) = blkL k := by
  rw [blkL_short (by rw [List.length_append, nulL_len]; exact h), blkL_short (by omega), List.length_append, nulL_len, List.append_assoc]
  congr 1
  unfold nulL
  rw [List.replicate_append_replicate]
  congr 1
  omega
theorem blkL_sum {k : List UInt8} (h : ¬ k.length ≤ 64) : blkL (sumL k) = blkL k := by
  rw [blkL_short (by rw [sumL_len]; omega), blkL_long h, sumL_len]
theorem tagL_blk {k k' : List UInt8} (h : blkL k = blkL k') (b : List UInt8) : tagL k b = tagL k' b := by unfold tagL innL; rw [h]
end Go.Proofs.YtdikiabjkmigdaaDoor
