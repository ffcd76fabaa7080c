/-
  Contracts of Unhex, of package sha and of the reference of layer 4.
-/
import Derived.Test.YthglpniemenhcaaDoorSHex2
namespace Go.Proofs.YthglpniemenhcaaDoor
open Go.RowKit
set_option maxHeartbeats 800000

def chr (l : List UInt8) (i : Nat) : UInt8 := l.getD i 0
theorem chr_at {l : List UInt8} {i : Nat} (h : i < l.length) : l[i] = chr l i := by unfold chr; rw [List.getD_eq_getElem?_getD, List.getElem?_eq_getElem h]; rfl
/-- The digest's byte p behind j digits. -/
def valP (l : List UInt8) (j p : Nat) : UInt8 := if 2 * p + 2 ≤ j then pairB (chr l (2 * p)) (chr l (2 * p + 1)) else if 2 * p + 1 = j then byt (undig (chr l (2 * p))) else 0
def unK (l : List UInt8) (j : Nat) : List UInt8 := (List.range 32).map (valP l j)
def unM (l : List UInt8) : List UInt8 := if unhB l = true then unK l 64 else List.replicate 32 0
theorem unK_len (l : List UInt8) (j : Nat) : (unK l j).length = 32 := by simp [unK]
theorem unM_len (l : List UInt8) : (unM l).length = 32 := by unfold unM; split <;> simp [unK_len]
theorem unK_zero (l : List UInt8) : unK l 0 = List.replicate 32 0 := by
  unfold unK
  rw [show valP l 0 = fun _ => 0 from funext fun p => by unfold valP; rw [if_neg (by omega), if_neg (by omega)]]
  rfl
theorem unK_at (l : List UInt8) (j p : Nat) (h : p < 32) : (unK l j)[p]? = some (valP l j p) := by unfold unK; simp [h]
theorem valP_other (l : List UInt8) (j k p : Nat) (h : 2 * p + 2 ≤ j ∨ k < 2 * p + 1) (hjk : j ≤ k) : valP l k p = valP l j p := by
  unfold valP
  rcases h with h | h
  · rw [if_pos (by omega), if_pos h]
  · rw [if_neg (by omega), if_neg (by omega), if_neg (by omega), if_neg (by omega)]
theorem unK_set (l : List UInt8) (j k p : Nat) (hp : p < 32) (hj : 2 * p ≤ j) (hk : k ≤ 2 * p + 2) (hjk : j ≤ k) : (unK l j).set p (valP l k p) = unK l k := by
  apply List.ext_getElem?
  intro i
  rw [List.getElem?_set]
  by_cases h : p = i
  · subst h
    rw [if_pos rfl, unK_len, if_pos hp, unK_at l k p hp]
  · rw [if_neg h]
    by_cases hi : i < 32
    · rw [unK_at l j i hi, unK_at l k i hi, valP_other l j k i (by omega) hjk]
    · rw [List.getElem?_eq_none (by rw [unK_len]; omega), List.getElem?_eq_none (by rw [unK_len]; omega)]
theorem val_step (l : List UInt8) (j p : Nat) (hp : p = j / 2) (hd : ∀ k, k ≤ j → undig (chr l k) < 16) : bits .or .u8 (((valP l j p).toNat : Int) * 16 % 256) (undig (chr l j) : Int) = ((valP l (j + 1) p).toNat : Int) := by
  have h1 := hd j (Nat.le_refl _)
  rcases Nat.mod_two_eq_zero_or_one j with h | h
  · have e : valP l j p = 0 := by unfold valP; rw [if_neg (by omega), if_neg (by omega)]
    have e2 : valP l (j + 1) p = byt (undig (chr l j)) := by unfold valP; rw [if_neg (by omega), if_pos (by omega), show 2 * p = j by omega]
    rw [e, e2, byt_toNat]
    have e3 : ((0 : UInt8).toNat : Int) * 16 % 256 = ((0 : Nat) : Int) := by rfl
    rw [e3, u8_or_nat _ _ (by omega) (by omega)]
    simp; omega
  · have h2 := hd (2 * p) (by omega)
    have e : valP l j p = byt (undig (chr l (2 * p))) := by unfold valP; rw [if_neg (by omega), if_pos (by omega)]
    have e2 : valP l (j + 1) p = pairB (chr l (2 * p)) (chr l j) := by unfold valP; rw [if_pos (by omega), show 2 * p + 1 = j by omega]
    rw [e, e2, byt_toNat]
    unfold pairB
    rw [byt_toNat]
    have e3 : ((undig (chr l (2 * p)) % 256 : Nat) : Int) * 16 % 256 = ((undig (chr l (2 * p)) * 2 ^ 4 : Nat) : Int) := by omega
    rw [e3, u8_or_nat _ _ (by omega) (by omega), ← Nat.shiftLeft_eq, ← Nat.shiftLeft_add_eq_or_of_lt (by omega), Nat.shiftLeft_eq]
    omega
theorem pair_step (l : List UInt8) (i : Nat) : valP l (2 * i + 2) i = pairB (chr l (2 * i)) (chr l (2 * i + 1)) := by unfold valP; rw [if_pos (by omega)]
theorem unhB_ok (l : List UInt8) (h : l.length = 64) (hd : ∀ k, k < 64 → undig (chr l k) < 16) : unhB l = true := by
  unfold unhB
  rw [Bool.and_eq_true, decide_eq_true_iff, List.all_eq_true]
  refine ⟨h, fun x hx => ?_⟩
  obtain ⟨i, hi, rfl⟩ := List.getElem_of_mem hx
  rw [decide_eq_true_iff, chr_at]
  exact hd i (by omega)
theorem unhB_len (l : List UInt8) (h : l.length ≠ 64) : unhB l = false := by unfold unhB; simp [h]
theorem unhB_bad (l : List UInt8) (h : l.length = 64) (j : Nat) (hj : j < 64) (hd : ¬ undig (chr l j) < 16) : unhB l = false := by
  rw [← Bool.not_eq_true]
  intro hb
  unfold unhB at hb
  rw [Bool.and_eq_true, List.all_eq_true] at hb
  have := hb.2 l[j] (List.getElem_mem _)
  rw [decide_eq_true_iff, chr_at] at this
  exact hd this
def UnhPost (w : World) (l : List UInt8) (e : Ending) (w' : World) : Prop := e = .returned (.tuple #[.agg (cs8 (unM l)).toArray, .int .i64 (unhE l)]) ∧ Below w.heap.size w w'
theorem UnhPost.bad {w w' : World} {l : List UInt8} (h : unhB l = false) (hb : Below w.heap.size w w') : UnhPost w l (.returned (.tuple #[.agg (cs8 (List.replicate 32 0)).toArray, .int .i64 4])) w' := by
  refine ⟨?_, hb⟩
  unfold unM unhE
  rw [h]; rfl
theorem UnhPost.ok {w w' : World} {l : List UInt8} (h : unhB l = true) (hb : Below w.heap.size w w') : UnhPost w l (.returned (.tuple #[.agg (cs8 (unK l 64)).toArray, .int .i64 0])) w' := by
  refine ⟨?_, hb⟩
  unfold unM unhE
  rw [h]; rfl
theorem undI_pos {c : UInt8} (h : undig c < 16) : undI c = (undig c : Int) := if_pos h
theorem undI_neg {c : UInt8} (h : ¬ undig c < 16) : undI c = -1 := if_neg h
theorem run_chr (l : List UInt8) (i : Nat) (h : i < l.length) (I : Int) (hI : I = (i : Int)) (w : World) : (Instr.index 9 (.string ⟨l.toArray⟩) (.int .i64 I)).run Tryd.prog w = .ok (.int .u8 ((chr l i).toNat : Int)) w := by
  subst hI
  have h1 : (ByteArray.mk l.toArray)[i]? = some (chr l i) := by
    rw [← chr_at h]; exact getElem?_pos (ByteArray.mk l.toArray) i h
  simp [Instr.index, asIntOf, run_underlying Tryd.underlying9, h1, Result.andThen]
theorem zeros_b : (cs8 (List.replicate 32 0)).length = 32 := rfl
theorem pair_val (l : List UInt8) (i : Nat) (h1 : undig (chr l (2 * i)) < 16) (h2 : undig (chr l (2 * i + 1)) < 16) : (16 * (undig (chr l (2 * i)) : Int) + (undig (chr l (2 * i + 1)) : Int)) = ((valP l (2 * i + 2) i).toNat : Int) := by
  rw [pair_step]; unfold pairB; rw [byt_toNat]; omega
end Go.Proofs.YthglpniemenhcaaDoor
