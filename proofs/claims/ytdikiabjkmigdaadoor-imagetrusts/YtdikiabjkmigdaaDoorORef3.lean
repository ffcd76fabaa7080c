/-
  Contracts of the reference of layer 2 (midstreamref02): GetRun, Words, Bytes, Signed, Plain.
-/
import Derived.Test.YtdikiabjkmigdaaDoorORef2
namespace Go.Proofs.YtdikiabjkmigdaaDoor
set_option maxRecDepth 20000
open Go.RowKit
set_option maxHeartbeats 400000

theorem runN_two (l : List UInt8) (a : Nat) (h : a + 2 ≤ l.length) : runN l a = l[a].toNat + 256 * l[a + 1].toNat := by
  unfold runN
  rw [drop_step l a (by omega), drop_step l (a + 1) (by omega), List.take_succ_cons, List.take_succ_cons, List.take_zero, leN, leN, leN]
  rfl
theorem below_drewN (B : Nat) (w : World) (k : Nat) : Below B w (w.drewN k) := ⟨rfl, rfl, rfl, Nat.le_refl _, fun _ _ => rfl⟩
theorem Row.drewN {w : World} {B n c : Nat} {A : Option Addr} {xs : List Value} (h : Row w B A n c xs) (k : Nat) : Row (w.drewN k) B A n c xs := h.keep (below_drewN B w k) (Nat.le_refl _)
theorem Gives3.none_at {w w' : World} {r : List UInt8} {to er k : Int} (hr : r = []) (ht : to = 0) (he : er = k) (hb : Below w.heap.size w w') : Gives3 w r to er (.returned (.tuple #[.slice none 0 0, .int .i64 0, .int .i64 k])) w' := by
  subst hr; subst he; subst ht
  exact ⟨none, 0, 0, rfl, World.ownsRow_nil _ _ _ _, hb⟩
theorem pad4_len (l : List UInt8) (j : Nat) : (pad4 (grp l j)).length = 4 := by simp [pad4, grp]; omega
theorem pad4_in (l : List UInt8) (j m : Nat) (hm : m < 4) (h : 4 * j + m < l.length) : (pad4 (grp l j)).drop m = l[4 * j + m] :: (pad4 (grp l j)).drop (m + 1) := by
  rw [drop_step _ m (by rw [pad4_len]; exact hm)]
  congr 1
  unfold pad4 grp
  rw [List.getElem_append_left (by simp; omega), List.getElem_take, List.getElem_drop]
theorem pad4_out (l : List UInt8) (j m : Nat) (hm : m < 4) (h : ¬ 4 * j + m < l.length) : (pad4 (grp l j)).drop m = 255 :: (pad4 (grp l j)).drop (m + 1) := by
  rw [drop_step _ m (by rw [pad4_len]; exact hm)]
  congr 1
  unfold pad4 grp
  rw [List.getElem_append_right (by simp; omega), List.getElem_replicate]
theorem leN_le3 (l : List UInt8) (h : l.length ≤ 3) : leN l ≤ 16777215 := by
  have h1 := leN_lt l
  have h2 : (256 : Nat) ^ l.length ≤ 256 ^ 3 := Nat.pow_le_pow_right (by omega) h
  omega
theorem leN_le4 (l : List UInt8) (h : l.length ≤ 4) : leN l ≤ 4294967295 := by
  have h1 := leN_lt l
  have h2 : (256 : Nat) ^ l.length ≤ 256 ^ 4 := Nat.pow_le_pow_right (by omega) h
  omega
theorem words_next (l : List UInt8) (j x : Nat) (hx : x = leN ((pad4 (grp l j)).drop 0)) : cs32 (wordsK l (j + 1)) = cs32 (wordsK l j) ++ [.int .u32 (x : Int)] := by
  have h4 := leN_le4 (pad4 (grp l j)) (by rw [pad4_len]; omega)
  rw [List.drop_zero] at hx
  rw [wordsK_succ, cs32_snoc, ← word_cell, hx]
  congr 3
  omega
end Go.Proofs.YtdikiabjkmigdaaDoor
