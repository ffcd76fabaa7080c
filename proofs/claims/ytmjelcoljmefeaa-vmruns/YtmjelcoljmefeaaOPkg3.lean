/-
  Contracts of package octet: Words, Bytes, Signed, Plain.
-/
import Derived.Test.YtmjelcoljmefeaaOPkg2
namespace Go.Proofs.Ytmjelcoljmefeaa
open Go.RowKit
set_option maxHeartbeats 400000
theorem info32 : (Try.prog.info? 79).map (fun i => (i.zero, i.size, i.bytes)) = some (some (.int .u32 0), 1, 4) := by kernel_rfl
theorem size32 : (Try.prog.info? 79).map (·.size) = some 1 := by kernel_rfl
theorem one_u32 (n : Int) : ∀ u ∈ [Value.int .u32 n], u.oneCell' = true := by
  intro u hu; simp at hu; subst hu; rfl
theorem own32_len {w : World} {base : Nat} {e : TypeId} {v : Value} {n : Nat} {l : List UInt32} (h : w.ownsRow base e 1 v n (cs32 l)) : l.length = n := by
  have := h.1; rwa [cs32_len, Nat.mul_one] at this
/-- New words. -/
def Gives32 (w : World) (r : List UInt32) (e : Ending) (w' : World) : Prop :=
  ∃ A n c, e = .returned (.slice A n c) ∧ w'.ownsRow w.heap.size 79 1 (.slice A n c) n (cs32 r) ∧ Below w.heap.size w w'
theorem grp_full (l : List UInt8) (j : Nat) (h : 4 * j + 4 ≤ l.length) : pad4 (grp l j) = (l.drop (4 * j)).take 4 := by
  unfold pad4 grp
  rw [show 4 - ((l.drop (4 * j)).take 4).length = 0 by simp; omega, List.replicate_zero, List.append_nil]
theorem word_cell (n : Nat) : (n : Int) % 4294967296 = ((word n).toNat : Int) := by rw [word_toNat]; omega
theorem cs32_snoc (l : List UInt32) (c : UInt32) : cs32 (l ++ [c]) = cs32 l ++ [.int .u32 (c.toNat : Int)] := by simp [cs32]
theorem words_full (l : List UInt8) (j : Nat) (h : 4 * j + 4 ≤ l.length) : cs32 (wordsK l (j + 1)) = cs32 (wordsK l j) ++ [.int .u32 ((leN ((l.drop (4 * j)).take 4) : Int) % 4294967296)] := by
  rw [wordsK_succ, cs32_snoc, grp_full l j h, word_cell]
theorem or_ones (r : Nat) (x y : Nat) (hx : x % 2 ^ (8 * r) = 0) (hx2 : x < 4294967296) (hy : y < 2 ^ (8 * r)) (hy2 : y < 4294967296) : bits .or .u32 (x : Int) (y : Int) = ((x + y : Nat) : Int) := by
  rw [u32_or_nat x y hx2 hy2, nat_join (8 * r) x y hx hy]
theorem words_last (l : List UInt8) (j r : Nat) (hl : l.length = 4 * j + r) (h1 : ¬ r = 0) (h2 : r < 4) :
    cs32 (wordsL l) = cs32 (wordsK l j) ++ [.int .u32 (bits .or .u32 (IntKind.u32.wrap (4294967295 * 2 ^ (8 * r))) ((leN ((l.drop (4 * j)).take r) : Int) % 4294967296))] := by
  have hk : (l.length + 3) / 4 = j + 1 := by omega
  have hg : grp l j = (l.drop (4 * j)).take r := by
    unfold grp
    rw [List.take_of_length_le (by simp; omega), List.take_of_length_le (by simp; omega)]
  have hgl : ((l.drop (4 * j)).take r).length = r := by simp; omega
  unfold wordsL
  rw [hk, wordsK_succ, cs32_snoc, hg]
  have hlt := leN_lt ((l.drop (4 * j)).take r)
  unfold pad4
  rw [leN_app]
  rw [hgl] at hlt ⊢
  generalize leN ((l.drop (4 * j)).take r) = g at hlt ⊢
  have e : (g : Int) % 4294967296 = ((g % 4294967296 : Nat) : Int) := by omega
  rw [word_toNat, e]
  congr 3
  rcases (show r = 1 ∨ r = 2 ∨ r = 3 by omega) with rfl | rfl | rfl
  · rw [show IntKind.u32.wrap (4294967295 * 2 ^ (8 * 1)) = ((4294967040 : Nat) : Int) from rfl, or_ones 1 _ _ rfl (by omega) (by omega) (by omega), show leN (List.replicate (4 - 1) 255) = 16777215 from rfl]
    omega
  · rw [show IntKind.u32.wrap (4294967295 * 2 ^ (8 * 2)) = ((4294901760 : Nat) : Int) from rfl, or_ones 2 _ _ rfl (by omega) (by omega) (by omega), show leN (List.replicate (4 - 2) 255) = 65535 from rfl]
    omega
  · rw [show IntKind.u32.wrap (4294967295 * 2 ^ (8 * 3)) = ((4278190080 : Nat) : Int) from rfl, or_ones 3 _ _ rfl (by omega) (by omega) (by omega), show leN (List.replicate (4 - 3) 255) = 255 from rfl]
    omega
theorem words_none (l : List UInt8) (j : Nat) (hl : l.length = 4 * j) : wordsL l = wordsK l j := by
  unfold wordsL; rw [show (l.length + 3) / 4 = j by omega]
theorem bytes_take (ws : List UInt32) (j : Nat) (h : j < ws.length) : bytesL (ws.take j) ++ leB 4 ws[j].toNat = bytesL (ws.take (j + 1)) := by
  rw [List.take_succ_eq_append_getElem h, bytesL_snoc]
end Go.Proofs.Ytmjelcoljmefeaa
