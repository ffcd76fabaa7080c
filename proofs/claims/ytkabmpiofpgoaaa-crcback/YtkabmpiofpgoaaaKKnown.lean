/-
  Contract of the statements' own helper known of layer 3.
-/
import Derived.Test.YtkabmpiofpgoaaaKRef2
import Derived.Lib.SlBytesConst
namespace Go.Proofs.Ytkabmpiofpgoaaa
open Go.RowKit
set_option maxHeartbeats 400000

theorem row_lit (w : World) (cs : Array Value) (e : TypeId) (fr : Nat × Nat) (n : Nat) (hn : cs.size = n) (hm : n ≤ maxLen) (xs : List Value) (hx : cs.toList = xs) :
    Row (w.alloc (.cells cs e fr)) (w.heap.size + 1) (some ⟨w.heap.size, 0, none⟩) n n xs :=
  ⟨by subst hx; simpa using hn, Nat.le_refl _, hm, (fun h => by cases h), fun _ => ⟨w.heap.size, 0, rfl, by omega, fun j v hv => by
    have e : (w.alloc (.cells cs e fr)).heap[w.heap.size]? = some (.cells cs e fr) := heap_alloc_new w _
    rw [Nat.zero_add, cell_of_row _ _ _ _ _ _ e]
    subst hx
    simpa using hv⟩⟩
theorem open_0 : opL [0, 0, 0, 0] = [] := by kernel_rfl
theorem open_0e : opE [0, 0, 0, 0] = 0 := by kernel_rfl
theorem open_1e : opE [0, 0, 0, 1] = 5 := by kernel_rfl
theorem sum_9 : crcOn 0 [49, 50, 51, 52, 53, 54, 55, 56, 57] = 3421780262 := by kernel_rfl
theorem known_any (w : World) : Calls Try.prog 9 #[] w fun e w' => e = .returned (.bool true) ∧ Below w.heap.size w w' := by
  have kc := fun (w : World) (C : Array Value) (n c : Nat) => Lib.run_convert_bytes_const (P := Try.prog) w 23 5 C n c Try.underlying23 Try.underlying5
  go_enter Try.func9, Try.ntmps9
  go_wp2_with fail
  refine (Open_any (w.heap.size + 1) _ _ _ [0, 0, 0, 0] _ (row_lit _ _ _ _ 4 rfl (by unfold maxLen; omega) _ rfl) (by simp) (by omega)).mono ?_
  rw [open_0, open_0e]
  rintro e w1 ⟨A1, n1, c1, rfl, ho1, hb1⟩
  obtain rfl : n1 = 0 := by have := own8_len ho1; simpa using this.symm
  have hb1 : Below w.heap.size w w1 := ((Below.refl _ _).alloc (Nat.le_refl _) _).trans (hb1.mono (by simp))
  have hs1 := hb1.size
  go_wp2_with fail
  refine (Open_any (w1.heap.size + 1) _ _ _ [0, 0, 0, 1] _ (row_lit _ _ _ _ 4 rfl (by unfold maxLen; omega) _ rfl) (by simp) (by omega)).mono ?_
  rw [open_1e]
  rintro e w2 ⟨A2, n2, c2, rfl, ho2, hb2⟩
  have hb2 : Below w1.heap.size w1 w2 := ((Below.refl _ _).alloc (Nat.le_refl _) _).trans (hb2.mono (by simp))
  have hs2 := hb2.size
  go_wp2_with fail
  refine (Sum_any (w2.heap.size + 1) _ _ _ [49, 50, 51, 52, 53, 54, 55, 56, 57] _ (row_lit _ _ _ _ 9 rfl (by unfold maxLen; omega) _ rfl) (by simp)).mono ?_
  unfold Sums
  rw [sum_9]
  rintro e w3 ⟨rfl, hb3⟩
  have hb3 : Below w2.heap.size w2 w3 := ((Below.refl _ _).alloc (Nat.le_refl _) _).trans (hb3.mono (by simp))
  have hs3 := hb3.size
  go_wp2_with fail
  refine (Seal_any 0 _ _ _ [] _ Row.none_ (Nat.zero_le _) (by omega)).mono ?_
  rintro e w4 ⟨A4, n4, c4, rfl, ho4, hb4⟩
  obtain rfl : n4 = 4 := by have := own8_len ho4; rw [sealL_len] at this; simpa using this.symm
  go_wp2
  go_ret
  exact ⟨rfl, ((hb1.trans (hb2.mono hs1)).trans (hb3.mono (by omega))).trans (hb4.mono (by omega))⟩
end Go.Proofs.Ytkabmpiofpgoaaa
