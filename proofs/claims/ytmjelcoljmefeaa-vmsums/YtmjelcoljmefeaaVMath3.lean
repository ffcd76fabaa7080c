/-
  Plain mathematics: the codes of VmSums. No program stands in this file.
-/
import Derived.Test.YtmjelcoljmefeaaVMath2
namespace Go.Proofs.Ytmjelcoljmefeaa
open Go.RowKit

def fS : Fr := ⟨0, 0, 0, 0, 2⟩
def badS (a b : Int) : List (Int × Int) := [(1, a), (1, b), (9, 0), (7, 0)]
def sumS (op a b w : Int) : List (Int × Int) := [(1, a), (1, b), (9, op), (7, 0), (1, w), (11, 2), (1, a), (10, 1), (1, b), (7, 1)]
section
variable {l : List (Int × Int)} {p m u : Nat} {x y z : Int} {st ou : List Int}
theorem go1 (hu : l[p]? = some (1, x)) (h : st.length < 16) : vrun fS l [] [] (m + 1) u ⟨p, st, [], [], ou⟩ = vrun fS l [] [] m (u + 1) ⟨p + 1, st ++ [x], [], [], ou⟩ := by
  have hf : vfault fS l.length 1 x ⟨p, st, [], [], ou⟩ = 0 := vfault_mk rfl (.inl (by simp [roomV])) (by simp [tak]) (by simp [tak, giv]; omega) (by simp [vjmp])
  rw [vrun_go (s := ⟨p, st, [], [], ou⟩) hu hf, vs1]
theorem go9 (hu : l[p]? = some (9, x)) (h : 1 ≤ x ∧ x ≤ 16) : vrun fS l [] [] (m + 1) u ⟨p, [y, z], [], [], ou⟩ = vrun fS l [] [] m (u + 1) ⟨p + 1, [binV x y z], [], [], ou⟩ := by
  have hf : vfault fS l.length 9 x ⟨p, [y, z], [], [], ou⟩ = 0 := vfault_mk (by simp [rgtE, h]) (.inl (by simp [roomV])) (by simp [tak]) (by simp [tak, giv]) (by simp [vjmp])
  rw [vrun_go (s := ⟨p, [y, z], [], [], ou⟩) hu hf, vs9 (m := 0) rfl]
  rfl
theorem go7 (k : Nat) (hu : l[p]? = some (7, (k : Int))) (h : k < 2) : vrun fS l [] [] (m + 1) u ⟨p, [y], [], [], ou⟩ = vrun fS l [] [] m (u + 1) ⟨p + 1, [], [], [], ou.set k y⟩ := by
  have hf : vfault fS l.length 7 (k : Int) ⟨p, [y], [], [], ou⟩ = 0 := vfault_mk (by simp [rgtE]; omega) (.inr (by simp [roomV, fS]; omega)) (by simp [tak]) (by simp [tak, giv]) (by simp [vjmp])
  rw [vrun_go (s := ⟨p, [y], [], [], ou⟩) hu hf, vs7 (m := 0) rfl]
  rfl
theorem go11z (k : Nat) (hu : l[p]? = some (11, (k : Int))) (h : k < 100) (hp : p + 1 + k ≤ l.length) : vrun fS l [] [] (m + 1) u ⟨p, [0], [], [], ou⟩ = vrun fS l [] [] m (u + 1) ⟨p + 1 + k, [], [], [], ou⟩ := by
  have hf : vfault fS l.length 11 (k : Int) ⟨p, [0], [], [], ou⟩ = 0 := vfault_mk (by simp [rgtE]; omega) (.inl (by simp [roomV])) (by simp [tak]) (by simp [tak, giv]) (by simp; omega)
  rw [vrun_go (s := ⟨p, [0], [], [], ou⟩) hu hf, vs11 (m := 0) rfl rfl]
  rfl
theorem go11n (k : Nat) (hu : l[p]? = some (11, (k : Int))) (h : k < 100) (hy : y ≠ 0) : vrun fS l [] [] (m + 1) u ⟨p, [y], [], [], ou⟩ = vrun fS l [] [] m (u + 1) ⟨p + 1, [], [], [], ou⟩ := by
  have hf : vfault fS l.length 11 (k : Int) ⟨p, [y], [], [], ou⟩ = 0 := vfault_mk (by simp [rgtE]; omega) (.inl (by simp [roomV])) (by simp [tak]) (by simp [tak, giv]) (by rintro (h9 | ⟨_, h9⟩); omega; exact absurd h9 hy)
  rw [vrun_go (s := ⟨p, [y], [], [], ou⟩) hu hf, vs11n (m := 0) (s := ⟨p, [y], [], [], ou⟩) rfl hy]
  rfl
theorem go10 (k : Nat) (hu : l[p]? = some (10, (k : Int))) (h : k < 100) (hp : p + 1 + k ≤ l.length) : vrun fS l [] [] (m + 1) u ⟨p, st, [], [], ou⟩ = vrun fS l [] [] m (u + 1) ⟨p + 1 + k, st, [], [], ou⟩ ∨ 16 < st.length := by
  by_cases h16 : 16 < st.length
  · exact .inr h16
  · left
    have hf : vfault fS l.length 10 (k : Int) ⟨p, st, [], [], ou⟩ = 0 := vfault_mk (by simp [rgtE]; omega) (.inl (by simp [roomV])) (by simp [tak]) (by simp [tak, giv]; omega) (by simp; omega)
    rw [vrun_go (s := ⟨p, st, [], [], ou⟩) hu hf, vs10]
end
theorem ini_fS : vini fS [] = ⟨0, [], [], [], [0, 0]⟩ := rfl
theorem bad_S (a b : Int) : vmV fS (badS a b) [] [] [] 9 = (9, [], [], 0) := by
  rw [vm_run (by unfold vbad; decide) (by show ¬ 600 < 4; omega), ini_fS]
  have e : (9 : Int).toNat = 8 + 1 := rfl
  rw [e, go1 (l := badS a b) rfl (by decide), go1 (l := badS a b) rfl (by simp), vrun_bad (l := badS a b) (y := 9) (x := 0) rfl (by rw [vf_right (by decide)]; decide), vf_right (by decide)]
  rfl
theorem sum_S (op a b : Int) (h : 1 ≤ op ∧ op ≤ 16) : vmV fS (sumS op a b (binV op a b)) [] [] [] 10 = (0, [], [binV op a b, if binV op a b = 0 then b else a], if binV op a b = 0 then 8 else 9) := by
  obtain ⟨w, hw⟩ : ∃ w, binV op a b = w := ⟨_, rfl⟩
  rw [hw, vm_run (by unfold vbad; decide) (by show ¬ 600 < 10; omega), ini_fS]
  have e : (10 : Int).toNat = 9 + 1 := rfl
  rw [e, go1 (l := sumS op a b w) rfl (by decide), go1 (l := sumS op a b w) rfl (by simp)]
  show vend (vrun fS (sumS op a b w) [] [] 8 2 ⟨2, [a, b], [], [], [0, 0]⟩) = _
  rw [go9 (l := sumS op a b w) (m := 7) rfl h, hw, go7 (l := sumS op a b w) (m := 6) 0 rfl (by omega), go1 (l := sumS op a b w) (m := 5) rfl (by simp)]
  show vend (vrun fS (sumS op a b w) [] [] 5 5 ⟨5, [w], [], [], [w, 0]⟩) = _
  by_cases h0 : w = 0
  · subst h0
    rw [go11z (l := sumS op a b 0) (m := 4) 2 rfl (by omega) (by show 8 ≤ 10; omega), go1 (l := sumS op a b 0) (m := 3) rfl (by simp)]
    show vend (vrun fS (sumS op a b 0) [] [] 3 7 ⟨9, [b], [], [], [0, 0]⟩) = _
    rw [go7 (l := sumS op a b 0) (m := 2) 1 rfl (by omega), vrun_end (by show 10 ≤ 10; omega)]
    rfl
  · rw [go11n (l := sumS op a b w) (m := 4) 2 rfl (by omega) h0, go1 (l := sumS op a b w) (m := 3) rfl (by simp)]
    show vend (vrun fS (sumS op a b w) [] [] 3 7 ⟨7, [a], [], [], [w, 0]⟩) = _
    rcases go10 (l := sumS op a b w) (m := 2) (u := 7) (p := 7) (st := [a]) (ou := [w, 0]) 1 rfl (by omega) (by show 9 ≤ 10; omega) with e | e
    · rw [e, go7 (l := sumS op a b w) (m := 1) 1 rfl (by omega), vrun_end (by show 10 ≤ 10; omega), if_neg h0, if_neg h0]
      rfl
    · simp at e
end Go.Proofs.Ytmjelcoljmefeaa
