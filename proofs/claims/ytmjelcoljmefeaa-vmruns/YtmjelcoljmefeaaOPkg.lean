/-
  Contracts of package octet: Put, Get, PutRun, GetRun.
-/
import Derived.Test.YtmjelcoljmefeaaOLow
namespace Go.Proofs.Ytmjelcoljmefeaa
open Go.RowKit
set_option maxHeartbeats 400000

/-- New bytes and an error's number. -/
def Gives (w : World) (r : List UInt8) (er : Int) (e : Ending) (w' : World) : Prop :=
  ∃ A n c, e = .returned (.tuple #[.slice A n c, .int .i64 er]) ∧ w'.ownsRow w.heap.size 5 1 (.slice A n c) n (cs8 r) ∧ Below w.heap.size w w'
theorem Gives.none_ {w : World} {r : List UInt8} {er k : Int} (hr : r = []) (he : er = k) : Gives w r er (.returned (.tuple #[.slice none 0 0, .int .i64 k])) w := by
  subst hr; subst he
  exact ⟨none, 0, 0, rfl, World.ownsRow_nil _ _ _ _, Below.refl _ _⟩
theorem Gives.of {w w' : World} {r : List UInt8} {er k : Int} {m c : Nat} {A : Option Addr} (he : er = k) (ho : w'.ownsRow w.heap.size 5 1 (.slice A m c) m (cs8 r)) (hb : Below w.heap.size w w') :
    Gives w r er (.returned (.tuple #[.slice A m c, .int .i64 k])) w' := by
  subst he; exact ⟨A, m, c, rfl, ho, hb⟩
/-- New bytes, a place and an error's number. -/
def Gives3 (w : World) (r : List UInt8) (to er : Int) (e : Ending) (w' : World) : Prop :=
  ∃ A n c, e = .returned (.tuple #[.slice A n c, .int .i64 to, .int .i64 er]) ∧ w'.ownsRow w.heap.size 5 1 (.slice A n c) n (cs8 r) ∧ Below w.heap.size w w'
theorem Gives3.none_ {w : World} {r : List UInt8} {to er k : Int} (hr : r = []) (ht : to = 0) (he : er = k) : Gives3 w r to er (.returned (.tuple #[.slice none 0 0, .int .i64 0, .int .i64 k])) w := by
  subst hr; subst he; subst ht
  exact ⟨none, 0, 0, rfl, World.ownsRow_nil _ _ _ _, Below.refl _ _⟩

theorem Gives3.of {w w' : World} {r : List UInt8} {to er t k : Int} {m c : Nat} {A : Option Addr} (ht : to = t) (he : er = k) (ho : w'.ownsRow w.heap.size 5 1 (.slice A m c) m (cs8 r)) (hb : Below w.heap.size w w') :
    Gives3 w r to er (.returned (.tuple #[.slice A m c, .int .i64 t, .int .i64 k])) w' := by
  subst he; subst ht; exact ⟨A, m, c, rfl, ho, hb⟩

theorem wid_false {width : Int} (h : ¬ (1 ≤ width ∧ width ≤ 8)) : widB width = false := decide_eq_false h
theorem wid_nat {k : Nat} (h : 1 ≤ k ∧ k ≤ 8) : widB (k : Int) = true := decide_eq_true (by omega)
theorem putE_bad {width : Int} {v : Nat} (h : widB width = false) : putE width v = 1 := by unfold putE; rw [if_neg (by simp [h])]
theorem putE_nat {k v : Nat} (h : 1 ≤ k ∧ k ≤ 8) : putE (k : Int) v = if v < 256 ^ k then 0 else 3 := by unfold putE; rw [if_pos (wid_nat h)]; rfl
theorem putL_bad {l : List UInt8} {width : Int} {v : Nat} (h : putE width v ≠ 0) : putL l width v = [] := if_neg h
theorem putL_ok {l : List UInt8} {k v : Nat} (h : putE (k : Int) v = 0) : putL l (k : Int) v = l ++ leB k v := if_pos h
theorem shr_fits {k v : Nat} (h : v < 256 ^ k) : ((v : Int) / 2 ^ (8 * k) != 0) = false := by
  have e : (v : Int) / 2 ^ (8 * k) = ((v / 2 ^ (8 * k) : Nat) : Int) := by rw [Int.natCast_ediv, Int.natCast_pow]; rfl
  rw [e, Nat.div_eq_of_lt (by rwa [p256] at h)]; rfl
theorem shr_over {k v : Nat} (h : ¬ v < 256 ^ k) : ((v : Int) / 2 ^ (8 * k) != 0) = true := by
  have e : (v : Int) / 2 ^ (8 * k) = ((v / 2 ^ (8 * k) : Nat) : Int) := by rw [Int.natCast_ediv, Int.natCast_pow]; rfl
  rw [p256] at h
  have := Nat.div_pos (Nat.le_of_not_lt h) (Nat.pow_pos (n := 8 * k) (show 0 < 2 by omega))
  rw [e, bne_iff_ne]; omega

-- Get
theorem getE_bad {n : Nat} {a width : Int} (h : ¬ (widB width = true ∧ 0 ≤ a ∧ a ≤ n)) : getE n a width = 1 := if_neg h
theorem getE_nat {n a k : Nat} (hk : 1 ≤ k ∧ k ≤ 8) (ha : a ≤ n) : getE n (a : Int) (k : Int) = if a + k ≤ n then 0 else 2 := by
  unfold getE; rw [if_pos ⟨wid_nat hk, by omega, by omega⟩]
  by_cases h : a + k ≤ n
  · rw [if_pos h, if_pos (by omega)]
  · rw [if_neg h, if_neg (by omega)]
theorem getN_bad {l : List UInt8} {a width : Int} (h : getE l.length a width ≠ 0) : getN l a width = 0 := if_neg h
theorem getN_ok {l : List UInt8} {a k : Nat} (h : getE l.length (a : Int) (k : Int) = 0) : getN l (a : Int) (k : Int) = leN ((l.drop a).take k) := if_pos h
theorem ret_get {a b : Int} {p q : Int} (h : a = b) (g : p = q) : Ending.returned (.tuple #[.int .u64 a, .int .i64 p]) = .returned (.tuple #[.int .u64 b, .int .i64 q]) := by rw [h, g]
-- PutRun
theorem prE_ok {x : List UInt8} (h : x.length ≤ 65535) : prE x = 0 := if_pos h
theorem prE_bad {x : List UInt8} (h : ¬ x.length ≤ 65535) : prE x = 3 := if_neg h
theorem prL_ok {b x : List UInt8} (h : x.length ≤ 65535) : prL b x = b ++ leB 2 x.length ++ x := if_pos h
theorem prL_bad {b x : List UInt8} (h : ¬ x.length ≤ 65535) : prL b x = [] := if_neg h
end Go.Proofs.Ytmjelcoljmefeaa
