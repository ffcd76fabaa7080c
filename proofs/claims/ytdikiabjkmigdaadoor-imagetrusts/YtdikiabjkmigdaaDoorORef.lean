/-
  Contracts of the reference of layer 2 (midstreamref02): digits, join, Put, Get, PutRun, GetRun.
-/
import Derived.Test.YtdikiabjkmigdaaDoorOPkg3
import Derived.Deep.QuietTactic
import Derived.BigQuiet
namespace Go.Proofs.YtdikiabjkmigdaaDoor
set_option maxRecDepth 20000
open Go.RowKit
set_option maxHeartbeats 400000

theorem own_base {w : World} {base base' : Nat} {e : TypeId} {v : Value} {n : Nat} {xs : List Value} (hb : base' ≤ base) (h : w.ownsRow base e 1 v n xs) : w.ownsRow base' e 1 v n xs := by
  refine ⟨h.1, ?_⟩
  rcases h.2 with h2 | ⟨g, cap, cur, hv, hg, r⟩
  · exact .inl h2
  · exact .inr ⟨g, cap, cur, hv, Nat.le_trans hb hg, r⟩
theorem Gives.none_at {w w' : World} {r : List UInt8} {er k : Int} (hr : r = []) (he : er = k) (hb : Below w.heap.size w w') : Gives w r er (.returned (.tuple #[.slice none 0 0, .int .i64 k])) w' := by
  subst hr; subst he
  exact ⟨none, 0, 0, rfl, World.ownsRow_nil _ _ _ _, hb⟩
theorem rem_byte (v j : Nat) : ((v / 256 ^ j : Nat) : Int) % 256 = ((byt (v / 256 ^ j)).toNat : Int) := by rw [byt_toNat]; omega
theorem cs8_dig (j v : Nat) : cs8 (leB (j + 1) v) = cs8 (leB j v) ++ [.int .u8 (((v / 256 ^ j : Nat) : Int) % 256)] := by rw [leB_succ, cs8_snoc, rem_byte]
theorem div_next (v j : Nat) : v / 256 ^ j / 256 = v / 256 ^ (j + 1) := by rw [Nat.div_div_eq_div_mul, Nat.pow_succ]
def DigPost (w : World) (k v : Nat) (e : Ending) (w' : World) : Prop :=
  ∃ (A : Option Addr) (n c x : Nat), e = .returned (.tuple #[.slice A n c, .int .u64 (x : Int)]) ∧ Hid (x = v / 256 ^ k) ∧ w'.ownsRow w.heap.size 5 1 (.slice A n c) n (cs8 (leB k v)) ∧ Below w.heap.size w w'
theorem left_none {x v k : Nat} (h : x = v / 256 ^ k) (hf : v < 256 ^ k) : ((x : Int) != 0) = false := by
  rw [h, Nat.div_eq_of_lt hf]; rfl
theorem left_some {x v k : Nat} (h : x = v / 256 ^ k) (hf : ¬ v < 256 ^ k) : ((x : Int) != 0) = true := by
  have := Nat.div_pos (Nat.le_of_not_lt hf) (Nat.pow_pos (n := k) (show 0 < 256 by omega))
  rw [h, bne_iff_ne]; omega
end Go.Proofs.YtdikiabjkmigdaaDoor
