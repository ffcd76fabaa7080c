/-
  Contracts of the reference of layer 7: Append.
-/
import Derived.Test.YtahnfkoakaimhaaJRef3
import Derived.Test.YtahnfkoakaimhaaJPkg8
namespace Go.Proofs.Ytahnfkoakaimhaa
open Go.RowKit
set_option maxHeartbeats 4000000

/-- What an Append of the reference leaves, where it is neither dead nor too big. -/
def RApp (w : World) (gj gf hf k : Nat) (s : FS) (r : List UInt32) (A0 : Option Addr) (An Ac N : Nat) (e : Ending) (w' : World) : Prop :=
  e = .returned (.int .i64 (appE s k r)) ∧ Rf w' gf hf (appS s k r) ∧ Keeps [gj, gf, hf] w w' ∧
    ((appE s k r = 0 ∧ ∃ A1 c1, Blk w' gj 54 (rjC gf k A1 r.length c1 (N + 1) false) ∧ w'.ownsRow w.heap.size 37 1 (.slice A1 r.length c1) r.length (cs32 r)) ∨ (appE s k r = 7 ∧ Blk w' gj 54 (rjC gf k A0 An Ac N true)))
theorem wrap64_small {n : Int} (h0 : 0 ≤ n) (h1 : n ≤ 4611686018427387904) : IntKind.i64.wrap n = n := by
  simp [IntKind.wrap, IntKind.signed, IntKind.bits]; omega
theorem wrap32_small {n : Int} (h0 : 0 ≤ n) (h1 : n ≤ 4294967295) : IntKind.u32.wrap n = n := by
  simp [IntKind.wrap, IntKind.signed, IntKind.bits]; omega
theorem cur_lo {ws rcd3 rcd5 : List UInt32} {k n3 n5 us3 us5 : Nat} (h3 : walkW (sect ws k) = ⟨n3, rcd3, us3⟩) (h5 : walkW (sect ws (k + 1)) = ⟨n5, rcd5, us5⟩) (h : ¬ n3 < n5) : curN ws k = k ∧ othN ws k = k + 1 := by
  have hf : secB ws k = false := by unfold secB; rw [h3, h5]; simpa using h
  unfold curN othN; rw [hf]; exact ⟨rfl, rfl⟩
theorem cur_hi {ws rcd3 rcd5 : List UInt32} {k n3 n5 us3 us5 : Nat} (h3 : walkW (sect ws k) = ⟨n3, rcd3, us3⟩) (h5 : walkW (sect ws (k + 1)) = ⟨n5, rcd5, us5⟩) (h : n3 < n5) : curN ws k = k + 1 ∧ othN ws k = k := by
  have hf : secB ws k = true := by unfold secB; rw [h3, h5]; simpa using h
  unfold curN othN; rw [hf]; exact ⟨rfl, rfl⟩
theorem cur_is {ws rcd : List UInt32} {k cu n us : Nat} {cl : Bool} (hc : curN ws k = cu) (h : walkW (sect ws cu) = ⟨n, rcd, us⟩) (h2 : cleanB (sect ws cu) us = cl) : (curV ws k).num = n ∧ (curV ws k).used = us ∧ curC ws k = cl := by
  unfold curC curV; rw [hc, h]; exact ⟨rfl, rfl, h2⟩
end Go.Proofs.Ytahnfkoakaimhaa
