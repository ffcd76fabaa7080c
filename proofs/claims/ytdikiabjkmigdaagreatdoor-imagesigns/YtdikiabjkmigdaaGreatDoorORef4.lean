/-
  Contracts of the reference of layer 2 (midstreamref02): Bytes, Signed, Plain, Lent, Kept, Spoil, Same.
-/
import Derived.Test.YtdikiabjkmigdaaGreatDoorORef3
namespace Go.Proofs.YtdikiabjkmigdaaGreatDoor
set_option maxRecDepth 20000
open Go.RowKit
set_option maxHeartbeats 400000

/-- A row of the call's own that lies ahead of what is new stays as it is. -/
theorem own_keep {w w' : World} {base : Nat} {e : TypeId} {v : Value} {n : Nat} {xs : List Value} (h : w.ownsRow base e 1 v n xs) (hb : Below w.heap.size w w') : w'.ownsRow base e 1 v n xs := by
  refine ⟨h.1, ?_⟩
  rcases h.2 with h2 | ⟨g, cap, cur, hv, hg, hh, r⟩
  · exact .inl h2
  · exact .inr ⟨g, cap, cur, hv, hg, (hb.block g (Array.getElem?_eq_some_iff.1 hh).1).trans hh, r⟩
theorem rSigned_int (v : Int) (w : World) (h0 : 0 ≤ v) (h1 : v ≤ 4294967295) : Calls Tryz.prog 65 #[.int .u32 v] w fun e w' => e = .returned (.int .i32 (wrap32 v)) ∧ w = w' := by
  by_cases h : 2147483648 ≤ v
  · have HE := hide (show wrap32 v = v - 4294967296 by unfold wrap32; omega)
    go_enter Tryz.func65, Tryz.ntmps65
    go_wp2
    go_ret
    exact ⟨ret_int (by first | exact HE.out.symm | (rw [HE.out]; unfold wrap32; omega)), rfl⟩
  · go_enter Tryz.func65, Tryz.ntmps65
    go_wp2
    go_ret
    exact ⟨ret_int (by first | rfl | (unfold wrap32; omega)), rfl⟩
theorem rSigned_any (n : UInt32) (w : World) : Calls Tryz.prog 65 #[.int .u32 (n.toNat : Int)] w fun e w' => e = .returned (.int .i32 (wrap32 n.toNat)) ∧ w = w' :=
  rSigned_int _ w (by omega) (by have := n.toNat_lt; omega)
theorem rPlain_any (a : Int) (w : World) (h1 : -2147483648 ≤ a) (h2 : a ≤ 2147483647) : Calls Tryz.prog 57 #[.int .i32 a] w fun e w' => e = .returned (.int .u32 (a % 4294967296)) ∧ w = w' := by
  by_cases h : a < 0
  · go_enter Tryz.func57, Tryz.ntmps57
    go_wp2
    go_ret
    exact ⟨ret_int (by first | rfl | omega), rfl⟩
  · go_enter Tryz.func57, Tryz.ntmps57
    go_wp2
    go_ret
    exact ⟨ret_int (by first | rfl | omega), rfl⟩
end Go.Proofs.YtdikiabjkmigdaaGreatDoor
