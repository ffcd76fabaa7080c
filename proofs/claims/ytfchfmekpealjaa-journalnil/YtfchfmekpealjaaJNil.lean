/-
  The walk of the law JournalNil.
-/
import Derived.Test.YtfchfmekpealjaaJPkg5
import Derived.Test.YtfchfmekpealjaaJKnown
namespace Go.Proofs.Ytfchfmekpealjaa
open Go.RowKit
set_option maxHeartbeats 2000000

set_option maxRecDepth 10000 in
theorem nil_walk (at_ : Int) (A : Option Addr) (n c : Nat) (l : List UInt32) (w : World) (_hn : (Lit.int .i64 at_).wf = true) (_hr : Row w w.heap.size A n c (cs32 l)) :
    Calls Try.prog 8 #[.int .i64 at_, .slice A n c] w fun e w' => e = .returned (.bool true) ∧ Below w.heap.size w w' := by
  have b1 := Blk.new w 64 [.pointer none, .int .i64 0, .int .i64 0, .slice none 0 0, .int .u32 0, .int .i64 0, .bool false, .bool false]
  have c0 := b1.cell (j := 0) rfl
  have k1 : Keeps [] w (w.alloc (.cells #[.pointer none, .int .i64 0, .int .i64 0, .slice none 0 0, .int .u32 0, .int .i64 0, .bool false, .bool false] 64)) := (Keeps.refl _ _).alloc _
  have K1 := hide k1
  clear k1 b1
  go_enter Try.func8, Try.ntmps8
  go_wp2_with fail
  refine (Open_nil _ _).mono ?_
  rintro e w1 ⟨rfl, rfl⟩
  go_wp2_with fail
  refine (Last_nil _).mono ?_
  rintro e w1 ⟨rfl, rfl⟩
  go_wp2_with fail
  generalize w.alloc (.cells #[.pointer none, .int .i64 0, .int .i64 0, .slice none 0 0, .int .u32 0, .int .i64 0, .bool false, .bool false] 64) = w2 at c0 K1 ⊢
  refine (Last_zero w.heap.size w2 c0).mono ?_
  rintro e w1 ⟨rfl, rfl⟩
  go_wp2_with fail
  refine (Append_nil _ _ _ _).mono ?_
  rintro e w1 ⟨rfl, rfl⟩
  go_wp2_with fail
  refine (Append_zero _ _ _ w.heap.size w2 c0).mono ?_
  rintro e w1 ⟨rfl, rfl⟩
  go_wp2_with fail
  refine (known_any _).mono ?_
  rintro e w3 ⟨rfl, k2⟩
  go_wp2
  go_ret
  exact ⟨rfl, (K1.out.trans k2 (by simp)).back⟩
end Go.Proofs.Ytfchfmekpealjaa
