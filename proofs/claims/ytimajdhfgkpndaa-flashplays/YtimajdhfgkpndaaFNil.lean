/-
  The walk of the law FlashNil.
-/
import Derived.Test.YtimajdhfgkpndaaFKnown
namespace Go.Proofs.Ytimajdhfgkpndaa
open Go.RowKit
set_option maxHeartbeats 400000

theorem Keeps.back {w w1 : World} (k : Keeps [] w w1) : Below w.heap.size w w1 := Keeps.below (Below.refl _ w) k (by simp) (Nat.le_refl _)
theorem nil_walk (a v : Int) (w : World) (_ha : (Lit.int .i64 a).wf = true) (_hv : (Lit.int .u32 v).wf = true) :
    Calls Try.prog 8 #[.int .i64 a, .int .u32 v] w fun e w' => e = .returned (.bool true) ∧ Below w.heap.size w w' := by
  go_enter Try.func8, Try.ntmps8
  go_wp2_with (first
    | (go_at_call 19; refine (Start_nil _).mono ?_; rintro e w9 ⟨rfl, rfl⟩)
    | (go_at_call 15; refine (Read_nil _ _).mono ?_; rintro e w9 ⟨rfl, rfl⟩)
    | (go_at_call 13; refine (Erase_nil _ _).mono ?_; rintro e w9 ⟨rfl, rfl⟩)
    | (go_at_call 11; refine (Program_nil _ _ _).mono ?_; rintro e w9 ⟨rfl, rfl⟩)
    | (go_at_call 32; refine (Len_nil _).mono ?_; rintro e w9 ⟨rfl, rfl⟩)
    | (go_at_call 28; refine (Words_nil _).mono ?_; rintro e w9 ⟨rfl, rfl⟩)
    | (go_at_call 17; refine (Cut_nil _ _ _).mono ?_; rintro e w9 ⟨rfl, rfl⟩)
    | (go_at_call 29; refine (On_nil _).mono ?_; rintro e w9 ⟨rfl, rfl⟩)
    | (go_at_call 31; refine (Ops_nil _).mono ?_; rintro e w9 ⟨rfl, rfl⟩)
    | (go_at_call 21; refine (Copy_nil _).mono ?_; rintro e w9 ⟨rfl, rfl⟩)
    | (go_at_call 23; refine (known_any _).mono ?_; rintro e w1 ⟨rfl, k1⟩))
  go_ret
  exact ⟨rfl, k1.back⟩
end Go.Proofs.Ytimajdhfgkpndaa
