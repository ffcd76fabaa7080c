/-
  The walk of WrapRing: it returns true, and turns nothing that was there.
-/
import Derived.Test.YtpbjlnlkegefjaaDoorWKnown
import Derived.Test.YtpbjlnlkegefjaaDoorWBv
namespace Go.Proofs.YtpbjlnlkegefjaaDoor
open Go.RowKit
set_option maxHeartbeats 400000
theorem ring_walk (a b c : Int) (w : World) (ha : (Lit.int .i32 a).wf = true) (_ : (Lit.int .i32 b).wf = true) (_ : (Lit.int .i32 c).wf = true) (ht : Tab w) :
    Calls Tryd.prog 6 #[.int .i32 a, .int .i32 b, .int .i32 c] w fun e w' => e = .returned (.bool true) ∧ Below w.heap.size w w' := by
  have e1 := ring1 a b
  have e2 := ring2 a b c
  have e3 := ring3 a b
  have e4 := ring4 a b c
  have e5 := ring5 a b c
  have e6 := ring6 a
  have e7 := ring7 a b
  have e8 := ring8 a ha
  have e9 : unB 1 = true := rfl
  go_enter Tryd.func6, Tryd.ntmps6
  go_wp2_with (first
    | (go_at_call 24; refine (bin_any _ _ _ _ (by decide) (by decide)).mono ?_; rintro e w' ⟨rfl, rfl⟩)
    | (go_at_call 14; refine (Un_any _ _ _).mono ?_; rintro e w' ⟨rfl, rfl⟩)
    | (go_at_call 13; refine (known_any _ ht).mono ?_; rintro e w' ⟨rfl, hb⟩))
  go_ret
  exact ⟨rfl, hb⟩
end Go.Proofs.YtpbjlnlkegefjaaDoor
