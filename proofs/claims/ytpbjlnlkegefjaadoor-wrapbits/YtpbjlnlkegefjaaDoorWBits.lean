/-
  The walk of WrapBits: it returns true, and turns nothing that was there.
-/
import Derived.Test.YtpbjlnlkegefjaaDoorWKnown
import Derived.Test.YtpbjlnlkegefjaaDoorWBv
namespace Go.Proofs.YtpbjlnlkegefjaaDoor
open Go.RowKit
set_option maxHeartbeats 400000
theorem bits_walk (a b : Int) (w : World) (ha : (Lit.int .i32 a).wf = true) (_ : (Lit.int .i32 b).wf = true) (ht : Tab w) :
    Calls Tryd.prog 10 #[.int .i32 a, .int .i32 b] w fun e w' => e = .returned (.bool true) ∧ Below w.heap.size w w' := by
  have e1 : (binV 1 (binV 8 a b) (binV 9 a b) == binV 1 a b) = true := bits1 a b
  have e2 : (binV 10 a b == binV 2 (binV 9 a b) (binV 8 a b)) = true := bits2 a b
  have e3 : (binV 10 (binV 10 a b) b == a) = true := bits3 a b ha
  have e4 : (binV 8 (binV 8 a b) a == binV 8 a b) = true := bits4 a b
  go_enter Tryd.func10, Tryd.ntmps10
  go_wp2_with (first
    | (go_at_call 24; refine (bin_any _ _ _ _ (by decide) (by decide)).mono ?_; rintro e w' ⟨rfl, rfl⟩)
    | (go_at_call 13; refine (known_any _ ht).mono ?_; rintro e w' ⟨rfl, hb⟩))
  go_ret
  exact ⟨rfl, hb⟩
end Go.Proofs.YtpbjlnlkegefjaaDoor
