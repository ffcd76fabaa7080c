/-
  The walks of WrapBins and WrapUns: each returns true, and turns nothing that was there.
-/
import Derived.Test.YtpbjlnlkegefjaaDoorWKnown
import Derived.Test.YtpbjlnlkegefjaaDoorWRefB
namespace Go.Proofs.YtpbjlnlkegefjaaDoor
open Go.RowKit
set_option maxHeartbeats 400000
theorem bins_walk (op a b : Int) (w : World) (_ : (Lit.int .i64 op).wf = true) (ha : (Lit.int .i32 a).wf = true) (hb : (Lit.int .i32 b).wf = true) (ht : Tab w) :
    Calls Tryd.prog 3 #[.int .i64 op, .int .i32 a, .int .i32 b] w fun e w' => e = .returned (.bool true) ∧ Below w.heap.size w w' := by
  have HA : Hid _ := ha
  have HB : Hid _ := hb
  clear ha hb
  go_enter Tryd.func3, Tryd.ntmps3
  go_wp2_with (first
    | (go_at_call 11; refine (Bin_any _ _ _ _).mono ?_; rintro e w' ⟨rfl, rfl⟩)
    | (go_at_call 12; refine (rBin_any _ _ _ _ HA.out HB.out).mono ?_; rintro e w' ⟨rfl, rfl⟩)
    | (go_at_call 13; refine (known_any _ ht).mono ?_; rintro e w' ⟨rfl, hb⟩))
  go_ret
  exact ⟨rfl, hb⟩
theorem uns_walk (op a n : Int) (w : World) (_ : (Lit.int .i64 op).wf = true) (ha : (Lit.int .i32 a).wf = true) (_ : (Lit.int .i64 n).wf = true) (ht : Tab w) :
    Calls Tryd.prog 4 #[.int .i64 op, .int .i32 a, .int .i64 n] w fun e w' => e = .returned (.bool true) ∧ Below w.heap.size w w' := by
  have HA : Hid _ := ha
  clear ha
  go_enter Tryd.func4, Tryd.ntmps4
  go_wp2_with (first
    | (go_at_call 14; refine (Un_any _ _ _).mono ?_; rintro e w' ⟨rfl, rfl⟩)
    | (go_at_call 15; refine (rUn_any _ _ _ HA.out).mono ?_; rintro e w' ⟨rfl, rfl⟩)
    | (go_at_call 16; refine (of_any _ _).mono ?_; rintro e w' ⟨rfl, rfl⟩)
    | (go_at_call 17; refine (low_any _ _).mono ?_; rintro e w' ⟨rfl, rfl⟩)
    | (go_at_call 18; refine (truth_any _ _).mono ?_; rintro e w' ⟨rfl, rfl⟩)
    | (go_at_call 19; refine (rtruth_any _ _).mono ?_; rintro e w' ⟨rfl, rfl⟩)
    | (go_at_call 13; refine (known_any _ ht).mono ?_; rintro e w' ⟨rfl, hb⟩))
  go_ret
  exact ⟨rfl, hb⟩
end Go.Proofs.YtpbjlnlkegefjaaDoor
