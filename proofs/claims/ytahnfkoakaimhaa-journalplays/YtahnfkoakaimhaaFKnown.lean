/-
  Contracts of the laws' helpers: known.
-/
import Derived.Test.YtahnfkoakaimhaaFRep
namespace Go.Proofs.Ytahnfkoakaimhaa
open Go.RowKit
set_option maxHeartbeats 400000

def u15 : UInt32 := 15
def u255 : UInt32 := 255
def u0 : UInt32 := 0
def kn0 : FS := ofS (List.replicate (256 * 1) ones32)
def kn1 : FS := proS kn0 3 u15
def kn2 : FS := cutS kn1 0 u255
def kn3 : FS := proS kn2 4 u0
def kn4 : FS := staS kn3
theorem kn_len : kn0.ws.length = 256 := by kernel_rfl
theorem kn_e1 : proE kn0 3 = 0 := by kernel_rfl
theorem kn_e2 : cutE 0 = 0 := by kernel_rfl
theorem kn_e3 : proE kn2 4 = 7 := by kernel_rfl
theorem kn_e4 : refE kn4.on 4 kn4.ws.length = 0 := by kernel_rfl
theorem kn_v4 : (reaV kn4 4).toNat = 4294967040 := by kernel_rfl
theorem kn_o4 : kn4.ops = 1 := by kernel_rfl
theorem kn_o0 : kn0.ops = 0 := by kernel_rfl
theorem kn_o2 : kn2.ops = 1 := by kernel_rfl
theorem kn_on : kn0.on = true := by kernel_rfl
theorem New_1 (w : World) : Calls Try.prog 7 #[.int .i64 1] w (Makes w kn0) := New_any 1 (by omega) (by omega) w
theorem Len_1 (g h : Nat) (w : World) (f : Fl w g h kn0) : Calls Try.prog 36 #[.pointer (some ⟨g, 0, none⟩)] w fun e w' => e = .returned (.int .i64 256) ∧ w = w' := by
  have := Len_any g h kn0 w f
  rwa [kn_len] at this
theorem On_1 (g h : Nat) (w : World) (f : Fl w g h kn0) : Calls Try.prog 27 #[.pointer (some ⟨g, 0, none⟩)] w fun e w' => e = .returned (.bool true) ∧ w = w' := by
  have := On_any g h kn0 w f
  rwa [kn_on] at this
theorem Program_1 (g h : Nat) (w : World) (f : Fl w g h kn0) : Calls Try.prog 55 #[.pointer (some ⟨g, 0, none⟩), .int .i64 3, .int .u32 15] w (Does w g h kn1 (.int .i64 0)) := by
  have := Program_any g h kn0 3 u15 w f (by rw [kn_o0]; omega)
  rwa [kn_e1] at this
theorem Cut_1 (g h : Nat) (w : World) (f : Fl w g h kn1) : Calls Try.prog 13 #[.pointer (some ⟨g, 0, none⟩), .int .i64 0, .int .u32 255] w (Does w g h kn2 (.int .i64 0)) := by
  have := Cut_any g h kn1 0 u255 w f (by omega)
  rwa [kn_e2] at this
theorem Program_2 (g h : Nat) (w : World) (f : Fl w g h kn2) : Calls Try.prog 55 #[.pointer (some ⟨g, 0, none⟩), .int .i64 4, .int .u32 0] w (Does w g h kn3 (.int .i64 7)) := by
  have := Program_any g h kn2 4 u0 w f (by rw [kn_o2]; omega)
  rwa [kn_e3] at this
theorem New_0 (w : World) : Calls Try.prog 7 #[.int .i64 0] w fun e w' => e = .returned (.pointer none) ∧ w = w' := New_no 0 w (by kernel_rfl)
end Go.Proofs.Ytahnfkoakaimhaa
