/-
  Contract of package lex's run: how many bytes the runes have that fit at a text's beginning, for each of its five tests.
-/
import Derived.Test.YtbcgofmhplgfbaaDoorLPkg
import Derived.Shelf.Abstract
namespace Go.Proofs.YtbcgofmhplgfbaaDoor
open Go.RowKit
set_option maxHeartbeats 400000

theorem iter_below (w : World) (s : ByteArray) (p : Nat) : Below w.heap.size w (w.iter s p) := (Below.refl _ w).alloc (Nat.le_refl _) _
theorem run_gen (K : FuncId) (hE : ∀ args w, (callFunc K args).run Tryd.prog w = .ok (.enter K args) w) (p : UInt8 → Bool) (q : Int → Bool) (b : Bool) (ag : Agr p q b)
    (hK : ∀ r w, Calls Tryd.prog K #[.int .i32 r] w fun e w' => e = .returned (.bool (q r)) ∧ w = w') (s : ByteArray) (w : World) :
    Calls Tryd.prog 19 #[.string s, .func (.func K) #[] #[]] w fun e w' => e = .returned (.int .i64 (runL p s.data.toList : Nat)) ∧ Below w.heap.size w w' := by
  have HA := hide ag
  clear ag
  go_enter Tryd.func19, Tryd.ntmps19
  go_wp2
  go_loopw [] (fun wr => ∃ pos : Nat, wr = w.iter s pos ∧ Fits p s pos) (fun wr => s.size - wr.iterPos w.heap.size)
  case atStart => exact ⟨0, rfl, Nat.zero_le _, fun j hj => absurd hj (by omega)⟩
  case round =>
    obtain ⟨pos, rfl, hf⟩ := hrel
    have HF := hide hf
    clear hf
    by_cases hp : pos < s.size
    · have hnx : ∀ ty, (Instr.next (.pointer (some ⟨w.heap.size, 0, none⟩)) true ty).run Tryd.prog (w.iter s pos) = _ := fun ty => run_next_any w s pos ty hp
      rcases hq : q (Utf8.decode s pos).1
      · have HQ := hide hq
        clear hq
        go_wp2_with (refine (hK _ _).mono ?_; rw [HQ.out]; rintro e w' ⟨rfl, rfl⟩)
        go_ret
        rw [fits_stop HA.out HF.out hp HQ.out]
        exact ⟨rfl, iter_below _ _ _⟩
      · have HQ := hide hq
        clear hq
        go_wp2_with (refine (hK _ _).mono ?_; rw [HQ.out]; rintro e w' ⟨rfl, rfl⟩)
        have hst := fits_step HA.out HF.out hp HQ.out
        go_roundw
        case rel => exact ⟨_, rfl, hst.1⟩
        case measure => simp; omega
    · have hnx : ∀ ty, (Instr.next (.pointer (some ⟨w.heap.size, 0, none⟩)) true ty).run Tryd.prog (w.iter s pos) = _ := fun ty => run_next_end w s pos ty hp
      go_wp2
      go_ret
      rw [fits_end HF.out hp]
      exact ⟨rfl, iter_below _ _ _⟩
/-- What run answers. -/
def Runs (p : UInt8 → Bool) (K : FuncId) : Prop := ∀ (s : ByteArray) (w : World), Calls Tryd.prog 19 #[.string s, .func (.func K) #[] #[]] w fun e w' => e = .returned (.int .i64 (runL p s.data.toList : Nat)) ∧ Below w.heap.size w w'
theorem run_let : Runs isLet 20 := run_gen _ (enters_of Tryd.func20 (by kernel_rfl) rfl) _ _ _ agr_let isLetter_any
theorem run_dig : Runs isDig 31 := run_gen _ (enters_of Tryd.func31 (by kernel_rfl) rfl) _ _ _ agr_dig isDigit_any
theorem run_inW : Runs inW 21 := run_gen _ (enters_of Tryd.func21 (by kernel_rfl) rfl) _ _ _ agr_inW inWord_any
theorem run_blk : Runs isBlk 34 := run_gen _ (enters_of Tryd.func34 (by kernel_rfl) rfl) _ _ _ agr_blk isBlank_any
theorem run_lin : Runs inLin 36 := run_gen _ (enters_of Tryd.func36 (by kernel_rfl) rfl) _ _ _ agr_lin inLine_any
end Go.Proofs.YtbcgofmhplgfbaaDoor
