/-
  Contracts of package isa: formatOf, widthOf, within, Right, Size; of the reference: width, Right.
-/
import Derived.Test.YtdikiabjkmigdaaGreatDoorIMath
import Derived.Test.YtdikiabjkmigdaaGreatDoorOLent
import Derived.Laws.Rows
import Derived.Laws.Tables
import Derived.Laws.ResultCell
import Derived.Laws.NewBlocks
import Derived.Deep.RegionLaw
import Derived.Deep.RegionHeld3
import Derived.BigQuiet
import Derived.BigRegion
namespace Go.Proofs.YtdikiabjkmigdaaGreatDoor
set_option maxRecDepth 20000
open Go.RowKit
set_option maxHeartbeats 400000

theorem formatOf_any (o : Int) (w : World) : Calls Tryz.prog 101 #[.int .i64 o] w fun e w' => e = .returned (.int .i64 (fmtV o)) ∧ w = w' := by
  by_cases h : 1 ≤ o ∧ o ≤ 11
  · rcases (show o = 1 ∨ o = 2 ∨ o = 3 ∨ o = 4 ∨ o = 5 ∨ o = 6 ∨ o = 7 ∨ o = 8 ∨ o = 9 ∨ o = 10 ∨ o = 11 by omega) with rfl | rfl | rfl | rfl | rfl | rfl | rfl | rfl | rfl | rfl | rfl
    all_goals
      clear h
      go_enter Tryz.func101, Tryz.ntmps101
      go_wp2
      go_ret
      exact ⟨ret_int (by decide), rfl⟩
  · have H := hide (show fmtV o = 0 by unfold fmtV; rw [if_neg (by omega), if_neg (by omega), if_neg (by omega), if_neg (by omega), if_neg (by omega)])
    have e1 : (o == 1) = false := by rw [beq_eq_false_iff_ne]; omega
    have e2 : (o == 2) = false := by rw [beq_eq_false_iff_ne]; omega
    have e3 : (o == 3) = false := by rw [beq_eq_false_iff_ne]; omega
    have e4 : (o == 4) = false := by rw [beq_eq_false_iff_ne]; omega
    have e5 : (o == 5) = false := by rw [beq_eq_false_iff_ne]; omega
    have e6 : (o == 6) = false := by rw [beq_eq_false_iff_ne]; omega
    have e7 : (o == 7) = false := by rw [beq_eq_false_iff_ne]; omega
    have e8 : (o == 8) = false := by rw [beq_eq_false_iff_ne]; omega
    have e9 : (o == 9) = false := by rw [beq_eq_false_iff_ne]; omega
    have e10 : (o == 10) = false := by rw [beq_eq_false_iff_ne]; omega
    have e11 : (o == 11) = false := by rw [beq_eq_false_iff_ne]; omega
    clear h
    go_enter Tryz.func101, Tryz.ntmps101
    go_wp2
    go_ret
    exact ⟨ret_int H.out.symm, rfl⟩
theorem rWidth_any (o : Int) (w : World) : Calls Tryz.prog 112 #[.int .i64 o] w fun e w' => e = .returned (.int .i64 (wid o : Int)) ∧ w = w' := by
  by_cases h : 1 ≤ o ∧ o ≤ 11
  · rcases (show o = 1 ∨ o = 2 ∨ o = 3 ∨ o = 4 ∨ o = 5 ∨ o = 6 ∨ o = 7 ∨ o = 8 ∨ o = 9 ∨ o = 10 ∨ o = 11 by omega) with rfl | rfl | rfl | rfl | rfl | rfl | rfl | rfl | rfl | rfl | rfl
    all_goals
      clear h
      go_enter Tryz.func112, Tryz.ntmps112
      go_wp2
      go_ret
      exact ⟨ret_int (by decide), rfl⟩
  · have H := hide (wid_out h)
    have e1 : (o == 1) = false := by rw [beq_eq_false_iff_ne]; omega
    have e2 : (o == 2) = false := by rw [beq_eq_false_iff_ne]; omega
    have e3 : (o == 3) = false := by rw [beq_eq_false_iff_ne]; omega
    have e4 : (o == 4) = false := by rw [beq_eq_false_iff_ne]; omega
    have e5 : (o == 5) = false := by rw [beq_eq_false_iff_ne]; omega
    have e6 : (o == 6) = false := by rw [beq_eq_false_iff_ne]; omega
    have e7 : (o == 7) = false := by rw [beq_eq_false_iff_ne]; omega
    have e8 : (o == 8) = false := by rw [beq_eq_false_iff_ne]; omega
    have e9 : (o == 9) = false := by rw [beq_eq_false_iff_ne]; omega
    have e10 : (o == 10) = false := by rw [beq_eq_false_iff_ne]; omega
    have e11 : (o == 11) = false := by rw [beq_eq_false_iff_ne]; omega
    clear h
    go_enter Tryz.func112, Tryz.ntmps112
    go_wp2
    go_ret
    exact ⟨ret_int (by rw [H.out]; rfl), rfl⟩
theorem widthOf_any (o : Int) (w : World) (h : 1 ≤ o ∧ o ≤ 11) : Calls Tryz.prog 100 #[.int .i64 (fmtV o)] w fun e w' => e = .returned (.int .i64 (wid o : Int)) ∧ w = w' := by
  rcases (show o = 1 ∨ o = 2 ∨ o = 3 ∨ o = 4 ∨ o = 5 ∨ o = 6 ∨ o = 7 ∨ o = 8 ∨ o = 9 ∨ o = 10 ∨ o = 11 by omega) with rfl | rfl | rfl | rfl | rfl | rfl | rfl | rfl | rfl | rfl | rfl
  all_goals
    clear h
    first | rw [show fmtV 1 = 1 by decide] | rw [show fmtV 2 = 2 by decide] | rw [show fmtV 3 = 2 by decide] | rw [show fmtV 4 = 2 by decide] | rw [show fmtV 5 = 2 by decide] | rw [show fmtV 6 = 2 by decide] | rw [show fmtV 7 = 2 by decide] | rw [show fmtV 8 = 3 by decide] | rw [show fmtV 9 = 4 by decide] | rw [show fmtV 10 = 5 by decide] | rw [show fmtV 11 = 5 by decide]
    go_enter Tryz.func100, Tryz.ntmps100
    go_wp2
    go_ret
    exact ⟨ret_int (by decide), rfl⟩
def inE (x lo hi e : Int) : Int := if lo ≤ x ∧ x ≤ hi then 0 else e
theorem within_any (x lo hi e : Int) (w : World) : Calls Tryz.prog 117 #[.int .i32 x, .int .i32 lo, .int .i32 hi, .int .i64 e] w fun e' w' => e' = .returned (.int .i64 (inE x lo hi e)) ∧ w = w' := by
  by_cases h1 : x < lo
  · have H := hide (show inE x lo hi e = e from if_neg (by omega))
    have d1 : decide (x < lo) = true := by simpa using h1
    go_enter Tryz.func117, Tryz.ntmps117
    go_wp2
    go_ret
    exact ⟨ret_int H.out.symm, rfl⟩
  · have d1 : decide (x < lo) = false := by simpa using h1
    by_cases h2 : hi < x
    · have H := hide (show inE x lo hi e = e from if_neg (by omega))
      have d2 : decide (hi < x) = true := by simpa using h2
      go_enter Tryz.func117, Tryz.ntmps117
      go_wp2
      go_ret
      exact ⟨ret_int H.out.symm, rfl⟩
    · have H := hide (show inE x lo hi e = 0 from if_pos (by omega))
      have d2 : decide (hi < x) = false := by simpa using h2
      go_enter Tryz.func117, Tryz.ntmps117
      go_wp2
      go_ret
      exact ⟨ret_int H.out.symm, rfl⟩

/-- A number, memory as it was below. -/
def Tells (w : World) (k : Int) (e : Ending) (w' : World) : Prop := e = .returned (.int .i64 k) ∧ Below w.heap.size w w'
def insV (o x : Int) : Value := .agg #[.int .i64 o, .int .i32 x]
theorem below_box (w : World) (o : Obj) : Below w.heap.size w (w.alloc o) := (Below.refl _ w).alloc (Nat.le_refl _) o
theorem iRight_any (o x : Int) (w : World) : Calls Tryz.prog 99 #[.agg #[.int .i64 o, .int .i32 x]] w (Tells w (rgtE o x)) := by
  by_cases h : 1 ≤ o ∧ o ≤ 11
  · rcases (show o = 1 ∨ (o = 2 ∨ o = 3 ∨ o = 4 ∨ o = 5 ∨ o = 6 ∨ o = 7) ∨ o = 8 ∨ o = 9 ∨ (o = 10 ∨ o = 11) by omega) with h1 | h1 | h1 | h1 | h1
    · have HF := show fmtV o = 1 by subst h1; decide
      have H := hide (show rgtE o x = 0 by subst h1; rfl)
      clear h h1
      go_enter Tryz.func99, Tryz.ntmps99
      go_wp2_with (go_at_call 101; refine (formatOf_any _ _).mono ?_; rintro e w' ⟨rfl, rfl⟩; rw [HF])
      go_ret
      exact ⟨ret_int H.out.symm, below_box _ _⟩
    · have HF := show fmtV o = 2 by rcases h1 with rfl | rfl | rfl | rfl | rfl | rfl <;> decide
      have H := hide (show rgtE o x = inE x 0 255 10 by unfold rgtE; rw [if_neg (by omega), if_neg (by omega), if_neg (by omega), if_neg (by omega), if_pos (by omega)]; rfl)
      clear h h1
      go_enter Tryz.func99, Tryz.ntmps99
      go_wp2_with (first
        | (go_at_call 101; refine (formatOf_any _ _).mono ?_; rintro e w' ⟨rfl, rfl⟩; rw [HF])
        | (go_at_call 117; refine (within_any _ _ _ _ _).mono ?_; rintro e w' ⟨rfl, rfl⟩))
      go_ret
      exact ⟨ret_int H.out.symm, below_box _ _⟩
    · have HF := show fmtV o = 3 by subst h1; decide
      have H := hide (show rgtE o x = inE x 1 2 9 by subst h1; rfl)
      clear h h1
      go_enter Tryz.func99, Tryz.ntmps99
      go_wp2_with (first
        | (go_at_call 101; refine (formatOf_any _ _).mono ?_; rintro e w' ⟨rfl, rfl⟩; rw [HF])
        | (go_at_call 117; refine (within_any _ _ _ _ _).mono ?_; rintro e w' ⟨rfl, rfl⟩))
      go_ret
      exact ⟨ret_int H.out.symm, below_box _ _⟩
    · have HF := show fmtV o = 4 by subst h1; decide
      have H := hide (show rgtE o x = inE x 1 16 9 by subst h1; rfl)
      clear h h1
      go_enter Tryz.func99, Tryz.ntmps99
      go_wp2_with (first
        | (go_at_call 101; refine (formatOf_any _ _).mono ?_; rintro e w' ⟨rfl, rfl⟩; rw [HF])
        | (go_at_call 117; refine (within_any _ _ _ _ _).mono ?_; rintro e w' ⟨rfl, rfl⟩))
      go_ret
      exact ⟨ret_int H.out.symm, below_box _ _⟩
    · have HF := show fmtV o = 5 by rcases h1 with rfl | rfl <;> decide
      have H := hide (show rgtE o x = inE x 0 65535 10 by rcases h1 with rfl | rfl <;> rfl)
      clear h h1
      go_enter Tryz.func99, Tryz.ntmps99
      go_wp2_with (first
        | (go_at_call 101; refine (formatOf_any _ _).mono ?_; rintro e w' ⟨rfl, rfl⟩; rw [HF])
        | (go_at_call 117; refine (within_any _ _ _ _ _).mono ?_; rintro e w' ⟨rfl, rfl⟩))
      go_ret
      exact ⟨ret_int H.out.symm, below_box _ _⟩
  · have HF := show fmtV o = 0 by unfold fmtV; rw [if_neg (by omega), if_neg (by omega), if_neg (by omega), if_neg (by omega), if_neg (by omega)]
    have H := hide (rgt_bad (x := x) (wid_out h))
    clear h
    go_enter Tryz.func99, Tryz.ntmps99
    go_wp2_with (go_at_call 101; refine (formatOf_any _ _).mono ?_; rintro e w' ⟨rfl, rfl⟩; rw [HF])
    go_ret
    exact ⟨ret_int H.out.symm, below_box _ _⟩
end Go.Proofs.YtdikiabjkmigdaaGreatDoor
