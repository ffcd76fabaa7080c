/-
  Contracts of the document's own Bin and Un: they give what package wrap's do.
-/
import Derived.Test.YtmjelcoljmefeaaWRef
namespace Go.Proofs.Ytmjelcoljmefeaa
open Go.RowKit
set_option maxHeartbeats 1000000

set_option maxRecDepth 100000 in
theorem rBin_any (op a b : Int) (w : World) (ha : (Lit.int .i32 a).wf = true) (hb : (Lit.int .i32 b).wf = true) :
    Calls Try.prog 42 #[.int .i64 op, .int .i32 a, .int .i32 b] w fun e w' => e = .returned (.tuple #[.int .i32 (binV op a b), .bool (binB op)]) ∧ w = w' := by
  obtain ⟨a1, a2⟩ := of_wf ha
  obtain ⟨b1, b2⟩ := of_wf hb
  have k0 := five_eq b
  have k1 := five_le b
  have p1 := p2_pos (five b)
  have p3 := p2_31 k1
  obtain ⟨m1, m2⟩ := mul_bd (A := 2147483648) (B := 2147483648) (show -2147483648 ≤ a by omega) (by omega) (show -2147483648 ≤ b by omega) (by omega)
  obtain ⟨m3, m4⟩ := mul_bd (A := 2147483648) (B := 2147483648) (show -2147483648 ≤ a by omega) (by omega) (show -2147483648 ≤ p2 (five b) by omega) (by omega)
  obtain ⟨o1, o2⟩ := overV_bd (b := b) a1 a2
  obtain ⟨m5, m6⟩ := mul_bd (A := 2147483648) (B := 2147483648) (show -2147483648 ≤ overV a b by omega) (by omega) (show -2147483648 ≤ b by omega) (by omega)
  have r4 : Hid _ := quo_plain (a := a) (b := b)
  have r5 : Hid _ := rem_plain (a := a) (b := b)
  have r6 : Hid _ := shl_plain a b
  have r7 : Hid _ := shr_plain (b := b) ha
  have r8 : Hid _ := wrap_op0 a b
  have r9 : Hid _ := wrap_op1 a b
  have r10 : Hid _ := wrap_op2 a b
  clear ha hb
  by_cases h : op < 1 ∨ 16 < op
  · have hv : Hid (binV op a b = 0) := by unfold Hid binV; simp (disch := omega) only [if_neg]
    have hB : Hid (binB op = false) := by unfold Hid binB; simp; omega
    clear m1 m2 m3 m4 m5 m6 o1 o2
    rcases h with h | h
    all_goals
      go_enter Try.func42, Try.ntmps42
      go_wp2_with (go_at_call 60; refine (plain_any _ _ (by omega) (by omega)).mono ?_; rintro e w' ⟨rfl, rfl⟩)
      go_ret2
      exact ⟨ret_two hv.out.symm hB.out.symm, rfl⟩
  have hop : op = 1 ∨ op = 2 ∨ op = 3 ∨ op = 4 ∨ op = 5 ∨ op = 6 ∨ op = 7 ∨ op = 8 ∨ op = 9 ∨ op = 10 ∨ op = 11 ∨ op = 12 ∨ op = 13 ∨ op = 14 ∨ op = 15 ∨ op = 16 := by omega
  clear h
  rcases hop with rfl | rfl | rfl | rfl | rfl | rfl | rfl | rfl | rfl | rfl | rfl | rfl | rfl | rfl | rfl | rfl
  all_goals
    go_enter Try.func42, Try.ntmps42
    go_wp2_with (first
      | (go_at_call 60; refine (plain_any _ _ (by omega) (by omega)).mono ?_; rintro e w' ⟨rfl, rfl⟩)
      | (go_at_call 58; refine (low_any _ _).mono ?_; rintro e w' ⟨rfl, rfl⟩)
      | (go_at_call 61; refine (over_any _ _ _ (by omega) (by omega) (by omega) (by omega)).mono ?_; rintro e w' ⟨rfl, rfl⟩)
      | (go_at_call 62; refine (power_any _ _ (by omega)).mono ?_; rintro e w' ⟨rfl, rfl⟩)
      | (go_at_call 63; refine (floor_any _ _ _ (by omega) (by omega) (by omega) (by omega)).mono ?_; rintro e w' ⟨rfl, rfl⟩)
      | (go_at_call 64; refine (bits_any _ _ _ _ (by omega) (by omega) (by omega) (by omega) (by decide)).mono ?_; rintro e w' ⟨rfl, rfl⟩)
      | (go_at_call 59; refine (rtruth_any _ _).mono ?_; rintro e w' ⟨rfl, rfl⟩))
    go_ret2
    exact ⟨ret_two (by first | rfl | exact r4.out | exact r5.out | exact r6.out | exact r7.out | exact r8.out | exact r9.out | exact r10.out) rfl, rfl⟩

theorem rUn_any (op a : Int) (w : World) (ha : (Lit.int .i32 a).wf = true) :
    Calls Try.prog 41 #[.int .i64 op, .int .i32 a] w fun e w' => e = .returned (.tuple #[.int .i32 (unV op a), .bool (unB op)]) ∧ w = w' := by
  obtain ⟨a1, a2⟩ := of_wf ha
  clear ha
  by_cases h1 : op = 1
  · subst h1
    go_enter Try.func41, Try.ntmps41
    go_wp2_with (go_at_call 58; refine (low_any _ _).mono ?_; rintro e w' ⟨rfl, rfl⟩)
    go_ret2
    exact ⟨ret_two rfl rfl, rfl⟩
  by_cases h2 : op = 2
  · subst h2
    go_enter Try.func41, Try.ntmps41
    go_wp2_with (go_at_call 59; refine (rtruth_any _ _).mono ?_; rintro e w' ⟨rfl, rfl⟩)
    go_ret2
    exact ⟨ret_two rfl rfl, rfl⟩
  have hv : Hid (unV op a = 0) := by unfold Hid unV; simp (disch := omega) only [if_neg]
  have hB : Hid (unB op = false) := by unfold Hid unB; simp; omega
  go_enter Try.func41, Try.ntmps41
  go_wp2
  go_ret2
  exact ⟨ret_two hv.out.symm hB.out.symm, rfl⟩
end Go.Proofs.Ytmjelcoljmefeaa
