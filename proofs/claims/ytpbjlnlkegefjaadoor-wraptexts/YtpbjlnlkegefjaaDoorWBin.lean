/-
  Contracts of package wrap's Bin, Un, Of and Truth, and of the statements' own helper bin: what each call returns; no memory is touched.
-/
import Derived.Test.YtpbjlnlkegefjaaDoorChecked
import Derived.Test.YtpbjlnlkegefjaaDoorWMath
namespace Go.Proofs.YtpbjlnlkegefjaaDoor
open Go.RowKit
set_option maxHeartbeats 400000

theorem quo_any (a b : Int) (w : World) : Calls Tryd.prog 25 #[.int .i32 a, .int .i32 b] w fun e w' => e = .returned (.int .i32 (quoV a b)) ∧ w = w' := by
  by_cases hb : b = 0
  · subst hb
    go_enter Tryd.func25, Tryd.ntmps25
    go_wp2
    go_ret
    exact ⟨rfl, rfl⟩
  · have hq : Hid (quoV a b = wrap32 (a.tdiv b)) := if_neg hb
    go_enter Tryd.func25, Tryd.ntmps25
    go_wp2
    go_ret
    exact ⟨ret_int hq.out.symm, rfl⟩

theorem places_any (b : Int) (w : World) : Calls Tryd.prog 26 #[.int .i32 b] w fun e w' => e = .returned (.int .u32 (b % 32)) ∧ w = w' := by
  go_enter Tryd.func26, Tryd.ntmps26
  go_wp2
  go_ret
  exact ⟨ret_int (sh_eq b), rfl⟩

theorem truth_any (p : Bool) (w : World) : Calls Tryd.prog 18 #[.bool p] w fun e w' => e = .returned (.int .i32 (truV p)) ∧ w = w' := by
  cases p
  all_goals
    go_enter Tryd.func18, Tryd.ntmps18
    go_wp2
    go_ret
    exact ⟨rfl, rfl⟩

theorem of_any (n : Int) (w : World) : Calls Tryd.prog 16 #[.int .i64 n] w fun e w' => e = .returned (.int .i32 (wrap32 n)) ∧ w = w' := by
  go_enter Tryd.func16, Tryd.ntmps16
  go_wp2
  go_ret
  exact ⟨rfl, rfl⟩

theorem compare_any (op a b : Int) (w : World) (h : op < 1 ∨ 10 < op) :
    Calls Tryd.prog 27 #[.int .i64 op, .int .i32 a, .int .i32 b] w fun e w' => e = .returned (.tuple #[.int .i32 (binV op a b), .bool (binB op)]) ∧ w = w' := by
  by_cases h11 : op = 11
  · subst h11
    go_enter Tryd.func27, Tryd.ntmps27
    go_wp2_with (go_at_call 18; refine (truth_any _ _).mono ?_; rintro e w' ⟨rfl, rfl⟩)
    go_ret2
    exact ⟨ret_two rfl rfl, rfl⟩
  by_cases h12 : op = 12
  · subst h12
    go_enter Tryd.func27, Tryd.ntmps27
    go_wp2_with (go_at_call 18; refine (truth_any _ _).mono ?_; rintro e w' ⟨rfl, rfl⟩)
    go_ret2
    exact ⟨ret_two rfl rfl, rfl⟩
  by_cases h14 : op = 14
  · subst h14
    cases hab : (a == b)
    · have E : Hid (truV (decide (a < b)) = binV 14 a b) := le_ne a b hab
      go_enter Tryd.func27, Tryd.ntmps27
      go_wp2_with (go_at_call 18; refine (truth_any _ _).mono ?_; rintro e w' ⟨rfl, rfl⟩)
      go_ret2
      exact ⟨ret_two E.out rfl, rfl⟩
    · have E : Hid ((1 : Int) = binV 14 a b) := le_eq a b hab
      go_enter Tryd.func27, Tryd.ntmps27
      go_wp2
      go_ret2
      exact ⟨ret_two E.out rfl, rfl⟩
  by_cases h13 : op = 13
  · subst h13
    go_enter Tryd.func27, Tryd.ntmps27
    go_wp2_with (go_at_call 18; refine (truth_any _ _).mono ?_; rintro e w' ⟨rfl, rfl⟩)
    go_ret2
    exact ⟨ret_two rfl rfl, rfl⟩
  by_cases h16 : op = 16
  · subst h16
    cases hab : (a == b)
    · have E : Hid (truV (decide (b < a)) = binV 16 a b) := ge_ne a b hab
      go_enter Tryd.func27, Tryd.ntmps27
      go_wp2_with (go_at_call 18; refine (truth_any _ _).mono ?_; rintro e w' ⟨rfl, rfl⟩)
      go_ret2
      exact ⟨ret_two E.out rfl, rfl⟩
    · have E : Hid ((1 : Int) = binV 16 a b) := ge_eq a b hab
      go_enter Tryd.func27, Tryd.ntmps27
      go_wp2
      go_ret2
      exact ⟨ret_two E.out rfl, rfl⟩
  by_cases h15 : op = 15
  · subst h15
    go_enter Tryd.func27, Tryd.ntmps27
    go_wp2_with (go_at_call 18; refine (truth_any _ _).mono ?_; rintro e w' ⟨rfl, rfl⟩)
    go_ret2
    exact ⟨ret_two rfl rfl, rfl⟩
  have hv : Hid (binV op a b = 0) := by unfold Hid binV; simp (disch := omega) only [if_neg]
  have hB : Hid (binB op = false) := by unfold Hid binB; simp; omega
  go_enter Tryd.func27, Tryd.ntmps27
  go_wp2
  go_ret2
  exact ⟨ret_two hv.out.symm hB.out.symm, rfl⟩

theorem Bin_any (op a b : Int) (w : World) :
    Calls Tryd.prog 11 #[.int .i64 op, .int .i32 a, .int .i32 b] w fun e w' => e = .returned (.tuple #[.int .i32 (binV op a b), .bool (binB op)]) ∧ w = w' := by
  by_cases h : op < 1 ∨ 10 < op
  · have H := h
    rcases h with h | h
    all_goals
      go_enter Tryd.func11, Tryd.ntmps11
      go_wp2_with (go_at_call 27; refine (compare_any _ _ _ _ H).mono ?_; rintro e w' ⟨rfl, rfl⟩)
      go_ret2
      exact ⟨rfl, rfl⟩
  have hop : op = 1 ∨ op = 2 ∨ op = 3 ∨ op = 4 ∨ op = 5 ∨ op = 6 ∨ op = 7 ∨ op = 8 ∨ op = 9 ∨ op = 10 := by omega
  clear h
  have hk0 : 0 ≤ b % 32 := by omega
  have hk1 : b % 32 ≤ 31 := by omega
  rcases hop with rfl | rfl | rfl | rfl | rfl | rfl | rfl | rfl | rfl | rfl
  all_goals
    go_enter Tryd.func11, Tryd.ntmps11
    go_wp2_with (first
      | (go_at_call 25; refine (quo_any _ _ _).mono ?_; rintro e w' ⟨rfl, rfl⟩)
      | (go_at_call 26; refine (places_any _ _).mono ?_; rintro e w' ⟨rfl, rfl⟩))
    go_ret2
    exact ⟨ret_two rfl rfl, rfl⟩

theorem Un_any (op a : Int) (w : World) :
    Calls Tryd.prog 14 #[.int .i64 op, .int .i32 a] w fun e w' => e = .returned (.tuple #[.int .i32 (unV op a), .bool (unB op)]) ∧ w = w' := by
  by_cases h1 : op = 1
  · subst h1
    go_enter Tryd.func14, Tryd.ntmps14
    go_wp2
    go_ret2
    exact ⟨ret_two rfl rfl, rfl⟩
  by_cases h2 : op = 2
  · subst h2
    go_enter Tryd.func14, Tryd.ntmps14
    go_wp2_with (go_at_call 18; refine (truth_any _ _).mono ?_; rintro e w' ⟨rfl, rfl⟩)
    go_ret2
    exact ⟨ret_two rfl rfl, rfl⟩
  have hv : Hid (unV op a = 0) := by unfold Hid unV; simp (disch := omega) only [if_neg]
  have hB : Hid (unB op = false) := by unfold Hid unB; simp; omega
  go_enter Tryd.func14, Tryd.ntmps14
  go_wp2
  go_ret2
  exact ⟨ret_two hv.out.symm hB.out.symm, rfl⟩

theorem bin_any (op a b : Int) (w : World) (h1 : 1 ≤ op) (h2 : op ≤ 16) :
    Calls Tryd.prog 24 #[.int .i64 op, .int .i32 a, .int .i32 b] w fun e w' => e = .returned (.int .i32 (binV op a b)) ∧ w = w' := by
  have hB : binB op = true := by unfold binB; simp; omega
  go_enter Tryd.func24, Tryd.ntmps24
  go_wp2_with (go_at_call 11; refine (Bin_any _ _ _ _).mono ?_; rintro e w' ⟨rfl, rfl⟩)
  go_ret
  exact ⟨rfl, rfl⟩
end Go.Proofs.YtpbjlnlkegefjaaDoor
