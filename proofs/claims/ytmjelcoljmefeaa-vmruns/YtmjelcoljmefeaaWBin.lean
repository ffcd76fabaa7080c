/-
  Contracts of package wrap's Bin, Un, Of and Truth, and of the statements' own helper bin: what each call returns; no memory is touched.
-/
import Derived.Test.YtmjelcoljmefeaaChecked
import Derived.Test.YtmjelcoljmefeaaWMath
namespace Go.Proofs.Ytmjelcoljmefeaa
open Go.RowKit
set_option maxHeartbeats 400000

theorem quo_any (a b : Int) (w : World) : Calls Try.prog 32 #[.int .i32 a, .int .i32 b] w fun e w' => e = .returned (.int .i32 (quoV a b)) ∧ w = w' := by
  by_cases hb : b = 0
  · subst hb
    go_enter Try.func32, Try.ntmps32
    go_wp2
    go_ret
    exact ⟨rfl, rfl⟩
  · have hq : Hid (quoV a b = wrap32 (a.tdiv b)) := if_neg hb
    go_enter Try.func32, Try.ntmps32
    go_wp2
    go_ret
    exact ⟨wret_int hq.out.symm, rfl⟩

theorem places_any (b : Int) (w : World) : Calls Try.prog 33 #[.int .i32 b] w fun e w' => e = .returned (.int .u32 (b % 32)) ∧ w = w' := by
  go_enter Try.func33, Try.ntmps33
  go_wp2
  go_ret
  exact ⟨wret_int (sh_eq b), rfl⟩

theorem truth_any (p : Bool) (w : World) : Calls Try.prog 49 #[.bool p] w fun e w' => e = .returned (.int .i32 (truV p)) ∧ w = w' := by
  cases p
  all_goals
    go_enter Try.func49, Try.ntmps49
    go_wp2
    go_ret
    exact ⟨rfl, rfl⟩

theorem compare_any (op a b : Int) (w : World) (h : op < 1 ∨ 10 < op) :
    Calls Try.prog 34 #[.int .i64 op, .int .i32 a, .int .i32 b] w fun e w' => e = .returned (.tuple #[.int .i32 (binV op a b), .bool (binB op)]) ∧ w = w' := by
  by_cases h11 : op = 11
  · subst h11
    go_enter Try.func34, Try.ntmps34
    go_wp2_with (go_at_call 49; refine (truth_any _ _).mono ?_; rintro e w' ⟨rfl, rfl⟩)
    go_ret2
    exact ⟨ret_two rfl rfl, rfl⟩
  by_cases h12 : op = 12
  · subst h12
    go_enter Try.func34, Try.ntmps34
    go_wp2_with (go_at_call 49; refine (truth_any _ _).mono ?_; rintro e w' ⟨rfl, rfl⟩)
    go_ret2
    exact ⟨ret_two rfl rfl, rfl⟩
  by_cases h14 : op = 14
  · subst h14
    cases hab : (a == b)
    · have E : Hid (truV (decide (a < b)) = binV 14 a b) := le_ne a b hab
      go_enter Try.func34, Try.ntmps34
      go_wp2_with (go_at_call 49; refine (truth_any _ _).mono ?_; rintro e w' ⟨rfl, rfl⟩)
      go_ret2
      exact ⟨ret_two E.out rfl, rfl⟩
    · have E : Hid ((1 : Int) = binV 14 a b) := le_eq a b hab
      go_enter Try.func34, Try.ntmps34
      go_wp2
      go_ret2
      exact ⟨ret_two E.out rfl, rfl⟩
  by_cases h13 : op = 13
  · subst h13
    go_enter Try.func34, Try.ntmps34
    go_wp2_with (go_at_call 49; refine (truth_any _ _).mono ?_; rintro e w' ⟨rfl, rfl⟩)
    go_ret2
    exact ⟨ret_two rfl rfl, rfl⟩
  by_cases h16 : op = 16
  · subst h16
    cases hab : (a == b)
    · have E : Hid (truV (decide (b < a)) = binV 16 a b) := ge_ne a b hab
      go_enter Try.func34, Try.ntmps34
      go_wp2_with (go_at_call 49; refine (truth_any _ _).mono ?_; rintro e w' ⟨rfl, rfl⟩)
      go_ret2
      exact ⟨ret_two E.out rfl, rfl⟩
    · have E : Hid ((1 : Int) = binV 16 a b) := ge_eq a b hab
      go_enter Try.func34, Try.ntmps34
      go_wp2
      go_ret2
      exact ⟨ret_two E.out rfl, rfl⟩
  by_cases h15 : op = 15
  · subst h15
    go_enter Try.func34, Try.ntmps34
    go_wp2_with (go_at_call 49; refine (truth_any _ _).mono ?_; rintro e w' ⟨rfl, rfl⟩)
    go_ret2
    exact ⟨ret_two rfl rfl, rfl⟩
  have hv : Hid (binV op a b = 0) := by unfold Hid binV; simp (disch := omega) only [if_neg]
  have hB : Hid (binB op = false) := by unfold Hid binB; simp; omega
  go_enter Try.func34, Try.ntmps34
  go_wp2
  go_ret2
  exact ⟨ret_two hv.out.symm hB.out.symm, rfl⟩

theorem Bin_any (op a b : Int) (w : World) :
    Calls Try.prog 19 #[.int .i64 op, .int .i32 a, .int .i32 b] w fun e w' => e = .returned (.tuple #[.int .i32 (binV op a b), .bool (binB op)]) ∧ w = w' := by
  by_cases h : op < 1 ∨ 10 < op
  · have H := h
    rcases h with h | h
    all_goals
      go_enter Try.func19, Try.ntmps19
      go_wp2_with (go_at_call 34; refine (compare_any _ _ _ _ H).mono ?_; rintro e w' ⟨rfl, rfl⟩)
      go_ret2
      exact ⟨rfl, rfl⟩
  have hop : op = 1 ∨ op = 2 ∨ op = 3 ∨ op = 4 ∨ op = 5 ∨ op = 6 ∨ op = 7 ∨ op = 8 ∨ op = 9 ∨ op = 10 := by omega
  clear h
  have hk0 : 0 ≤ b % 32 := by omega
  have hk1 : b % 32 ≤ 31 := by omega
  rcases hop with rfl | rfl | rfl | rfl | rfl | rfl | rfl | rfl | rfl | rfl
  all_goals
    go_enter Try.func19, Try.ntmps19
    go_wp2_with (first
      | (go_at_call 32; refine (quo_any _ _ _).mono ?_; rintro e w' ⟨rfl, rfl⟩)
      | (go_at_call 33; refine (places_any _ _).mono ?_; rintro e w' ⟨rfl, rfl⟩))
    go_ret2
    exact ⟨ret_two rfl rfl, rfl⟩

theorem Un_any (op a : Int) (w : World) :
    Calls Try.prog 67 #[.int .i64 op, .int .i32 a] w fun e w' => e = .returned (.tuple #[.int .i32 (unV op a), .bool (unB op)]) ∧ w = w' := by
  by_cases h1 : op = 1
  · subst h1
    go_enter Try.func67, Try.ntmps67
    go_wp2
    go_ret2
    exact ⟨ret_two rfl rfl, rfl⟩
  by_cases h2 : op = 2
  · subst h2
    go_enter Try.func67, Try.ntmps67
    go_wp2_with (go_at_call 49; refine (truth_any _ _).mono ?_; rintro e w' ⟨rfl, rfl⟩)
    go_ret2
    exact ⟨ret_two rfl rfl, rfl⟩
  have hv : Hid (unV op a = 0) := by unfold Hid unV; simp (disch := omega) only [if_neg]
  have hB : Hid (unB op = false) := by unfold Hid unB; simp; omega
  go_enter Try.func67, Try.ntmps67
  go_wp2
  go_ret2
  exact ⟨ret_two hv.out.symm hB.out.symm, rfl⟩

end Go.Proofs.Ytmjelcoljmefeaa
