/-
  Contracts of package flash: isNone, isCount, Len, On, Ops, refusal, Read, Start, Cut.
-/
import Derived.Test.YtahnfkoakaimhaaFMem
namespace Go.Proofs.Ytahnfkoakaimhaa
open Go.RowKit
set_option maxHeartbeats 400000

theorem len_pos {s : FS} (h : s.Ok) : 256 ≤ s.ws.length ∧ s.ws.length ≤ 4096 := by obtain ⟨k, h1, h2, h3⟩ := h.len; omega
theorem isNone_nil (w : World) : Calls Try.prog 34 #[.pointer none] w fun e w' => e = .returned (.bool true) ∧ w = w' := by
  go_enter Try.func34, Try.ntmps34
  go_wp2
  go_ret
  exact ⟨rfl, rfl⟩
theorem isNone_any (g h : Nat) (s : FS) (w : World) (f : Fl w g h s) : Calls Try.prog 34 #[.pointer (some ⟨g, 0, none⟩)] w fun e w' => e = .returned (.bool false) ∧ w = w' := by
  obtain ⟨hl, hl2⟩ := len_pos f.ok
  obtain ⟨c, hb, ho⟩ := f.ex
  have c0 := hb.cell (j := 0) rfl
  have d0 : ((s.ws.length : Int) == 0) = false := by rw [beq_eq_false_iff_ne]; omega
  clear hb ho f
  go_enter Try.func34, Try.ntmps34
  go_wp2
  go_ret
  exact ⟨rfl, rfl⟩
theorem isCount_any (n : Int) (w : World) : Calls Try.prog 24 #[.int .i64 n] w fun e w' => e = .returned (.bool (cntB n)) ∧ w = w' := by
  by_cases h1 : 1 ≤ n
  · have d1 : decide (1 ≤ n) = true := by simpa using h1
    have H := hide (show cntB n = decide (n ≤ 16) by unfold cntB; simp [h1])
    go_enter Try.func24, Try.ntmps24
    go_wp2
    go_ret
    exact ⟨ret_bool H.out.symm, rfl⟩
  · have d1 : decide (1 ≤ n) = false := by simpa using h1
    have H := hide (show cntB n = false by unfold cntB; simp [h1])
    go_enter Try.func24, Try.ntmps24
    go_wp2
    go_ret
    exact ⟨ret_bool H.out.symm, rfl⟩
theorem Len_nil (w : World) : Calls Try.prog 36 #[.pointer none] w fun e w' => e = .returned (.int .i64 0) ∧ w = w' := by
  go_enter Try.func36, Try.ntmps36
  go_wp2_with (go_at_call 34; refine (isNone_nil _).mono ?_; rintro e w1 ⟨rfl, rfl⟩)
  go_ret
  exact ⟨rfl, rfl⟩
theorem On_nil (w : World) : Calls Try.prog 27 #[.pointer none] w fun e w' => e = .returned (.bool false) ∧ w = w' := by
  go_enter Try.func27, Try.ntmps27
  go_wp2_with (go_at_call 34; refine (isNone_nil _).mono ?_; rintro e w1 ⟨rfl, rfl⟩)
  go_ret
  exact ⟨rfl, rfl⟩
theorem Words_nil (w : World) : Calls Try.prog 23 #[.pointer none] w fun e w' => e = .returned (.slice none 0 0) ∧ w = w' := by
  go_enter Try.func23, Try.ntmps23
  go_wp2_with (go_at_call 34; refine (isNone_nil _).mono ?_; rintro e w1 ⟨rfl, rfl⟩)
  go_ret
  exact ⟨rfl, rfl⟩
theorem Cut_nil (n m : Int) (w : World) : Calls Try.prog 13 #[.pointer none, .int .i64 n, .int .u32 m] w fun e w' => e = .returned (.int .i64 26) ∧ w = w' := by
  go_enter Try.func13, Try.ntmps13
  go_wp2_with (go_at_call 34; refine (isNone_nil _).mono ?_; rintro e w1 ⟨rfl, rfl⟩)
  go_ret
  exact ⟨rfl, rfl⟩
theorem Start_nil (w : World) : Calls Try.prog 15 #[.pointer none] w fun e w' => e = .returned (.tuple #[]) ∧ w = w' := by
  go_enter Try.func15, Try.ntmps15
  go_wp2_with (go_at_call 34; refine (isNone_nil _).mono ?_; rintro e w1 ⟨rfl, rfl⟩)
  refine bodyPost_ret (results_none rfl _ _ _) rfl ?_
  exact ⟨rfl, rfl⟩
theorem refusal_nil (n m : Int) (w : World) : Calls Try.prog 61 #[.pointer none, .int .i64 n, .int .i64 m] w fun e w' => e = .returned (.int .i64 26) ∧ w = w' := by
  go_enter Try.func61, Try.ntmps61
  go_wp2_with (go_at_call 34; refine (isNone_nil _).mono ?_; rintro e w1 ⟨rfl, rfl⟩)
  go_ret
  exact ⟨rfl, rfl⟩
theorem Len_any (g h : Nat) (s : FS) (w : World) (f : Fl w g h s) : Calls Try.prog 36 #[.pointer (some ⟨g, 0, none⟩)] w fun e w' => e = .returned (.int .i64 (s.ws.length : Int)) ∧ w = w' := by
  obtain ⟨c, hb, ho⟩ := f.ex
  have c0 := hb.cell (j := 0) rfl
  clear hb ho
  go_enter Try.func36, Try.ntmps36
  go_wp2_with (go_at_call 34; refine (isNone_any g h s _ f).mono ?_; rintro e w1 ⟨rfl, rfl⟩)
  go_ret
  exact ⟨rfl, rfl⟩
theorem On_any (g h : Nat) (s : FS) (w : World) (f : Fl w g h s) : Calls Try.prog 27 #[.pointer (some ⟨g, 0, none⟩)] w fun e w' => e = .returned (.bool s.on) ∧ w = w' := by
  obtain ⟨c, hb, ho⟩ := f.ex
  have c0 := hb.cell (j := 1) rfl
  clear hb ho
  go_enter Try.func27, Try.ntmps27
  go_wp2_with (go_at_call 34; refine (isNone_any g h s _ f).mono ?_; rintro e w1 ⟨rfl, rfl⟩)
  go_ret
  exact ⟨rfl, rfl⟩
theorem refusal_any (g h : Nat) (s : FS) (n : Int) (m : Nat) (w : World) (f : Fl w g h s) : Calls Try.prog 61 #[.pointer (some ⟨g, 0, none⟩), .int .i64 n, .int .i64 (m : Int)] w fun e w' => e = .returned (.int .i64 (refE s.on n m)) ∧ w = w' := by
  obtain ⟨c, hb, ho⟩ := f.ex
  have c0 := hb.cell (j := 1) rfl
  clear hb ho
  rcases hon : s.on with _ | _
  · rw [hon] at c0
    have H := hide (show refE false n m = 7 from rfl)
    go_enter Try.func61, Try.ntmps61
    go_wp2_with (go_at_call 34; refine (isNone_any g h s _ f).mono ?_; rintro e w1 ⟨rfl, rfl⟩)
    go_ret
    exact ⟨ret_int H.out.symm, rfl⟩
  · rw [hon] at c0
    by_cases h1 : n < 0
    · have d1 : decide (n < 0) = true := by simpa using h1
      have H := hide (show refE true n m = 10 by unfold refE; rw [if_pos rfl, if_neg (by omega)])
      go_enter Try.func61, Try.ntmps61
      go_wp2_with (go_at_call 34; refine (isNone_any g h s _ f).mono ?_; rintro e w1 ⟨rfl, rfl⟩)
      go_ret
      exact ⟨ret_int H.out.symm, rfl⟩
    · have d1 : decide (n < 0) = false := by simpa using h1
      by_cases h2 : (m : Int) ≤ n
      · have d2 : decide ((m : Int) ≤ n) = true := by simpa using h2
        have H := hide (show refE true n m = 10 by unfold refE; rw [if_pos rfl, if_neg (by omega)])
        go_enter Try.func61, Try.ntmps61
        go_wp2_with (go_at_call 34; refine (isNone_any g h s _ f).mono ?_; rintro e w1 ⟨rfl, rfl⟩)
        go_ret
        exact ⟨ret_int H.out.symm, rfl⟩
      · have d2 : decide ((m : Int) ≤ n) = false := by simpa using h2
        have H := hide (show refE true n m = 0 by unfold refE; rw [if_pos rfl, if_pos (by omega)])
        go_enter Try.func61, Try.ntmps61
        go_wp2_with (go_at_call 34; refine (isNone_any g h s _ f).mono ?_; rintro e w1 ⟨rfl, rfl⟩)
        go_ret
        exact ⟨ret_int H.out.symm, rfl⟩
end Go.Proofs.Ytahnfkoakaimhaa
