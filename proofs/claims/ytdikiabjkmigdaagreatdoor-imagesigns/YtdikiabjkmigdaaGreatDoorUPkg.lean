/-
  Contracts of package judge: upTo, Frame, inside, effect; of the reference: Frame, Room, Takes, Gives.
-/
import Derived.Test.YtdikiabjkmigdaaGreatDoorIMem
import Derived.Test.YtdikiabjkmigdaaGreatDoorUMath
namespace Go.Proofs.YtdikiabjkmigdaaGreatDoor
set_option maxRecDepth 20000
open Go.RowKit
set_option maxHeartbeats 1000000

theorem upTo_b (n m : Int) (b : Bool) (w : World) (H : Hid (decide (0 ≤ n ∧ n ≤ m) = b)) : Calls Tryz.prog 103 #[.int .i64 n, .int .i64 m] w fun e w' => e = .returned (.bool b) ∧ w = w' := by
  by_cases h0 : 0 ≤ n
  · by_cases h1 : n ≤ m
    · obtain rfl : b = true := by rw [← H.out]; simp [h0, h1]
      have d0 : decide (0 ≤ n) = true := by simpa using h0
      have d1 : decide (n ≤ m) = true := by simpa using h1
      clear H h0 h1
      go_enter Tryz.func103, Tryz.ntmps103
      go_wp2
      go_ret
      exact ⟨rfl, rfl⟩
    · obtain rfl : b = false := by rw [← H.out]; simp [h1]
      have d0 : decide (0 ≤ n) = true := by simpa using h0
      have d1 : decide (n ≤ m) = false := by simpa using h1
      clear H h0 h1
      go_enter Tryz.func103, Tryz.ntmps103
      go_wp2
      go_ret
      exact ⟨rfl, rfl⟩
  · obtain rfl : b = false := by rw [← H.out]; simp [h0]
    have d0 : decide (0 ≤ n) = false := by simpa using h0
    clear H h0
    go_enter Tryz.func103, Tryz.ntmps103
    go_wp2
    go_ret
    exact ⟨rfl, rfl⟩
/-- The value of a frame. -/
abbrev frV (f : Fr) : Value := .agg #[.int .i64 f.s, .int .i64 f.o, .int .i64 f.n, .int .i64 f.i, .int .i64 f.u]
theorem Frame_core (s o n i u : Int) (b1 b2 b3 b4 b5 : Bool) (w : World) (H1 : Hid (decide (0 ≤ s ∧ s ≤ 24) = b1)) (H2 : Hid (decide (0 ≤ o ∧ o ≤ 16) = b2)) (H3 : Hid (decide (0 ≤ n ∧ n ≤ 16) = b3)) (H4 : Hid (decide (0 ≤ i ∧ i ≤ 8) = b4)) (H5 : Hid (decide (0 ≤ u ∧ u ≤ 8) = b5))
    (k : Int) (hb : b1 = false ∧ k = 1 ∨ b1 = true ∧ (b2 = false ∧ k = 1 ∨ b2 = true ∧ (b3 = false ∧ k = 1 ∨ b3 = true ∧ (b4 = false ∧ k = 1 ∨ b4 = true ∧ (b5 = false ∧ k = 1 ∨ b5 = true ∧ k = 0))))) :
    Calls Tryz.prog 78 #[.agg #[.int .i64 s, .int .i64 o, .int .i64 n, .int .i64 i, .int .i64 u]] w (Tells w k) := by
  rcases hb with ⟨rfl, rfl⟩ | ⟨rfl, ⟨rfl, rfl⟩ | ⟨rfl, ⟨rfl, rfl⟩ | ⟨rfl, ⟨rfl, rfl⟩ | ⟨rfl, ⟨rfl, rfl⟩ | ⟨rfl, rfl⟩⟩⟩⟩⟩
  all_goals
    go_enter Tryz.func78, Tryz.ntmps78
    go_wp2_with (go_at_call 103; (first | (with_reducible refine (upTo_b s 24 _ _ H1).mono ?_) | (with_reducible refine (upTo_b o 16 _ _ H2).mono ?_) | (with_reducible refine (upTo_b n 16 _ _ H3).mono ?_) | (with_reducible refine (upTo_b i 8 _ _ H4).mono ?_) | (with_reducible refine (upTo_b u 8 _ _ H5).mono ?_)); rintro e w' ⟨rfl, rfl⟩)
    go_ret
    exact ⟨rfl, below_box _ _⟩
theorem frm_zero {f : Fr} (h : okF f) : frmE f = 0 := if_pos h
theorem frm_one {f : Fr} (h : ¬ okF f) : frmE f = 1 := if_neg h
theorem Frame_any (f : Fr) (w : World) : Calls Tryz.prog 78 #[.agg #[.int .i64 f.s, .int .i64 f.o, .int .i64 f.n, .int .i64 f.i, .int .i64 f.u]] w (Tells w (frmE f)) := by
  refine Frame_core f.s f.o f.n f.i f.u _ _ _ _ _ w (hide rfl) (hide rfl) (hide rfl) (hide rfl) (hide rfl) _ ?_
  unfold frmE okF
  by_cases h1 : 0 ≤ f.s ∧ f.s ≤ 24
  · by_cases h2 : 0 ≤ f.o ∧ f.o ≤ 16
    · by_cases h3 : 0 ≤ f.n ∧ f.n ≤ 16
      · by_cases h4 : 0 ≤ f.i ∧ f.i ≤ 8
        · by_cases h5 : 0 ≤ f.u ∧ f.u ≤ 8
          · simp [h1, h2, h3, h4, h5]
          · simp [h1, h2, h3, h4, h5]
        · simp [h1, h2, h3, h4]
      · simp [h1, h2, h3]
    · simp [h1, h2]
  · simp [h1]
theorem tak_room_in (o : Int) (h : ¬ (1 ≤ o ∧ o ≤ 11)) (f : Fr) : tak o = 0 ∧ giv o = 0 ∧ roomV f o = -1 := by
  unfold tak giv roomV
  rw [if_neg (by omega), if_neg (by omega), if_neg (by omega), if_neg (by omega), if_neg (by omega), if_neg (by omega), if_neg (by omega), if_neg (by omega)]
  exact ⟨rfl, rfl, rfl⟩
theorem effect_any (o : Int) (w : World) : Calls Tryz.prog 105 #[.int .i64 o] w fun e w' => e = .returned (.tuple #[.int .i64 (tak o), .int .i64 (giv o)]) ∧ w = w' := by
  by_cases h : 1 ≤ o ∧ o ≤ 11
  · rcases (show o = 1 ∨ o = 2 ∨ o = 3 ∨ o = 4 ∨ o = 5 ∨ o = 6 ∨ o = 7 ∨ o = 8 ∨ o = 9 ∨ o = 10 ∨ o = 11 by omega) with rfl | rfl | rfl | rfl | rfl | rfl | rfl | rfl | rfl | rfl | rfl
    all_goals
      clear h
      go_enter Tryz.func105, Tryz.ntmps105
      go_wp2
      go_ret2
      exact ⟨rfl, rfl⟩
  · have H1 := hide (tak_room_in o h ⟨0, 0, 0, 0, 0⟩).1
    have H2 := hide (tak_room_in o h ⟨0, 0, 0, 0, 0⟩).2.1
    have e1 : (o == 1) = false := by rw [beq_eq_false_iff_ne]; omega
    have e2 : (o == 2) = false := by rw [beq_eq_false_iff_ne]; omega
    have e3 : (o == 3) = false := by rw [beq_eq_false_iff_ne]; omega
    have e4 : (o == 4) = false := by rw [beq_eq_false_iff_ne]; omega
    have e5 : (o == 5) = false := by rw [beq_eq_false_iff_ne]; omega
    have e6 : (o == 6) = false := by rw [beq_eq_false_iff_ne]; omega
    have e7 : (o == 7) = false := by rw [beq_eq_false_iff_ne]; omega
    have e8 : (o == 8) = false := by rw [beq_eq_false_iff_ne]; omega
    have e9 : (o == 9) = false := by rw [beq_eq_false_iff_ne]; omega
    have e11 : (o == 11) = false := by rw [beq_eq_false_iff_ne]; omega
    clear h
    go_enter Tryz.func105, Tryz.ntmps105
    go_wp2
    go_ret2
    rw [H1.out, H2.out]
    exact ⟨rfl, rfl⟩
theorem rTakes_any (o : Int) (w : World) : Calls Tryz.prog 86 #[.int .i64 o] w fun e w' => e = .returned (.int .i64 (tak o)) ∧ w = w' := by
  by_cases h : 1 ≤ o ∧ o ≤ 11
  · rcases (show o = 1 ∨ o = 2 ∨ o = 3 ∨ o = 4 ∨ o = 5 ∨ o = 6 ∨ o = 7 ∨ o = 8 ∨ o = 9 ∨ o = 10 ∨ o = 11 by omega) with rfl | rfl | rfl | rfl | rfl | rfl | rfl | rfl | rfl | rfl | rfl
    all_goals
      clear h
      go_enter Tryz.func86, Tryz.ntmps86
      go_wp2
      go_ret
      exact ⟨rfl, rfl⟩
  · have H1 := hide (tak_room_in o h ⟨0, 0, 0, 0, 0⟩).1
    have e3 : (o == 3) = false := by rw [beq_eq_false_iff_ne]; omega
    have e5 : (o == 5) = false := by rw [beq_eq_false_iff_ne]; omega
    have e7 : (o == 7) = false := by rw [beq_eq_false_iff_ne]; omega
    have e8 : (o == 8) = false := by rw [beq_eq_false_iff_ne]; omega
    have e9 : (o == 9) = false := by rw [beq_eq_false_iff_ne]; omega
    have e11 : (o == 11) = false := by rw [beq_eq_false_iff_ne]; omega
    clear h
    go_enter Tryz.func86, Tryz.ntmps86
    go_wp2
    go_ret
    exact ⟨ret_int H1.out.symm, rfl⟩
theorem rGives_any (o : Int) (w : World) : Calls Tryz.prog 87 #[.int .i64 o] w fun e w' => e = .returned (.int .i64 (giv o)) ∧ w = w' := by
  by_cases h : 1 ≤ o ∧ o ≤ 11
  · rcases (show o = 1 ∨ o = 2 ∨ o = 3 ∨ o = 4 ∨ o = 5 ∨ o = 6 ∨ o = 7 ∨ o = 8 ∨ o = 9 ∨ o = 10 ∨ o = 11 by omega) with rfl | rfl | rfl | rfl | rfl | rfl | rfl | rfl | rfl | rfl | rfl
    all_goals
      clear h
      go_enter Tryz.func87, Tryz.ntmps87
      go_wp2
      go_ret
      exact ⟨rfl, rfl⟩
  · have H1 := hide (tak_room_in o h ⟨0, 0, 0, 0, 0⟩).2.1
    have e1 : (o == 1) = false := by rw [beq_eq_false_iff_ne]; omega
    have e2 : (o == 2) = false := by rw [beq_eq_false_iff_ne]; omega
    have e4 : (o == 4) = false := by rw [beq_eq_false_iff_ne]; omega
    have e6 : (o == 6) = false := by rw [beq_eq_false_iff_ne]; omega
    have e8 : (o == 8) = false := by rw [beq_eq_false_iff_ne]; omega
    have e9 : (o == 9) = false := by rw [beq_eq_false_iff_ne]; omega
    clear h
    go_enter Tryz.func87, Tryz.ntmps87
    go_wp2
    go_ret
    exact ⟨ret_int H1.out.symm, rfl⟩
theorem rRoom_any (o s1 s2 s3 s4 s5 : Int) (w : World) : Calls Tryz.prog 85 #[.int .i64 o, .agg #[.int .i64 s1, .int .i64 s2, .int .i64 s3, .int .i64 s4, .int .i64 s5]] w (Tells w (roomV ⟨s1, s2, s3, s4, s5⟩ o)) := by
  by_cases h : 2 ≤ o ∧ o ≤ 7
  · rcases (show o = 2 ∨ o = 3 ∨ o = 4 ∨ o = 5 ∨ o = 6 ∨ o = 7 by omega) with rfl | rfl | rfl | rfl | rfl | rfl
    all_goals
      clear h
      go_enter Tryz.func85, Tryz.ntmps85
      go_wp2
      go_ret
      exact ⟨rfl, below_box _ _⟩
  · have H1 := hide (show roomV ⟨s1, s2, s3, s4, s5⟩ o = -1 by unfold roomV; rw [if_neg (by omega), if_neg (by omega), if_neg (by omega), if_neg (by omega), if_neg (by omega)])
    have e2 : (o == 2) = false := by rw [beq_eq_false_iff_ne]; omega
    have e3 : (o == 3) = false := by rw [beq_eq_false_iff_ne]; omega
    have e4 : (o == 4) = false := by rw [beq_eq_false_iff_ne]; omega
    have e5 : (o == 5) = false := by rw [beq_eq_false_iff_ne]; omega
    have e6 : (o == 6) = false := by rw [beq_eq_false_iff_ne]; omega
    have e7 : (o == 7) = false := by rw [beq_eq_false_iff_ne]; omega
    clear h
    go_enter Tryz.func85, Tryz.ntmps85
    go_wp2
    go_ret
    exact ⟨ret_int H1.out.symm, below_box _ _⟩
theorem rFrame_any (f : Fr) (w : World) : Calls Tryz.prog 83 #[.agg #[.int .i64 f.s, .int .i64 f.o, .int .i64 f.n, .int .i64 f.i, .int .i64 f.u]] w (Tells w (frmE f)) := by
  obtain ⟨s, o, n, i, u⟩ := f
  obtain ⟨k, hk⟩ : ∃ k, frmE ⟨s, o, n, i, u⟩ = k := ⟨_, rfl⟩
  rw [hk]
  have cs : (s < 0 ∧ k = 1) ∨ (¬ s < 0 ∧ ((24 < s ∧ k = 1) ∨ (¬ 24 < s ∧ ((o < 0 ∧ k = 1) ∨ (¬ o < 0 ∧ ((16 < o ∧ k = 1) ∨ (¬ 16 < o ∧ ((n < 0 ∧ k = 1) ∨ (¬ n < 0 ∧ ((16 < n ∧ k = 1) ∨ (¬ 16 < n ∧ ((i < 0 ∧ k = 1) ∨ (¬ i < 0 ∧ ((8 < i ∧ k = 1) ∨ (¬ 8 < i ∧ ((u < 0 ∧ k = 1) ∨ (¬ u < 0 ∧ ((8 < u ∧ k = 1) ∨ (¬ 8 < u ∧ k = 0))))))))))))))))))) := by
    by_cases h : okF ⟨s, o, n, i, u⟩
    · rw [frm_zero h] at hk; unfold okF at h; simp only at h; omega
    · rw [frm_one h] at hk; unfold okF at h; simp only at h; omega
  clear hk
  rcases cs with ⟨h1, rfl⟩ | ⟨h1, ⟨h2, rfl⟩ | ⟨h2, ⟨h3, rfl⟩ | ⟨h3, ⟨h4, rfl⟩ | ⟨h4, ⟨h5, rfl⟩ | ⟨h5, ⟨h6, rfl⟩ | ⟨h6, ⟨h7, rfl⟩ | ⟨h7, ⟨h8, rfl⟩ | ⟨h8, ⟨h9, rfl⟩ | ⟨h9, ⟨h10, rfl⟩ | ⟨h10, rfl⟩⟩⟩⟩⟩⟩⟩⟩⟩⟩
  all_goals
    go_enter Tryz.func83, Tryz.ntmps83
    go_wp2
    go_ret
    exact ⟨rfl, below_box _ _⟩
theorem inside_b (o x : Int) (f : Fr) (b : Bool) (w : World) (hf : okF f) (hb : Hid (decide (insd f o x) = b)) (hx : -2147483648 ≤ x ∧ x ≤ 2147483647) :
    Calls Tryz.prog 104 #[.agg #[.int .i64 o, .int .i32 x], .agg #[.int .i64 f.s, .int .i64 f.o, .int .i64 f.n, .int .i64 f.i, .int .i64 f.u]] w fun e w' => e = .returned (.bool b) ∧ Below w.heap.size w w' := by
  obtain ⟨s1, s2, s3, s4, s5⟩ := f
  simp only [okF] at hf ⊢
  by_cases h : 2 ≤ o ∧ o ≤ 7
  · rcases (show (o = 2 ∨ o = 3) ∨ o = 4 ∨ o = 5 ∨ o = 6 ∨ o = 7 by omega) with (rfl | rfl) | rfl | rfl | rfl | rfl
    all_goals
      clear h
      first
        | have HB := hide (show decide (x < s1) = b by rw [← hb.out]; simp [insd, roomV]; omega)
        | have HB := hide (show decide (x < s2) = b by rw [← hb.out]; simp [insd, roomV]; omega)
        | have HB := hide (show decide (x < s3) = b by rw [← hb.out]; simp [insd, roomV]; omega)
        | have HB := hide (show decide (x < s4) = b by rw [← hb.out]; simp [insd, roomV]; omega)
        | have HB := hide (show decide (x < s5) = b by rw [← hb.out]; simp [insd, roomV]; omega)
      clear hb
      go_enter Tryz.func104, Tryz.ntmps104
      go_wp2
      go_ret
      exact ⟨by rw [HB.out]; rfl, ((Below.refl _ w).alloc (Nat.le_refl _) _).alloc (by simp) _⟩
  · obtain rfl : b = true := by rw [← hb.out, decide_eq_true_eq]; left; unfold roomV; rw [if_neg (by omega), if_neg (by omega), if_neg (by omega), if_neg (by omega), if_neg (by omega)]; omega
    have e2 : (o == 2) = false := by rw [beq_eq_false_iff_ne]; omega
    have e3 : (o == 3) = false := by rw [beq_eq_false_iff_ne]; omega
    have e4 : (o == 4) = false := by rw [beq_eq_false_iff_ne]; omega
    have e5 : (o == 5) = false := by rw [beq_eq_false_iff_ne]; omega
    have e6 : (o == 6) = false := by rw [beq_eq_false_iff_ne]; omega
    have e7 : (o == 7) = false := by rw [beq_eq_false_iff_ne]; omega
    clear h hb
    go_enter Tryz.func104, Tryz.ntmps104
    go_wp2
    go_ret
    exact ⟨rfl, ((Below.refl _ w).alloc (Nat.le_refl _) _).alloc (by simp) _⟩
end Go.Proofs.YtdikiabjkmigdaaGreatDoor
