/-
  Contracts: isa.Size, isa.Bytes; of the reference Right, Bytes, Size.
-/
import Derived.Test.YtmjelcoljmefeaaIPkg
namespace Go.Proofs.Ytmjelcoljmefeaa
open Go.RowKit
set_option maxHeartbeats 1000000

theorem boxed {w w2 : World} {o x : Int} {T : TypeId} (h : Below (w.alloc (.cells #[.int .i64 o, .int .i32 x] T)).heap.size (w.alloc (.cells #[.int .i64 o, .int .i32 x] T)) w2) :
    w2.cell? ⟨w.heap.size, 0, none⟩ = some (.int .i64 o) ∧ w2.cell? ⟨w.heap.size, 1, none⟩ = some (.int .i32 x) ∧ Below w.heap.size w w2 ∧ w.heap.size < w2.heap.size := by
  have hs := h.size
  have hlt : w.heap.size < (w.alloc (.cells #[.int .i64 o, .int .i32 x] T)).heap.size := by simp
  refine ⟨(h.cell (p := ⟨w.heap.size, 0, none⟩) hlt).trans (by simp), (h.cell (p := ⟨w.heap.size, 1, none⟩) hlt).trans (by simp), (below_box w _).trans (h.mono (by simp)), by omega⟩
theorem formatOf_f (o f : Int) (w : World) (h : fmtV o = f) : Calls Try.prog 65 #[.int .i64 o] w fun e w' => e = .returned (.int .i64 f) ∧ w = w' := by
  subst h; exact formatOf_any o w
-- the reference
theorem rWidth_q (o : Int) (q : Nat) (w : World) (h : wid o = q) : Calls Try.prog 57 #[.int .i64 o] w fun e w' => e = .returned (.int .i64 (q : Int)) ∧ w = w' := by
  subst h; exact rWidth_any o w
theorem row_one (w : World) (k : Nat) (hk : k ≤ 11) : Row (w.alloc (.cells #[.int .u8 (k : Int)] 5)) (w.heap.size + 1) (some ⟨w.heap.size, 0, none⟩) 1 1 (cs8 (leB 1 k)) := by
  have e : cs8 (leB 1 k) = [.int .u8 (k : Int)] := by
    simp [leB_cons, leB_zero, cs8, byt_toNat]; omega
  rw [e]; exact Row.one w _ _
theorem rRight_any (o x : Int) (w : World) : Calls Try.prog 36 #[.agg #[.int .i64 o, .int .i32 x]] w (Tells w (rgtE o x)) := by
  have hd0 : decide (x < 0) = true ∨ decide (x < 0) = false := by cases decide (x < 0) <;> simp
  by_cases h : 1 ≤ o ∧ o ≤ 11
  · rcases (show o = 1 ∨ (o = 2 ∨ o = 3 ∨ o = 4 ∨ o = 5 ∨ o = 6 ∨ o = 7) ∨ o = 8 ∨ o = 9 ∨ (o = 10 ∨ o = 11) by omega) with h1 | h1 | h1 | h1 | h1
    · have H := hide (show rgtE o x = 0 by subst h1; rfl)
      have HW := hide (show wid o = 4 by subst h1; decide)
      have e8 : (o == 8) = false := by rw [beq_eq_false_iff_ne]; omega
      have e9 : (o == 9) = false := by rw [beq_eq_false_iff_ne]; omega
      clear h h1 hd0
      go_enter Try.func36, Try.ntmps36
      go_wp2_with (go_at_call 57; refine (rWidth_q _ 4 _ HW.out).mono ?_; rintro e w' ⟨rfl, rfl⟩)
      go_ret
      exact ⟨ret_int H.out.symm, below_box _ _⟩
    · have H := hide (show rgtE o x = inE x 0 255 10 by unfold rgtE; rw [if_neg (by omega), if_neg (by omega), if_neg (by omega), if_neg (by omega), if_pos (by omega)]; rfl)
      have HW := hide (show wid o = 1 by rcases h1 with rfl | rfl | rfl | rfl | rfl | rfl <;> decide)
      have e8 : (o == 8) = false := by rw [beq_eq_false_iff_ne]; omega
      have e9 : (o == 9) = false := by rw [beq_eq_false_iff_ne]; omega
      clear h h1
      rcases hd0 with d0 | d0
      · replace H := hide (show rgtE o x = 10 by rw [H.out]; exact if_neg (by simp at d0; omega))
        go_enter Try.func36, Try.ntmps36
        go_wp2_with (go_at_call 57; refine (rWidth_q _ 1 _ HW.out).mono ?_; rintro e w' ⟨rfl, rfl⟩)
        go_ret
        exact ⟨ret_int H.out.symm, below_box _ _⟩
      · rcases (show decide (255 < x) = true ∨ decide (255 < x) = false by cases decide (255 < x) <;> simp) with d1 | d1
        · replace H := hide (show rgtE o x = 10 by rw [H.out]; exact if_neg (by simp at d1; omega))
          go_enter Try.func36, Try.ntmps36
          go_wp2_with (go_at_call 57; refine (rWidth_q _ 1 _ HW.out).mono ?_; rintro e w' ⟨rfl, rfl⟩)
          go_ret
          exact ⟨ret_int H.out.symm, below_box _ _⟩
        · replace H := hide (show rgtE o x = 0 by rw [H.out]; exact if_pos (by simp at d0 d1; omega))
          go_enter Try.func36, Try.ntmps36
          go_wp2_with (go_at_call 57; refine (rWidth_q _ 1 _ HW.out).mono ?_; rintro e w' ⟨rfl, rfl⟩)
          go_ret
          exact ⟨ret_int H.out.symm, below_box _ _⟩
    · have HW := hide (show wid o = 1 by subst h1; decide)
      have H := hide (show rgtE o x = inE x 1 2 9 by subst h1; rfl)
      have e8 : (o == 8) = true := by rw [beq_iff_eq]; exact h1
      have e9 : (o == 9) = false := by rw [beq_eq_false_iff_ne]; omega
      clear h h1
      rcases (show decide (x < 1) = true ∨ decide (x < 1) = false by cases decide (x < 1) <;> simp) with d0 | d0
      · replace H := hide (show rgtE o x = 9 by rw [H.out]; exact if_neg (by simp at d0; omega))
        clear hd0
        go_enter Try.func36, Try.ntmps36
        go_wp2_with (go_at_call 57; refine (rWidth_q _ 1 _ HW.out).mono ?_; rintro e w' ⟨rfl, rfl⟩)
        go_ret
        exact ⟨ret_int H.out.symm, below_box _ _⟩
      · rcases (show decide (2 < x) = true ∨ decide (2 < x) = false by cases decide (2 < x) <;> simp) with d1 | d1
        · replace H := hide (show rgtE o x = 9 by rw [H.out]; exact if_neg (by simp at d1; omega))
          clear hd0
          go_enter Try.func36, Try.ntmps36
          go_wp2_with (go_at_call 57; refine (rWidth_q _ 1 _ HW.out).mono ?_; rintro e w' ⟨rfl, rfl⟩)
          go_ret
          exact ⟨ret_int H.out.symm, below_box _ _⟩
        · replace H := hide (show rgtE o x = 0 by rw [H.out]; exact if_pos (by simp at d0 d1; omega))
          have d2 : decide (x < 0) = false := by simp at d0 ⊢; omega
          have d3 : decide (255 < x) = false := by simp at d1 ⊢; omega
          clear hd0
          go_enter Try.func36, Try.ntmps36
          go_wp2_with (go_at_call 57; refine (rWidth_q _ 1 _ HW.out).mono ?_; rintro e w' ⟨rfl, rfl⟩)
          go_ret
          exact ⟨ret_int H.out.symm, below_box _ _⟩
    · have HW := hide (show wid o = 1 by subst h1; decide)
      have H := hide (show rgtE o x = inE x 1 16 9 by subst h1; rfl)
      have e9 : (o == 9) = true := by rw [beq_iff_eq]; exact h1
      have e8 : (o == 8) = false := by rw [beq_eq_false_iff_ne]; omega
      clear h h1
      rcases (show decide (x < 1) = true ∨ decide (x < 1) = false by cases decide (x < 1) <;> simp) with d0 | d0
      · replace H := hide (show rgtE o x = 9 by rw [H.out]; exact if_neg (by simp at d0; omega))
        clear hd0
        go_enter Try.func36, Try.ntmps36
        go_wp2_with (go_at_call 57; refine (rWidth_q _ 1 _ HW.out).mono ?_; rintro e w' ⟨rfl, rfl⟩)
        go_ret
        exact ⟨ret_int H.out.symm, below_box _ _⟩
      · rcases (show decide (16 < x) = true ∨ decide (16 < x) = false by cases decide (16 < x) <;> simp) with d1 | d1
        · replace H := hide (show rgtE o x = 9 by rw [H.out]; exact if_neg (by simp at d1; omega))
          clear hd0
          go_enter Try.func36, Try.ntmps36
          go_wp2_with (go_at_call 57; refine (rWidth_q _ 1 _ HW.out).mono ?_; rintro e w' ⟨rfl, rfl⟩)
          go_ret
          exact ⟨ret_int H.out.symm, below_box _ _⟩
        · replace H := hide (show rgtE o x = 0 by rw [H.out]; exact if_pos (by simp at d0 d1; omega))
          have d2 : decide (x < 0) = false := by simp at d0 ⊢; omega
          have d3 : decide (255 < x) = false := by simp at d1 ⊢; omega
          clear hd0
          go_enter Try.func36, Try.ntmps36
          go_wp2_with (go_at_call 57; refine (rWidth_q _ 1 _ HW.out).mono ?_; rintro e w' ⟨rfl, rfl⟩)
          go_ret
          exact ⟨ret_int H.out.symm, below_box _ _⟩
    · have HW := hide (show wid o = 2 by rcases h1 with rfl | rfl <;> decide)
      have H := hide (show rgtE o x = inE x 0 65535 10 by rcases h1 with rfl | rfl <;> rfl)
      have e8 : (o == 8) = false := by rw [beq_eq_false_iff_ne]; omega
      have e9 : (o == 9) = false := by rw [beq_eq_false_iff_ne]; omega
      clear h h1
      rcases hd0 with d0 | d0
      · replace H := hide (show rgtE o x = 10 by rw [H.out]; exact if_neg (by simp at d0; omega))
        go_enter Try.func36, Try.ntmps36
        go_wp2_with (go_at_call 57; refine (rWidth_q _ 2 _ HW.out).mono ?_; rintro e w' ⟨rfl, rfl⟩)
        go_ret
        exact ⟨ret_int H.out.symm, below_box _ _⟩
      · rcases (show decide (65535 < x) = true ∨ decide (65535 < x) = false by cases decide (65535 < x) <;> simp) with d1 | d1
        · replace H := hide (show rgtE o x = 10 by rw [H.out]; exact if_neg (by simp at d1; omega))
          go_enter Try.func36, Try.ntmps36
          go_wp2_with (go_at_call 57; refine (rWidth_q _ 2 _ HW.out).mono ?_; rintro e w' ⟨rfl, rfl⟩)
          go_ret
          exact ⟨ret_int H.out.symm, below_box _ _⟩
        · replace H := hide (show rgtE o x = 0 by rw [H.out]; exact if_pos (by simp at d0 d1; omega))
          go_enter Try.func36, Try.ntmps36
          go_wp2_with (go_at_call 57; refine (rWidth_q _ 2 _ HW.out).mono ?_; rintro e w' ⟨rfl, rfl⟩)
          go_ret
          exact ⟨ret_int H.out.symm, below_box _ _⟩
  · have HW := hide (wid_out h)
    have H := hide (rgt_bad (x := x) (wid_out h))
    clear h hd0
    go_enter Try.func36, Try.ntmps36
    go_wp2_with (go_at_call 57; refine (rWidth_q _ 0 _ HW.out).mono ?_; rintro e w' ⟨rfl, rfl⟩)
    go_ret
    exact ⟨ret_int H.out.symm, below_box _ _⟩
end Go.Proofs.Ytmjelcoljmefeaa
