/-
  Contracts of the document's own answers for layer 1: each gives what package wrap's contract gives.
-/
import Derived.Test.YtmjelcoljmefeaaWBin
import Derived.Test.YtmjelcoljmefeaaWRefM
import Derived.LoopTactic
namespace Go.Proofs.Ytmjelcoljmefeaa
open Go.RowKit
set_option maxHeartbeats 400000

theorem rtruth_any (p : Bool) (w : World) : Calls Try.prog 59 #[.bool p] w fun e w' => e = .returned (.int .i32 (truV p)) ∧ w = w' := by
  cases p
  all_goals
    go_enter Try.func59, Try.ntmps59
    go_wp2
    go_ret
    exact ⟨rfl, rfl⟩

theorem low_any (n : Int) (w : World) : Calls Try.prog 58 #[.int .i64 n] w fun e w' => e = .returned (.int .i32 (wrap32 n)) ∧ w = w' := by
  by_cases hn : n < 0
  · obtain ⟨h1, h2, h3⟩ := tmod_lo n hn
    have h3 : Hid _ := h3
    go_enter Try.func58, Try.ntmps58
    go_wp2
    all_goals
      have := h3.out
      go_ret
      exact ⟨wret_int (wrap_eq (by omega) (by omega) (by omega)), rfl⟩
  · have hn' : 0 ≤ n := by omega
    clear hn
    go_enter Try.func58, Try.ntmps58
    go_wp2
    all_goals
      go_ret
      exact ⟨wret_int (wrap_eq (by omega) (by omega) (by omega)), rfl⟩

theorem plain_any (a : Int) (w : World) (h1 : -2147483648 ≤ a) (h2 : a ≤ 2147483647) :
    Calls Try.prog 60 #[.int .i32 a] w fun e w' => e = .returned (.int .i64 (nat32 a)) ∧ w = w' := by
  have hc : Hid ((nat32 a : Int) = a % 4294967296) := nat32_cast a
  go_enter Try.func60, Try.ntmps60
  go_wp2
  all_goals
    have := hc.out
    go_ret
    exact ⟨wret_int (by omega), rfl⟩

theorem size_any (a : Int) (w : World) (h1 : -2147483648 ≤ a) (h2 : a ≤ 2147483647) :
    Calls Try.prog 68 #[.int .i32 a] w fun e w' => e = .returned (.int .i64 (a.natAbs : Nat)) ∧ w = w' := by
  go_enter Try.func68, Try.ntmps68
  go_wp2
  all_goals
    go_ret
    exact ⟨wret_int (by omega), rfl⟩

theorem power_any (k : Nat) (w : World) (hk : k ≤ 61) :
    Calls Try.prog 62 #[.int .i64 k] w fun e w' => e = .returned (.int .i64 (p2 k)) ∧ w = w' := by
  go_enter Try.func62, Try.ntmps62
  go_wp2
  go_loop [3, 4] (fun n i => ∃ j : Nat, j ≤ k ∧ i = .int .i64 j ∧ n = .int .i64 (p2 j)) (fun _ i => k - (intOf i).toNat)
  case atStart => exact ⟨0, Nat.zero_le _, rfl, rfl⟩
  case round =>
    obtain ⟨j, hj, rfl, rfl⟩ := hrel
    have b1 := p2_pos j
    have b2 := p2_61 (show j ≤ 61 by omega)
    by_cases hlt : j < k
    · have hs := p2_succ j
      go_wp2
      go_round
      case rel => exact ⟨j + 1, by omega, by go_num, rfl⟩
      case measure => simp [intOf]; omega
    · obtain rfl : j = k := by omega
      go_wp2
      go_ret
      exact ⟨rfl, rfl⟩

theorem over_any (a b : Int) (w : World) (h1 : -2147483648 ≤ a) (h2 : a ≤ 2147483647) (h3 : -2147483648 ≤ b) (h4 : b ≤ 2147483647) :
    Calls Try.prog 61 #[.int .i32 a, .int .i32 b] w fun e w' => e = .returned (.int .i64 (overV a b)) ∧ w = w' := by
  by_cases hb : b = 0
  · subst hb
    go_enter Try.func61, Try.ntmps61
    go_wp2_with (go_at_call 68; refine (size_any _ _ (by omega) (by omega)).mono ?_; rintro e w' ⟨rfl, rfl⟩)
    go_ret
    exact ⟨rfl, rfl⟩
  · obtain ⟨b1, b2⟩ := size_bd (b := b) h1 h2
    have b3 : 1 ≤ (b.natAbs : Int) := by omega
    have b4 : 0 ≤ (a.natAbs : Int) := by omega
    have b5 : (a.natAbs : Int) ≤ 2147483648 := by omega
    by_cases ha : a < 0 <;> by_cases hb' : b < 0
    · have da := decide_eq_true ha
      have db := decide_eq_true hb'
      have hE : Hid _ := overV_same hb (a := a) (by rw [decide_eq_true ha, decide_eq_true hb'])
      go_enter Try.func61, Try.ntmps61
      go_wp2_with (go_at_call 68; refine (size_any _ _ (by omega) (by omega)).mono ?_; rintro e w' ⟨rfl, rfl⟩)
      go_ret
      exact ⟨wret_int hE.out.symm, rfl⟩
    · have da := decide_eq_true ha
      have db := decide_eq_false hb'
      have hE : Hid _ := overV_diff hb (a := a) (by rw [decide_eq_true ha, decide_eq_false hb']; rfl)
      go_enter Try.func61, Try.ntmps61
      go_wp2_with (go_at_call 68; refine (size_any _ _ (by omega) (by omega)).mono ?_; rintro e w' ⟨rfl, rfl⟩)
      go_ret
      exact ⟨wret_int hE.out.symm, rfl⟩
    · have da := decide_eq_false ha
      have db := decide_eq_true hb'
      have hE : Hid _ := overV_diff hb (a := a) (by rw [decide_eq_false ha, decide_eq_true hb']; rfl)
      go_enter Try.func61, Try.ntmps61
      go_wp2_with (go_at_call 68; refine (size_any _ _ (by omega) (by omega)).mono ?_; rintro e w' ⟨rfl, rfl⟩)
      go_ret
      exact ⟨wret_int hE.out.symm, rfl⟩
    · have da := decide_eq_false ha
      have db := decide_eq_false hb'
      have hE : Hid _ := overV_same hb (a := a) (by rw [decide_eq_false ha, decide_eq_false hb'])
      go_enter Try.func61, Try.ntmps61
      go_wp2_with (go_at_call 68; refine (size_any _ _ (by omega) (by omega)).mono ?_; rintro e w' ⟨rfl, rfl⟩)
      go_ret
      exact ⟨wret_int hE.out.symm, rfl⟩

theorem floor_any (a m : Int) (w : World) (h1 : -2147483648 ≤ a) (h2 : a ≤ 2147483647) (h3 : 1 ≤ m) (h4 : m ≤ 2147483648) :
    Calls Try.prog 63 #[.int .i64 a, .int .i64 m] w fun e w' => e = .returned (.int .i64 (a / m)) ∧ w = w' := by
  obtain ⟨f1, f2⟩ := floor_lem (a := a) h3
  obtain ⟨d1, d2⟩ := tdiv_bd (b := m) h1 h2
  have k1 := Int.tmod_add_mul_tdiv a m
  have k2 : (a.tmod m).natAbs < m.natAbs := by rw [Int.natAbs_tmod]; exact Nat.mod_lt _ (by omega)
  rw [Int.mul_comm] at k1
  have l1 : -4294967297 ≤ a.tdiv m * m := by omega
  have l2 : a.tdiv m * m ≤ 4294967296 := by omega
  clear k1 k2
  by_cases hlt : a < a.tdiv m * m
  · have hE : Hid _ := f1 hlt
    clear f1 f2
    go_enter Try.func63, Try.ntmps63
    go_wp2
    go_ret
    exact ⟨wret_int hE.out.symm, rfl⟩
  · have hE : Hid _ := f2 hlt
    clear f1 f2
    go_enter Try.func63, Try.ntmps63
    go_wp2
    go_ret
    exact ⟨wret_int hE.out.symm, rfl⟩

theorem plain_is (a : Int) (X : Nat) (w : World) (h1 : -2147483648 ≤ a) (h2 : a ≤ 2147483647) (h : Hid (nat32 a = X)) :
    Calls Try.prog 60 #[.int .i32 a] w fun e w' => e = .returned (.int .i64 X) ∧ w = w' := by
  rw [← h.out]; exact plain_any a w h1 h2
set_option maxRecDepth 100000 in
theorem bits_core (a b kind : Int) (X Y : Nat) (w : World) (h1 : -2147483648 ≤ a) (h2 : a ≤ 2147483647) (h3 : -2147483648 ≤ b) (h4 : b ≤ 2147483647) (hk : kind = 0 ∨ kind = 1 ∨ kind = 2)
    (hx : Hid (nat32 a = X)) (hy : Hid (nat32 b = Y)) (x1 : X < 2 ^ 32) (y1 : Y < 2 ^ 32) :
    Calls Try.prog 64 #[.int .i32 a, .int .i32 b, .int .i64 kind] w fun e w' => e = .returned (.int .i32 (wrap32 (opN kind X Y : Nat))) ∧ w = w' := by
  go_enter Try.func64, Try.ntmps64
  go_wp2_with fail
  refine (plain_is a X _ h1 h2 hx).mono ?_
  rintro e w' ⟨rfl, rfl⟩
  go_wp2_with fail
  refine (plain_is b Y _ h3 h4 hy).mono ?_
  rintro e w' ⟨rfl, rfl⟩
  go_wp2
  clear h1 h2 h3 h4 hx hy
  have z1 : Hid (opN kind X Y < 2 ^ 32) := opN_lt kind x1 y1
  have x2 : (X : Int) ≤ 4294967295 := by omega
  have y2 : (Y : Int) ≤ 4294967295 := by omega
  clear x1 y1
  go_loop [9, 10] (fun n i => ∃ j : Nat, j ≤ 32 ∧ i = .int .i64 j ∧ n = .int .i64 (acc (opN kind X Y) j)) (fun _ i => 32 - (intOf i).toNat)
  case atStart => exact ⟨0, Nat.zero_le _, rfl, by rw [acc_zero]⟩
  case round =>
    obtain ⟨j, hj, rfl, rfl⟩ := hrel
    have a1 := acc_ge (opN kind X Y) j
    have a2 := acc_lt (opN kind X Y) hj
    by_cases hlt : j < 32
    · have b1 := p2_pos j
      have b2 := p2_31 (show j ≤ 31 by omega)
      have hbit : Hid (∀ b, opB kind (X.testBit j) (Y.testBit j) = b → (opN kind X Y).testBit j = b) := fun b h => (opN_bit kind X Y j).trans h
      have hX : ((X : Int) / p2 j) % 2 = if X.testBit j then 1 else 0 := by
        cases h : X.testBit j
        · simpa using bit0 h
        · simpa using bit1 h
      have hY : ((Y : Int) / p2 j) % 2 = if Y.testBit j then 1 else 0 := by
        cases h : Y.testBit j
        · simpa using bit0 h
        · simpa using bit1 h
      have q1 : 0 ≤ (X : Int) / p2 j := Int.ediv_nonneg (by omega) (by omega)
      have q2 : (X : Int) / p2 j ≤ 4294967295 := Int.le_trans (Int.ediv_le_self _ (by omega)) x2
      have q3 : 0 ≤ (Y : Int) / p2 j := Int.ediv_nonneg (by omega) (by omega)
      have q4 : (Y : Int) / p2 j ≤ 4294967295 := Int.le_trans (Int.ediv_le_self _ (by omega)) y2
      cases hx : X.testBit j <;> cases hy : Y.testBit j <;> rw [hx] at hX <;> rw [hy] at hY <;> rw [hx, hy] at hbit <;> clear hx hy <;> simp only [if_true, if_false, Bool.false_eq_true] at hX hY
      all_goals
        rcases hk with rfl | rfl | rfl
        all_goals
          first
            | (have hs : Hid (acc _ (j + 1) = acc _ j + p2 j) := acc_succ1 (hbit.out true rfl)
               clear hbit
               go_wp2_with (go_at_call 62; refine (power_any _ _ (by omega)).mono ?_; rintro e w' ⟨rfl, rfl⟩)
               go_round
               case rel => exact ⟨j + 1, by omega, by go_num, by rw [hs.out]⟩
               case measure => simp [intOf]; omega)
            | (have hs : Hid (acc _ (j + 1) = acc _ j) := acc_succ0 (hbit.out false rfl)
               clear hbit
               go_wp2_with (go_at_call 62; refine (power_any _ _ (by omega)).mono ?_; rintro e w' ⟨rfl, rfl⟩)
               go_round
               case rel => exact ⟨j + 1, by omega, by go_num, by rw [hs.out]⟩
               case measure => simp [intOf]; omega)
    · obtain rfl : j = 32 := by omega
      have hE : Hid _ := acc_end z1.out
      go_wp2_with (go_at_call 58; refine (low_any _ _).mono ?_; rintro e w' ⟨rfl, rfl⟩)
      go_ret
      exact ⟨wret_int (by rw [hE.out]), rfl⟩
theorem bits_any (a b kind : Int) (w : World) (h1 : -2147483648 ≤ a) (h2 : a ≤ 2147483647) (h3 : -2147483648 ≤ b) (h4 : b ≤ 2147483647) (hk : kind = 0 ∨ kind = 1 ∨ kind = 2) :
    Calls Try.prog 64 #[.int .i32 a, .int .i32 b, .int .i64 kind] w fun e w' => e = .returned (.int .i32 (wrap32 (opN kind (nat32 a) (nat32 b) : Nat))) ∧ w = w' :=
  bits_core a b kind _ _ w h1 h2 h3 h4 hk rfl rfl (nat32_lt a) (nat32_lt b)
end Go.Proofs.Ytmjelcoljmefeaa
