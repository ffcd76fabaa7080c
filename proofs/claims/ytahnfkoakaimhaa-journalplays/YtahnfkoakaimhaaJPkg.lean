/-
  Contracts of package journal: isWritten, slices.IndexFunc and ContainsFunc, slices.Clone of nothing, stored, valid.
-/
import Derived.Test.YtahnfkoakaimhaaJMath3
import Derived.Test.YtahnfkoakaimhaaKRef
import Derived.Test.YtahnfkoakaimhaaFRows
import Derived.Deep.RegionHeld3
namespace Go.Proofs.Ytahnfkoakaimhaa
open Go.RowKit
set_option maxHeartbeats 400000

theorem isWritten_any (x : UInt32) (w : World) : Calls Try.prog 49 #[.int .u32 (x.toNat : Int)] w fun e w' => e = .returned (.bool (((x.toNat : Int) != 4294967295))) ∧ w = w' := by
  go_enter Try.func49, Try.ntmps49
  go_wp2
  go_ret
  exact ⟨rfl, rfl⟩
/-- The first place, from i on, of a word that is not erased; -1: there is none. -/
def firstW : List UInt32 → Nat → Int
  | [], _ => -1
  | x :: l, i => if x = ones32 then firstW l (i + 1) else (i : Int)
theorem firstW_neg (l : List UInt32) : ∀ i, (decide (0 ≤ firstW l i)) = !(l.all (· == ones32)) := by
  induction l with
  | nil => intro i; rfl
  | cons x l ih =>
    intro i
    rw [firstW]
    by_cases h : x = ones32
    · rw [if_pos h, ih]; simp [h]
    · rw [if_neg h]; simp [h]
theorem ones_ne (x : UInt32) : ((x.toNat : Int) != 4294967295) = !(decide (x = ones32)) := by
  by_cases h : x = ones32
  · rw [h]; rfl
  · have : x.toNat ≠ 4294967295 := fun e => h (UInt32.toNat_inj.1 e)
    rw [decide_eq_false h, Bool.not_false, bne_iff_ne]; omega
theorem IndexFunc_any (B : Nat) (A : Option Addr) (n c : Nat) (l : List UInt32) (w : World) (hr : Row w B A n c (cs32 l)) (hn : n ≤ 4096) :
    Calls Try.prog 58 #[.slice A n c, .func (.func 49) #[] #[]] w fun e w' => e = .returned (.int .i64 (firstW l 0)) ∧ w = w' := by
  have hln := hr.len
  rw [cs32_len] at hln
  subst hln
  go_enter Try.func58, Try.ntmps58
  go_wp2
  go_loopw [8] (fun i wr => ∃ (j : Nat), j ≤ l.length ∧ i = .int .i64 (j : Int) ∧ Hid (firstW (l.drop j) j = firstW l 0) ∧ wr = w) (fun i _ => l.length - (intOf i).toNat)
  case atStart => exact ⟨0, Nat.zero_le _, rfl, rfl, rfl⟩
  case round =>
    obtain ⟨j, hj, rfl, HF, rfl⟩ := hrel
    by_cases hlt : j < l.length
    · obtain ⟨b, o, u, rfl, _, hu, hcell⟩ := hr.get hlt
      rw [cs32_at hlt] at hu
      obtain rfl := Option.some.inj hu
      clear hu
      have HD := hide (show firstW (l.drop j) j = if l[j] = ones32 then firstW (l.drop (j + 1)) (j + 1) else (j : Int) by rw [drop_step l j hlt, firstW])
      by_cases ho : l[j] = ones32
      · have HO := hide ho
        clear ho
        go_wp2_with (go_at_call 49; refine (isWritten_any l[j] _).mono ?_; rintro e w2 ⟨rfl, rfl⟩; rw [ones_ne, decide_eq_true HO.out])
        go_roundw
        case rel => exact ⟨j + 1, by omega, by go_num, by show _ = _; rw [← HF.out, HD.out, if_pos HO.out], by first | rfl | trivial⟩
        case measure => simp [intOf]; omega
      · have HO := hide ho
        clear ho
        go_wp2_with (go_at_call 49; refine (isWritten_any l[j] _).mono ?_; rintro e w2 ⟨rfl, rfl⟩; rw [ones_ne, decide_eq_false HO.out])
        go_ret
        exact ⟨ret_int (by rw [← HF.out, HD.out, if_neg HO.out]), rfl⟩
    · obtain rfl : j = l.length := by omega
      go_wp2
      go_ret
      exact ⟨ret_int (by rw [← HF.out, List.drop_length]; rfl), rfl⟩
theorem ContainsFunc_any (B : Nat) (A : Option Addr) (n c : Nat) (l : List UInt32) (w : World) (hr : Row w B A n c (cs32 l)) (hn : n ≤ 4096) :
    Calls Try.prog 48 #[.slice A n c, .func (.func 49) #[] #[]] w fun e w' => e = .returned (.bool (!(l.all (· == ones32)))) ∧ w = w' := by
  have HE := hide (firstW_neg l 0)
  go_enter Try.func48, Try.ntmps48
  go_wp2_with (go_at_call 58; refine (IndexFunc_any B _ _ _ l _ hr hn).mono ?_; rintro e w2 ⟨rfl, rfl⟩)
  go_ret
  exact ⟨ret_bool HE.out, rfl⟩
set_option maxRecDepth 10000 in
theorem Clone_none (w : World) : Calls Try.prog 35 #[.slice none 0 0] w fun e w' => e = .returned (.slice none 0 0) ∧ w = w' := by
  go_enter Try.func35, Try.ntmps35
  have hq := eq_nil none 0 0
  go_wp2
  go_ret
  exact ⟨rfl, rfl⟩
end Go.Proofs.Ytahnfkoakaimhaa
