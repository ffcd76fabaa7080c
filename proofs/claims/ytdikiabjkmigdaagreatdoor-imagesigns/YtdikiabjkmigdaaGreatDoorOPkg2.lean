/-
  Contracts of package octet: GetRun, Words, Bytes, Signed, Plain.
-/
import Derived.Test.YtdikiabjkmigdaaGreatDoorOPkg
namespace Go.Proofs.YtdikiabjkmigdaaGreatDoor
set_option maxRecDepth 20000
open Go.RowKit
set_option maxHeartbeats 400000

theorem leN_two_lt (l : List UInt8) (h : l.length ≤ 2) : leN l ≤ 65535 := by
  have h1 := leN_lt l
  have h2 : (256 : Nat) ^ l.length ≤ 256 ^ 2 := Nat.pow_le_pow_right (by omega) h
  omega
theorem runN_le (l : List UInt8) (a : Nat) : runN l a ≤ 65535 := leN_two_lt _ (by simp; omega)
theorem get2_ok (B : Nat) (A : Option Addr) (n c : Nat) (l : List UInt8) (a : Nat) (w : World) (hr : Row w B A n c (cs8 l)) (ha : a + 2 ≤ l.length) :
    Calls Tryz.prog 44 #[.slice A n c, .int .i64 (a : Int), .int .i64 2] w fun e w' => e = .returned (.tuple #[.int .u64 (runN l a : Int), .int .i64 0]) ∧ w = w' := by
  refine (Get_any B A n c l a 2 w hr).mono ?_
  rintro e w' ⟨rfl, rfl⟩
  have e0 : getE l.length (a : Int) ((2 : Nat) : Int) = 0 := by rw [getE_nat ⟨by omega, by omega⟩ (by omega), if_pos ha]
  have e1 : getN l (a : Int) ((2 : Nat) : Int) = runN l a := by rw [getN_ok e0]; rfl
  exact ⟨ret_get (congrArg _ e1) e0, rfl⟩
theorem get2_bad (B : Nat) (A : Option Addr) (n c : Nat) (l : List UInt8) (a : Int) (k : Int) (w : World) (hr : Row w B A n c (cs8 l)) (ha : getE l.length a 2 = k) (hk : k ≠ 0) :
    Calls Tryz.prog 44 #[.slice A n c, .int .i64 a, .int .i64 2] w fun e w' => e = .returned (.tuple #[.int .u64 0, .int .i64 k]) ∧ w = w' := by
  refine (Get_any B A n c l a 2 w hr).mono ?_
  rintro e w' ⟨rfl, rfl⟩
  exact ⟨ret_get (by rw [getN_bad (by rw [ha]; exact hk)]; rfl) ha, rfl⟩
theorem grE_out {l : List UInt8} {a : Int} (h : ¬ (0 ≤ a ∧ a ≤ l.length)) : grE l a = 1 := if_neg h
theorem grE_short {l : List UInt8} {a : Nat} (h : a ≤ l.length) (h2 : ¬ (a + 2 + runN l a ≤ l.length)) : grE l (a : Int) = 2 := by
  unfold grE; rw [if_pos ⟨by omega, by omega⟩, if_neg (by rw [Int.toNat_natCast]; omega)]
theorem grE_ok {l : List UInt8} {a : Nat} (h2 : a + 2 + runN l a ≤ l.length) : grE l (a : Int) = 0 := by
  unfold grE; rw [if_pos ⟨by omega, by omega⟩, if_pos (by rw [Int.toNat_natCast]; omega)]
theorem grL_bad {l : List UInt8} {a : Int} (h : grE l a ≠ 0) : grL l a = [] := if_neg h
theorem grT_bad {l : List UInt8} {a : Int} (h : grE l a ≠ 0) : grT l a = 0 := if_neg h
theorem grL_ok {l : List UInt8} {a : Nat} (h : grE l (a : Int) = 0) : grL l (a : Int) = (l.drop (a + 2)).take (runN l a) := if_pos h
theorem grT_ok {l : List UInt8} {a : Nat} (h : grE l (a : Int) = 0) : grT l (a : Int) = a + 2 + runN l a := if_pos h
theorem cs8_cut (l : List UInt8) (a b : Nat) : ((cs8 l).drop a).take b = cs8 ((l.drop a).take b) := by simp [cs8]

theorem GetRun_any (B : Nat) (A : Option Addr) (n c : Nat) (l : List UInt8) (a : Int) (w : World) (hr : Row w B A n c (cs8 l)) (hB : B ≤ w.heap.size) (hl : n ≤ 1099511627776) :
    Calls Tryz.prog 46 #[.slice A n c, .int .i64 a] w (Gives3 w (grL l a) (grT l a) (grE l a)) := by
  have hn := hr.len
  rw [cs8_len] at hn
  subst hn
  by_cases ha : 0 ≤ a ∧ a ≤ l.length
  · obtain ⟨a, rfl⟩ : ∃ k : Nat, a = (k : Int) := ⟨a.toNat, by omega⟩
    have ha1 : a ≤ l.length := by omega
    clear ha
    by_cases h2 : a + 2 ≤ l.length
    · have hN := runN_le l a
      by_cases h3 : a + 2 + runN l a ≤ l.length
      · obtain ⟨A9, c9, hsl, hr9⟩ := hr.sliced Tryz.underlying29 size8 (lo := a + 2) (hi := a + 2 + runN l a) (by omega) h3 ((a : Int) + 2) ((a : Int) + 2 + (runN l a : Int)) (by omega) (by omega)
        rw [cs8_cut, Nat.add_sub_cancel_left] at hr9
        rw [Nat.add_sub_cancel_left] at hsl
        have hsl := hsl w
        have HE := hide (grE_ok h3)
        go_enter Tryz.func46, Tryz.ntmps46
        go_wp2_with (first
          | (go_at_call 44; refine (get2_ok B _ _ _ _ _ _ hr h2).mono ?_; rintro e w' ⟨rfl, rfl⟩)
          | (go_at_call 69; refine (grown_any B _ _ _ _ 0 _ hr9 hB (by omega)).mono ?_; rintro e w1 ⟨A1, n1, c1, rfl, ho1, hb1⟩))
        go_ret3
        rw [grL_ok HE.out]
        exact Gives3.of (grT_ok HE.out) HE.out ho1 hb1
      · have hd : decide ((l.length : Int) < (a : Int) + 2 + (runN l a : Int)) = true := by simp; omega
        have HE := hide (grE_short ha1 h3)
        go_enter Tryz.func46, Tryz.ntmps46
        go_wp2_with (go_at_call 44; refine (get2_ok B _ _ _ _ _ _ hr h2).mono ?_; rintro e w' ⟨rfl, rfl⟩)
        go_ret3
        exact Gives3.none_ (grL_bad (by rw [HE.out]; decide)) (grT_bad (by rw [HE.out]; decide)) HE.out
    · have HE := hide (grE_short ha1 (by omega))
      have HG : Hid (getE l.length (a : Int) 2 = 2) := by
        have := getE_nat (n := l.length) (k := 2) ⟨by omega, by omega⟩ ha1
        rw [if_neg h2] at this
        exact this
      go_enter Tryz.func46, Tryz.ntmps46
      go_wp2_with (go_at_call 44; refine (get2_bad B _ _ _ _ _ 2 _ hr HG.out (by decide)).mono ?_; rintro e w' ⟨rfl, rfl⟩)
      go_ret3
      exact Gives3.none_ (grL_bad (by rw [HE.out]; decide)) (grT_bad (by rw [HE.out]; decide)) HE.out
  · have HE := hide (grE_out ha)
    have HG : Hid (getE l.length a 2 = 1) := getE_bad (fun h => ha h.2)
    go_enter Tryz.func46, Tryz.ntmps46
    go_wp2_with (go_at_call 44; refine (get2_bad B _ _ _ _ _ 1 _ hr HG.out (by decide)).mono ?_; rintro e w' ⟨rfl, rfl⟩)
    go_ret3
    exact Gives3.none_ (grL_bad (by rw [HE.out]; decide)) (grT_bad (by rw [HE.out]; decide)) HE.out
end Go.Proofs.YtdikiabjkmigdaaGreatDoor
