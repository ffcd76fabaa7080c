/-
  The statement MacBack: each call returns true and changes nothing that was there.
-/
import Derived.Test.YthglpniemenhcaaDoorMTags
namespace Go.Proofs.YthglpniemenhcaaDoor
open Go.RowKit
set_option maxHeartbeats 800000

theorem back_big (A A' : Option Addr) (n c n' c' : Nat) (w : World) (hK : KT w.heap.size w) (h : 16384 < n ∨ 16384 < n') :
    Calls Tryd.prog 5 #[.slice A n c, .slice A' n' c'] w fun e w' => e = .returned (.bool true) ∧ Below w.heap.size w w' := by
  by_cases h1 : 16384 < n
  · have hd : decide ((16384 : Int) < (n : Int)) = true := by simp; omega
    clear h
    go_enter Tryd.func5, Tryd.ntmps5
    go_wp2_with (go_at_call 9; refine (known_any _ _ (Nat.le_refl _) hK).mono ?_; rintro e w1 ⟨rfl, hb1⟩)
    go_ret
    exact ⟨rfl, hb1⟩
  · have hd : decide ((16384 : Int) < (n : Int)) = false := by simp; omega
    have hd2 : decide ((16384 : Int) < (n' : Int)) = true := by simp; omega
    clear h
    go_enter Tryd.func5, Tryd.ntmps5
    go_wp2_with (go_at_call 9; refine (known_any _ _ (Nat.le_refl _) hK).mono ?_; rintro e w1 ⟨rfl, hb1⟩)
    go_ret
    exact ⟨rfl, hb1⟩
theorem rgtB_tag (k l : List UInt8) : rgtB k l (tagL k l) = true := by simp [rgtB]
theorem Row.str8 {w : World} {B n c : Nat} {A : Option Addr} {l : List UInt8} (h : Row w B A n c (cs8 l)) : (convert 22 9 (.slice A n c)).run Tryd.prog w = .ok (.string ⟨l.toArray⟩) w :=
  h.str Tryd.underlying22 Tryd.underlying5 Tryd.underlying9
theorem back_walk (A : Option Addr) (n c : Nat) (k : List UInt8) (A' : Option Addr) (n' c' : Nat) (l : List UInt8) (w : World) (hk : Row w w.heap.size A n c (cs8 k)) (hr : Row w w.heap.size A' n' c' (cs8 l)) (hK : KT w.heap.size w) :
    Calls Tryd.prog 5 #[.slice A n c, .slice A' n' c'] w fun e w' => e = .returned (.bool true) ∧ Below w.heap.size w w' := by
  by_cases hbig : 16384 < n ∨ 16384 < n'
  · exact back_big A A' n c n' c' w hK hbig
  · have hn : n ≤ 16384 := by omega
    have hn' : n' ≤ 16384 := by omega
    clear hbig
    have hd : decide ((16384 : Int) < (n : Int)) = false := by simp; omega
    have hd2 : decide ((16384 : Int) < (n' : Int)) = false := by simp; omega
    have HL : Hid (l.length = n') := by have := hr.len; rwa [cs8_len] at this
    obtain ⟨X, HX⟩ : ∃ X, Hid (X = sealT k l) := ⟨_, rfl⟩
    have HU : Hid (unL k X = l) := by show _ = _; rw [HX.out, unL_seal]
    have HE : Hid (unE k X = 0) := by show _ = _; rw [HX.out, unE_seal]
    have HD : Hid (X.drop n' = tagL k l) := by show _ = _; rw [HX.out, sealT, ← HL.out, List.drop_left]
    go_enter Tryd.func5, Tryd.ntmps5
    go_wp2_with fail
    refine (Seal_any w.heap.size A n c k A' n' c' l w hk hr (Nat.le_refl _) hK (by omega) (by omega)).mono ?_
    rw [← HX.out]
    rintro e w1 ⟨A1, n1, c1, rfl, ho1, hb1⟩
    obtain rfl : n1 = n' + 32 := by have h1 := own8_len ho1; rw [HX.out, sealT_len, HL.out] at h1; exact h1.symm
    have x1 := Row.of_own ho1
    have hs1 := hb1.size
    clear ho1
    go_wp2_with fail
    refine (Open_any w1.heap.size A n c k A1 (n' + 32) c1 X w1 ((hk.keep hb1 (Nat.le_refl _)).more hs1) x1 (Nat.le_refl _) ((hK.keep hb1 (Nat.le_refl _)).more hs1) (by omega) (by omega)).mono ?_
    unfold Gives
    rw [HU.out, HE.out]
    rintro e w2 ⟨A2, n2, c2, rfl, ho2, hb2⟩
    have x2 := x1.keep hb2 (Nat.le_refl _)
    have y2 := Row.of_own ho2
    have hb02 := hb1.trans (hb2.mono hs1)
    have hs2 := hb02.size
    have hs12 := hb2.size
    have hr2 := hr.keep hb02 (Nat.le_refl _)
    have q1 := y2.str8
    have q2 := hr2.str8
    obtain ⟨A3, c3, hst, x3⟩ := x2.tailed Tryd.underlying22 size8 (lo := n') (by omega) (n' : Int) rfl
    rw [show n' + 32 - n' = 32 by omega] at hst x3
    rw [show (cs8 X).drop n' = cs8 (X.drop n') by simp [cs8], HD.out] at x3
    clear ho2 hb2 hb1 x1 y2 x2
    go_wp2_with fail
    refine (Right_any w1.heap.size A n c k A' n' c' l A3 32 c3 (tagL k l) w2 ((hk.keep hb02 (Nat.le_refl _)).more hs1) (hr2.more hs1) x3 hs12 ((hK.keep hb02 (Nat.le_refl _)).more hs1) (by omega) (by omega)).mono ?_
    rw [rgtB_tag]
    rintro e w3 ⟨rfl, hb3⟩
    have hb03 := hb02.trans (hb3.mono hs2)
    have hs3 := hb03.size
    go_wp2_with fail
    refine (known_any _ _ hs3 (hK.keep hb03 (Nat.le_refl _))).mono ?_
    rintro e w7 ⟨rfl, hb7⟩
    go_wp2
    go_ret
    exact ⟨rfl, hb03.trans (hb7.mono hs3)⟩
end Go.Proofs.YthglpniemenhcaaDoor
