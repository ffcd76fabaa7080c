/-
  The statement MacTags: each call returns true and changes nothing that was there.
-/
import Derived.Test.YthglpniemenhcaaDoorMKnown
import Derived.Test.YthglpniemenhcaaDoorMRef2
namespace Go.Proofs.YthglpniemenhcaaDoor
open Go.RowKit
set_option maxHeartbeats 800000

theorem Row.lent {w : World} {B g n c : Nat} {l : List UInt8} (hk : Row w B (some ⟨g, 0, none⟩) (n + 1) c (cs8 (l ++ [77]))) : Row w B (some ⟨g, 0, none⟩) n c (cs8 l) := by
  have hn : l.length = n := by have := hk.len; rw [cs8_len] at this; simpa using this
  have hp := hk.pre (b := n) (by omega)
  rwa [cs8_snoc, List.take_left' (by rw [cs8_len]; exact hn)] at hp
theorem tags_big (A A' : Option Addr) (n c n' c' : Nat) (w : World) (hK : KT w.heap.size w) (h : 16384 < n ∨ 16384 < n') :
    Calls Tryd.prog 3 #[.slice A n c, .slice A' n' c'] w fun e w' => e = .returned (.bool true) ∧ Below w.heap.size w w' := by
  by_cases h1 : 16384 < n
  · have hd : decide ((16384 : Int) < (n : Int)) = true := by simp; omega
    clear h
    go_enter Tryd.func3, Tryd.ntmps3
    go_wp2_with (go_at_call 9; refine (known_any _ _ (Nat.le_refl _) hK).mono ?_; rintro e w1 ⟨rfl, hb1⟩)
    go_ret
    exact ⟨rfl, hb1⟩
  · have hd : decide ((16384 : Int) < (n : Int)) = false := by simp; omega
    have hd2 : decide ((16384 : Int) < (n' : Int)) = true := by simp; omega
    clear h
    go_enter Tryd.func3, Tryd.ntmps3
    go_wp2_with (go_at_call 9; refine (known_any _ _ (Nat.le_refl _) hK).mono ?_; rintro e w1 ⟨rfl, hb1⟩)
    go_ret
    exact ⟨rfl, hb1⟩
theorem tags_walk (A : Option Addr) (n c : Nat) (k : List UInt8) (A' : Option Addr) (n' c' : Nat) (l : List UInt8) (w : World) (hk : Row w w.heap.size A n c (cs8 k)) (hr : Row w w.heap.size A' n' c' (cs8 l)) (hK : KT w.heap.size w) :
    Calls Tryd.prog 3 #[.slice A n c, .slice A' n' c'] w fun e w' => e = .returned (.bool true) ∧ Below w.heap.size w w' := by
  by_cases hbig : 16384 < n ∨ 16384 < n'
  · exact tags_big A A' n c n' c' w hK hbig
  · have hn : n ≤ 16384 := by omega
    have hn' : n' ≤ 16384 := by omega
    clear hbig
    have hd : decide ((16384 : Int) < (n : Int)) = false := by simp; omega
    have hd2 : decide ((16384 : Int) < (n' : Int)) = false := by simp; omega
    obtain ⟨X, HX⟩ : ∃ X, Hid (X = blkL k) := ⟨_, rfl⟩
    have hq1 := eq64b X (by rw [HX.out]; exact blkL_len k)
    obtain ⟨T, HT⟩ : ∃ T, Hid (T = tagL k l) := ⟨_, rfl⟩
    have hq2 := eq32b T (by rw [HT.out]; exact tagL_len k l)
    go_enter Tryd.func3, Tryd.ntmps3
    go_wp2_with fail
    refine (Lent_any w.heap.size A n c k w hk (by omega)).mono ?_
    rintro e w1 ⟨g1, c1, rfl, ho1, hb1⟩
    have k1 := Row.of_own ho1
    have hs1 := hb1.size
    clear ho1
    go_wp2_with fail
    refine (Lent_any w.heap.size A' n' c' l w1 (hr.keep hb1 (Nat.le_refl _)) (by omega)).mono ?_
    rintro e w2 ⟨g2, c2, rfl, ho2, hb2⟩
    have r2 := Row.of_own ho2
    have hs12 := hb2.size
    have k2 := (k1.keep hb2 (Nat.le_refl _)).more hs12
    have hb02 := hb1.trans (hb2.mono hs1)
    have hs2 := hb02.size
    clear ho2 hb2 hb1 k1
    go_wp2_with fail
    refine (Block_any w2.heap.size _ n c1 k w2 k2.lent (Nat.le_refl _) ((hK.keep hb02 (Nat.le_refl _)).more hs2) (by omega)).mono ?_
    rw [← HX.out]
    rintro e w3 ⟨rfl, hb3⟩
    have hb03 := hb02.trans (hb3.mono hs2)
    have hs3 := hb03.size
    have hs23 := hb3.size
    have k3 := k2.keep hb3 (Nat.le_refl _)
    have r3 := r2.keep hb3 (Nat.le_refl _)
    clear hb3 k2 r2
    go_wp2_with fail
    refine (rBlock_any w.heap.size A n c k w3 (hk.keep hb03 (Nat.le_refl _)) hs3 (by omega)).mono ?_
    rw [← HX.out]
    rintro e w4 ⟨rfl, hb4⟩
    have hb04 := hb03.trans (hb4.mono hs3)
    have hs4 := hb04.size
    have hs24 := Nat.le_trans hs23 hb4.size
    have k4 := k3.keep hb4 hs23
    have r4 := r3.keep hb4 hs23
    clear hb4 k3 r3
    go_wp2_with fail
    refine (Tag_any w2.heap.size _ n c1 k _ n' c2 l w4 k4.lent r4.lent hs24 ((hK.keep hb04 (Nat.le_refl _)).more hs2) (by omega) (by omega)).mono ?_
    rw [← HT.out]
    rintro e w5 ⟨rfl, hb5⟩
    have hb05 := hb04.trans (hb5.mono hs4)
    have hs5 := hb05.size
    have k5 := k4.keep hb5 hs24
    have r5 := r4.keep hb5 hs24
    have hs25 := Nat.le_trans hs24 hb5.size
    clear hb5 k4 r4
    go_wp2_with fail
    refine (rTag_any w.heap.size A n c k A' n' c' l w5 (hk.keep hb05 (Nat.le_refl _)) (hr.keep hb05 (Nat.le_refl _)) hs5 (by omega) (by omega)).mono ?_
    rw [← HT.out]
    rintro e w6 ⟨rfl, hb6⟩
    have hb06 := hb05.trans (hb6.mono hs5)
    have hs6 := hb06.size
    have k6 := k5.keep hb6 hs25
    have r6 := r5.keep hb6 hs25
    clear hb6 k5 r5
    go_wp2_with fail
    refine (Kept_any w.heap.size w2.heap.size g1 A n c c1 k w6 k6 (hk.keep hb06 (Nat.le_refl _)) (by omega)).mono ?_
    rintro e w' ⟨rfl, rfl⟩
    go_wp2_with fail
    refine (Kept_any w.heap.size w2.heap.size g2 A' n' c' c2 l w6 r6 (hr.keep hb06 (Nat.le_refl _)) (by omega)).mono ?_
    rintro e w' ⟨rfl, rfl⟩
    go_wp2_with fail
    refine (known_any _ _ hs6 (hK.keep hb06 (Nat.le_refl _))).mono ?_
    rintro e w7 ⟨rfl, hb7⟩
    go_wp2
    go_ret
    exact ⟨rfl, hb06.trans (hb7.mono hs6)⟩
end Go.Proofs.YthglpniemenhcaaDoor
