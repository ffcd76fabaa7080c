/-
  The statement CrcBack: the call returns true and changes nothing that was there.
-/
import Derived.Test.YtkabmpiofpgoaaaKSums
namespace Go.Proofs.Ytkabmpiofpgoaaa
open Go.RowKit
set_option maxHeartbeats 800000

theorem back_walk (A : Option Addr) (n c : Nat) (l : List UInt8) (A' : Option Addr) (n' c' : Nat) (x : List UInt8) (A'' : Option Addr) (n'' c'' : Nat) (y : List UInt8) (w : World) (hr : Row w w.heap.size A n c (cs8 l)) (hx : Row w w.heap.size A' n' c' (cs8 x)) (hy : Row w w.heap.size A'' n'' c'' (cs8 y)) :
    Calls Try.prog 5 #[.slice A n c, .slice A' n' c', .slice A'' n'' c''] w fun e w' => e = .returned (.bool true) ∧ Below w.heap.size w w' := by
  obtain ⟨i0, hi, hz0, hz1, hz2⟩ := info_parts info8
  by_cases hbig : 65536 < n
  · have hd : decide ((65536 : Int) < (n : Int)) = true := by simp; omega
    go_enter Try.func5, Try.ntmps5
    go_wp2_with (go_at_call 9; refine (known_any _).mono ?_; rintro e w1 ⟨rfl, hb1⟩)
    go_ret
    exact ⟨rfl, hb1⟩
  have hd : decide ((65536 : Int) < (n : Int)) = false := by simp; omega
  by_cases hbig' : 65536 < n'
  · have hd : decide ((65536 : Int) < (n' : Int)) = true := by simp; omega
    go_enter Try.func5, Try.ntmps5
    go_wp2_with (go_at_call 9; refine (known_any _).mono ?_; rintro e w1 ⟨rfl, hb1⟩)
    go_ret
    exact ⟨rfl, hb1⟩
  have hd' : decide ((65536 : Int) < (n' : Int)) = false := by simp; omega
  by_cases hbig'' : 65536 < n''
  · have hd : decide ((65536 : Int) < (n'' : Int)) = true := by simp; omega
    go_enter Try.func5, Try.ntmps5
    go_wp2_with (go_at_call 9; refine (known_any _).mono ?_; rintro e w1 ⟨rfl, hb1⟩)
    go_ret
    exact ⟨rfl, hb1⟩
  have hd'' : decide ((65536 : Int) < (n'' : Int)) = false := by simp; omega
  go_enter Try.func5, Try.ntmps5
  go_wp2_with (first
    | (at_builtin; refine wpList_append_row rfl (.tmp 24) (.tmp 25) 23 rfl w.heap.size 5 i0 _ 1 Try.underlying23 hi hz0 hz1 hz2 rfl _ 0 [] rfl (World.ownsRow_nil _ _ _ _) w.heap.size _ _ _ _ rfl hr (cs8_one l) (by unfold maxLen; omega) (by omega) w (Below.refl _ _) (Nat.le_refl _) ?_; intro A1 c1 w1 ho1 hb1 hg1; simp only [Nat.zero_add, List.nil_append] at ho1)
    | (at_builtin; refine wpList_append_row rfl (.tmp 27) (.tmp 28) 23 rfl w.heap.size 5 i0 _ 1 Try.underlying23 hi hz0 hz1 hz2 rfl _ _ _ rfl ho1 w.heap.size _ _ _ _ rfl (hx.keep hb1 (Nat.le_refl _)) (cs8_one x) (by unfold maxLen; omega) (by omega) w hb1 (Nat.le_refl _) ?_; intro A2 c2 w2 ho2 hb2 hg2)
    | (at_builtin; refine wpList_append_row rfl (.tmp 30) (.tmp 31) 23 rfl w.heap.size 5 i0 _ 1 Try.underlying23 hi hz0 hz1 hz2 rfl _ _ _ rfl ho2 w.heap.size _ _ _ _ rfl (hy.keep hb2 (Nat.le_refl _)) (cs8_one y) (by unfold maxLen; omega) (by omega) w hb2 (Nat.le_refl _) ?_; intro A3 c3 w3 ho3 hb3 hg3)
    | fail)
  rw [← cs8_app, ← cs8_app] at ho3
  have HZ := hide (show crcOn (crcOn (crcOn 0 l) x) y = crcOn 0 (l ++ x ++ y) by rw [crcOn_app, crcOn_app, List.append_assoc])
  have b0 := crcOn_lt 0 l
  have b1 := crcOn_lt (crcOn 0 l) x
  have hs3 := hb3.size
  have hn3 : n + n' + n'' ≤ 196608 := by omega
  generalize hz : l ++ x ++ y = z at ho3 HZ
  generalize n + n' + n'' = m at ho3 hn3 ⊢
  clear hz ho1 hb1 hg1 ho2 hb2 hg2 hg3
  refine (Seal_any w3.heap.size _ _ _ z w3 (Row.of_own ho3) (Nat.le_refl _) (by omega)).mono ?_
  rintro e w4 ⟨A4, n4, c4, rfl, ho4, hb4⟩
  have hs4 := hb4.size
  have hn4 : n4 ≤ 196612 := by have h1 := own8_len ho4; have h2 := own8_len ho3; rw [sealL_len] at h1; omega
  go_wp2_with fail
  refine (Open_any w4.heap.size _ _ _ (sealL z) w4 (Row.of_own ho4) (Nat.le_refl _) (by omega)).mono ?_
  rw [opL_sealed, opE_sealed]
  rintro e w5 ⟨A5, n5, c5, rfl, ho5, hb5⟩
  have hs5 := hb5.size
  have hb35 : Below w3.heap.size w3 w5 := hb4.trans (hb5.mono hs4)
  have hb05 : Below w.heap.size w w5 := hb3.trans (hb35.mono hs3)
  have hk5 := (Row.of_own ho3).keep hb35 (Nat.le_refl _)
  have q3 := hk5.str8
  have q5 := (Row.of_own ho5).str8
  go_wp2_with fail
  clear q3 q5
  refine (Sum_any w.heap.size _ _ _ l w5 (hr.keep hb05 (Nat.le_refl _)) hb05.size).mono ?_
  rintro e w6 ⟨rfl, hb6⟩
  have hs6 := hb6.size
  have hb06 : Below w.heap.size w w6 := hb05.trans (hb6.mono hb05.size)
  go_wp2_with fail
  refine (On_any w.heap.size _ _ _ _ x w6 (hx.keep hb06 (Nat.le_refl _)) hb06.size b0).mono ?_
  rintro e w7 ⟨rfl, hb7⟩
  have hs7 := hb7.size
  have hb07 : Below w.heap.size w w7 := hb06.trans (hb7.mono hb06.size)
  go_wp2_with fail
  refine (On_any w.heap.size _ _ _ _ y w7 (hy.keep hb07 (Nat.le_refl _)) hb07.size b1).mono ?_
  unfold Sums
  rw [HZ.out]
  rintro e w8 ⟨rfl, hb8⟩
  have hs8 := hb8.size
  have hb08 : Below w.heap.size w w8 := hb07.trans (hb8.mono hb07.size)
  go_wp2_with fail
  refine (Sum_any w3.heap.size _ _ _ z w8 (((hk5.keep hb6 (by omega)).keep hb7 (by omega)).keep hb8 (by omega)) (by omega)).mono ?_
  rintro e w9 ⟨rfl, hb9⟩
  go_wp2_with (go_at_call 9; refine (known_any _).mono ?_; rintro e w10 ⟨rfl, hb10⟩)
  go_ret
  have hb09 : Below w.heap.size w w9 := hb08.trans (hb9.mono hb08.size)
  exact ⟨rfl, hb09.trans (hb10.mono hb09.size)⟩
end Go.Proofs.Ytkabmpiofpgoaaa
