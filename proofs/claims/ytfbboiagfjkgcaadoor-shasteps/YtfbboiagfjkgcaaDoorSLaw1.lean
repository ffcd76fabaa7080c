/-
  The statements ShaSums, ShaSteps and ShaPads: each call returns true and changes nothing that was there.
-/
import Derived.Test.YtfbboiagfjkgcaaDoorSKnown
import Derived.Test.YtfbboiagfjkgcaaDoorSSum2
namespace Go.Proofs.YtfbboiagfjkgcaaDoor
open Go.RowKit
set_option maxHeartbeats 800000

theorem Row.lent {w : World} {B g n c : Nat} {l : List UInt8} (hk : Row w B (some ⟨g, 0, none⟩) (n + 1) c (cs8 (l ++ [77]))) : Row w B (some ⟨g, 0, none⟩) n c (cs8 l) := by
  have hn : l.length = n := by have := hk.len; rw [cs8_len] at this; simpa using this
  have hp := hk.pre (b := n) (by omega)
  rwa [cs8_snoc, List.take_left' (by rw [cs8_len]; exact hn)] at hp
theorem big_walk (n : Nat) (h : 16384 < n) : decide ((16384 : Int) < (n : Int)) = true := by simp; omega
theorem sums_walk (A : Option Addr) (n c : Nat) (l : List UInt8) (w : World) (hr : Row w w.heap.size A n c (cs8 l)) (hK : KT w.heap.size w) :
    Calls Tryd.prog 5 #[.slice A n c] w fun e w' => e = .returned (.bool true) ∧ Below w.heap.size w w' := by
  by_cases hbig : 16384 < n
  · have hd := big_walk n hbig
    go_enter Tryd.func5, Tryd.ntmps5
    go_wp2_with (go_at_call 9; refine (known_any _ _ (Nat.le_refl _) hK).mono ?_; rintro e w1 ⟨rfl, hb1⟩)
    go_ret
    exact ⟨rfl, hb1⟩
  · go_enter Tryd.func5, Tryd.ntmps5
    go_wp2_with fail
    refine (Lent_any w.heap.size A n c l w hr (by omega)).mono ?_
    rintro e w1 ⟨g, c1, rfl, ho1, hb1⟩
    have hs1 := hb1.size
    have hk1 := Row.of_own ho1
    have hr1 := hr.keep hb1 (Nat.le_refl _)
    have hK1 := hK.keep hb1 (Nat.le_refl _)
    go_wp2_with fail
    refine (Sum_any w1.heap.size _ _ _ l w1 hk1.lent (Nat.le_refl _) (hK1.more hs1) (by omega)).mono ?_
    rintro e w2 ⟨rfl, hb2⟩
    have hs2 := hb2.size
    have hk2 := hk1.keep hb2 (Nat.le_refl _)
    have hr2 := hr1.keep hb2 hs1
    have hK2 := hK1.keep hb2 hs1
    go_wp2_with fail
    refine (rSum_any w.heap.size _ _ _ l w2 hr2 (by omega) (by omega)).mono ?_
    rintro e w3 ⟨rfl, hb3⟩
    have hs3 := hb3.size
    have hk3 := hk2.keep hb3 hs2
    have hr3 := hr2.keep hb3 (by omega)
    have hK3 := hK2.keep hb3 (by omega)
    have hq := eq32b (sumL l) (sumL_len l)
    go_wp2_with (first
      | (go_at_call 13; refine (Kept_any w.heap.size w1.heap.size _ _ _ _ _ l _ hk3 hr3 (by omega)).mono ?_; rintro e w' ⟨rfl, rfl⟩)
      | (go_at_call 9; refine (known_any _ _ (by omega) hK3).mono ?_; rintro e w5 ⟨rfl, hb5⟩))
    go_ret
    exact ⟨rfl, ((hb1.trans (hb2.mono hs1)).trans (hb3.mono (by omega))).trans (hb5.mono (by omega))⟩
theorem steps_walk (s : List UInt32) (A : Option Addr) (n c : Nat) (l : List UInt8) (w : World) (hs : s.length = 8) (hr : Row w w.heap.size A n c (cs8 l)) (hK : KT w.heap.size w) :
    Calls Tryd.prog 3 #[.agg (cs32 s).toArray, .slice A n c] w fun e w' => e = .returned (.bool true) ∧ Below w.heap.size w w' := by
  by_cases hbig : 16384 < n
  · have hd := big_walk n hbig
    go_enter Tryd.func3, Tryd.ntmps3
    go_wp2_with (go_at_call 9; refine (known_any w.heap.size _ (by simp) (hK.keep ((Below.refl w.heap.size w).alloc (Nat.le_refl _) _) (Nat.le_refl _))).mono ?_; rintro e w1 ⟨rfl, hb1⟩)
    go_ret
    exact ⟨rfl, ((Below.refl w.heap.size w).alloc (Nat.le_refl _) _).trans (hb1.mono (by simp))⟩
  · have hsl : (cs32 s).length = 8 := by rw [cs32_len]; exact hs
    go_enter Tryd.func3, Tryd.ntmps3
    go_wp2_with fail
    generalize hw : World.alloc _ _ = w0
    have hb0 : Below w.heap.size w w0 := by rw [← hw]; exact (Below.refl _ w).alloc (Nat.le_refl _) _
    have h2 : Blk w0 w.heap.size 23 (cs32 s) := by rw [← hw]; exact Blk.at _ _ _ rfl
    clear hw
    have hs0 := hb0.size
    have hl2 := h2.lt
    refine (Lent_any w.heap.size A n c l w0 (hr.keep hb0 (Nat.le_refl _)) (by omega)).mono ?_
    rintro e w1 ⟨g, c1, rfl, ho1, hb1⟩
    have hb01 := hb0.trans (hb1.mono hs0)
    have hs1 := hb01.size
    have hk1 := Row.of_own ho1
    have h21 := h2.keep hb1 hl2
    have hs01 := hb1.size
    clear ho1 hb1 hb0 h2
    go_wp2_with (refine wpList_loadB rfl 23 (.tmp 2) rfl _ rfl 23 _ h21 8 22 Tryd.underlying23 size8w hsl ?_)
    refine (Step_any w1.heap.size _ _ _ l s w1 hk1.lent (Nat.le_refl _) hs ((hK.keep hb01 (Nat.le_refl _)).more hs1)).mono ?_
    rintro e w2 ⟨rfl, hb2⟩
    have hb02 := hb01.trans (hb2.mono hs1)
    have hs2 := hb02.size
    have hs12 := hb2.size
    have hk2 := hk1.keep hb2 (Nat.le_refl _)
    have h22 := h21.keep hb2 (by omega)
    clear hb2 hk1 h21 hb01
    obtain ⟨X, HX⟩ : ∃ X, Hid (X = stS s l) := ⟨_, rfl⟩
    rw [← HX.out]
    have hX8 : X.length = 8 := by rw [HX.out]; exact stS_len hs l
    have hXl : (cs32 X).length = 8 := by rw [cs32_len]; exact hX8
    go_wp2_with (first
      | (refine wpList_storeB rfl 23 (.tmp 6) (.tmp 20) rfl w2.heap.size (cs32 X) rfl rfl 23 (zeros32 8) (Blk.at _ _ _ rfl) 8 size8w hXl rfl (cs32_one _) ?_; rw [World.setRow_alloc_new]; have h63 := Blk.new w2 23 (cs32 X); have hb3 := (Below.refl w2.heap.size w2).alloc (Nat.le_refl _) (.cells (cs32 X).toArray 23 (0, 0)); generalize World.alloc w2 _ = w3 at h63 hb3 ⊢)
      | (refine wpList_loadB rfl 23 (.tmp 2) rfl w.heap.size rfl 23 (cs32 s) (h22.keep hb3 (by omega)) 8 22 Tryd.underlying23 size8w hsl ?_))
    have hb03 := hb02.trans (hb3.mono hs2)
    have hs3 := hb03.size
    have hk3 := hk2.keep hb3 hs12
    have hl3 := h63.lt
    clear hb3 hk2 h22 hb02
    refine (rStep_any w.heap.size _ _ _ l s w3 (hr.keep hb03 (Nat.le_refl _)) hs3 hs).mono ?_
    unfold StepPost
    rw [← HX.out]
    rintro e w4 ⟨rfl, hb4⟩
    have hb04 := hb03.trans (hb4.mono hs3)
    have hs4 := hb04.size
    have hk4 := hk3.keep hb4 (by omega)
    have h64 := h63.keep hb4 hl3
    clear hb4 hk3 h63 hb03
    have hl4 := h64.lt
    go_wp2_with (first
      | (refine wpList_storeB rfl 23 (.tmp 8) (.tmp 26) rfl w4.heap.size (cs32 X) rfl rfl 23 (zeros32 8) (Blk.at _ _ _ rfl) 8 size8w hXl rfl (cs32_one _) ?_; rw [World.setRow_alloc_new]; have h85 := Blk.new w4 23 (cs32 X); have hb5 := (Below.refl w4.heap.size w4).alloc (Nat.le_refl _) (.cells (cs32 X).toArray 23 (0, 0)); generalize World.alloc w4 _ = w5 at h85 hb5 ⊢)
      | (refine wpList_loadB rfl 23 (.tmp 6) rfl _ rfl 23 (cs32 X) (h64.keep hb5 hl4) 8 22 Tryd.underlying23 size8w hXl ?_)
      | (refine wpList_loadB rfl 23 (.tmp 8) rfl _ rfl 23 (cs32 X) h85 8 22 Tryd.underlying23 size8w hXl ?_; have hq := eq8w X hX8; have hq2 := eq8w firstL firstL_len; have hb05 := hb04.trans (hb5.mono hs4); have hs5 := hb05.size; have hk5 := hk4.keep hb5 (by omega))
      | (go_at_call 13; refine (Kept_any w.heap.size w1.heap.size _ _ _ _ _ l _ hk5 (hr.keep hb05 (Nat.le_refl _)) (by omega)).mono ?_; rintro e w' ⟨rfl, rfl⟩)
      | (go_at_call 14; refine (First_any _).mono ?_; rintro e w6 ⟨rfl, hb6⟩)
      | (go_at_call 15; refine (rFirst_any _).mono ?_; rintro e w7 ⟨rfl, hb7⟩; have hb07 := (hb05.trans (hb6.mono hs5)).trans (hb7.mono (Nat.le_trans hs5 hb6.size)); have hs7 := hb07.size)
      | (go_at_call 9; refine (known_any _ _ hs7 (hK.keep hb07 (Nat.le_refl _))).mono ?_; rintro e w8 ⟨rfl, hb8⟩))
    go_ret
    exact ⟨rfl, hb07.trans (hb8.mono hs7)⟩
end Go.Proofs.YtfbboiagfjkgcaaDoor
