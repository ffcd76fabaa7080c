/-
  The walk of the law JudgeWider.
-/
import Derived.Test.YtllmhgikaijnhaaULent
import Derived.Test.YtllmhgikaijnhaaUMath2
namespace Go.Proofs.Ytllmhgikaijnhaa
open Go.RowKit
set_option maxHeartbeats 4000000

theorem max_let (a b : Int) : ∃ g, max a b = g ∧ ∀ ts t (W : World), (Builtin.max_ ts t #[.int .i64 a, .int .i64 b]).run Try.prog W = .ok (.int .i64 g) W := ⟨_, rfl, max_run a b⟩
theorem frames_below (w : World) (a b : Obj) : Below w.heap.size w ((w.alloc a).alloc b) := ((Below.refl _ w).alloc (Nat.le_refl _) a).alloc (by simp) b
theorem wider_walk (A : Option Addr) (n c : Nat) (l : List (Int × Int)) (f m : Fr) (w : World) (hr : RowI w w.heap.size A n c l) (_h _h' : True) :
    Calls Try.prog 6 #[.slice A n c, .agg #[.int .i64 f.s, .int .i64 f.o, .int .i64 f.n, .int .i64 f.i, .int .i64 f.u], .agg #[.int .i64 m.s, .int .i64 m.o, .int .i64 m.n, .int .i64 m.i, .int .i64 m.u]] w fun e w' => e = .returned (.bool true) ∧ Below w.heap.size w w' := by
  obtain ⟨s1, s2, s3, s4, s5⟩ := f
  obtain ⟨m1, m2, m3, m4, m5⟩ := m
  simp only
  by_cases hbig : 600 < n
  · have hd : decide ((600 : Int) < (n : Int)) = true := by simp; omega
    go_enter Try.func6, Try.ntmps6
    go_wp2_with (go_at_call 8; refine (known_any _).mono ?_; rintro e wk ⟨rfl, hbk⟩)
    go_ret
    exact ⟨rfl, (frames_below w _ _).trans (hbk.mono (by simp; omega))⟩
  · have hd : decide ((600 : Int) < (n : Int)) = false := by simp; omega
    obtain ⟨g1, hg1, hx1⟩ := max_let s1 m1
    obtain ⟨g2, hg2, hx2⟩ := max_let s2 m2
    obtain ⟨g3, hg3, hx3⟩ := max_let s3 m3
    obtain ⟨g4, hg4, hx4⟩ := max_let s4 m4
    obtain ⟨g5, hg5, hx5⟩ := max_let s5 m5
    obtain ⟨⟨D, F, er, at_⟩, hD⟩ : ∃ r, checkM ⟨s1, s2, s3, s4, s5⟩ l = r := ⟨_, rfl⟩
    obtain ⟨⟨D2, F2, er2, at2⟩, hD2⟩ : ∃ r, checkM ⟨g1, g2, g3, g4, g5⟩ l = r := ⟨_, rfl⟩
    obtain ⟨fe, hfe⟩ : ∃ z, frmE ⟨g1, g2, g3, g4, g5⟩ = z := ⟨_, rfl⟩
    have HC := hide (show (fe = 1 ∧ er2 = 1) ∨ (fe = 0 ∧ (er = 0 → er2 = 0 ∧ D2 = D ∧ F2 = F)) by
      by_cases hg : okF ⟨g1, g2, g3, g4, g5⟩
      · right
        refine ⟨by rw [← hfe, frm_zero hg], fun h0 => ?_⟩
        have h1 := wider_check (f := ⟨s1, s2, s3, s4, s5⟩) (g := ⟨g1, g2, g3, g4, g5⟩) (l := l) ⟨by simp only; omega, by simp only; omega, by simp only; omega, by simp only; omega, by simp only; omega⟩ hg (by rw [hD]; exact h0)
        rw [hD, hD2] at h1
        exact h1
      · left
        have h1 := check_frame (l := l) hg
        rw [hD2] at h1
        injection h1 with _ h1
        injection h1 with _ h1
        injection h1 with h1 _
        exact ⟨by rw [← hfe, frm_one hg], h1⟩)
    have HD := hide hD
    have HD2 := hide hD2
    have HFE := hide hfe
    clear hD hD2 hfe hg1 hg2 hg3 hg4 hg5 hbig
    go_enter Try.func6, Try.ntmps6
    go_wp2_with fail
    have bF := (Blk.new w 24 [.int .i64 s1, .int .i64 s2, .int .i64 s3, .int .i64 s4, .int .i64 s5]).alloc (.cells #[.int .i64 m1, .int .i64 m2, .int .i64 m3, .int .i64 m4, .int .i64 m5] 24)
    have bM := Blk.at (w.alloc (.cells #[.int .i64 s1, .int .i64 s2, .int .i64 s3, .int .i64 s4, .int .i64 s5] 24)) 24 [.int .i64 m1, .int .i64 m2, .int .i64 m3, .int .i64 m4, .int .i64 m5] (g := w.heap.size + 1) (by simp)
    have hb1 := frames_below w (.cells #[.int .i64 s1, .int .i64 s2, .int .i64 s3, .int .i64 s4, .int .i64 s5] 24) (.cells #[.int .i64 m1, .int .i64 m2, .int .i64 m3, .int .i64 m4, .int .i64 m5] 24)
    generalize (w.alloc (.cells #[.int .i64 s1, .int .i64 s2, .int .i64 s3, .int .i64 s4, .int .i64 s5] 24)).alloc (.cells #[.int .i64 m1, .int .i64 m2, .int .i64 m3, .int .i64 m4, .int .i64 m5] 24) = w1 at bF bM hb1 ⊢
    have hs1 := hb1.size
    refine (Check_any ⟨s1, s2, s3, s4, s5⟩ w.heap.size A n c l w1 (hr.keep hb1 (Nat.le_refl _)) hs1).mono ?_
    intro e w2 hk
    obtain ⟨rfl, hb2⟩ := checked_is hk HD.out
    have hs2 := hb2.size
    have bF2 := bF.keep hb2 bF.lt
    have bM2 := bM.keep hb2 bM.lt
    have hb02 := hb1.trans (hb2.mono hs1)
    have cf0 := bF2.cell (j := 0) rfl
    have cf1 := bF2.cell (j := 1) rfl
    have cf2 := bF2.cell (j := 2) rfl
    have cf3 := bF2.cell (j := 3) rfl
    have cf4 := bF2.cell (j := 4) rfl
    have cm0 := bM2.cell (j := 0) rfl
    have cm1 := bM2.cell (j := 1) rfl
    have cm2 := bM2.cell (j := 2) rfl
    have cm3 := bM2.cell (j := 3) rfl
    have cm4 := bM2.cell (j := 4) rfl
    have lF := bF2.lt
    have lM := bM2.lt
    clear hk hb2 bF bM hb1
    go_wp2_with fail
    have bX := (Blk.new w2 28 [.int .i64 D, .int .i64 F]).alloc (.cells #[.int .i64 g1, .int .i64 g2, .int .i64 g3, .int .i64 g4, .int .i64 g5] 24)
    have bG := Blk.at (w2.alloc (.cells #[.int .i64 D, .int .i64 F] 28)) 24 [.int .i64 g1, .int .i64 g2, .int .i64 g3, .int .i64 g4, .int .i64 g5] (g := w2.heap.size + 1) (by simp)
    have hb3 := frames_below w2 (.cells #[.int .i64 D, .int .i64 F] 28) (.cells #[.int .i64 g1, .int .i64 g2, .int .i64 g3, .int .i64 g4, .int .i64 g5] 24)
    generalize (w2.alloc (.cells #[.int .i64 D, .int .i64 F] 28)).alloc (.cells #[.int .i64 g1, .int .i64 g2, .int .i64 g3, .int .i64 g4, .int .i64 g5] 24) = w3 at bX bG hb3 ⊢
    have hb03 := hb02.trans (hb3.mono hb02.size)
    clear cf0 cf1 cf2 cf3 cf4 cm0 cm1 cm2 cm3 cm4 lF lM bF2 bM2 hx1 hx2 hx3 hx4 hx5
    refine (Check_any ⟨g1, g2, g3, g4, g5⟩ w.heap.size A n c l w3 (hr.keep hb03 (Nat.le_refl _)) hb03.size).mono ?_
    intro e w4 hk
    obtain ⟨rfl, hb4⟩ := checked_is hk HD2.out
    have bX4 := bX.keep hb4 bX.lt
    have bG4 := bG.keep hb4 bG.lt
    have hb04 := hb03.trans (hb4.mono hb03.size)
    have cg0 := bG4.cell (j := 0) rfl
    have cg1 := bG4.cell (j := 1) rfl
    have cg2 := bG4.cell (j := 2) rfl
    have cg3 := bG4.cell (j := 3) rfl
    have cg4 := bG4.cell (j := 4) rfl
    have lX := bX4.lt
    have lG := bG4.lt
    clear hk hb4 bX bG hb3 hb03 hb02 hr
    go_wp2_with fail
    have bX5 := bX4.alloc (.cells #[.int .i64 D2, .int .i64 F2] 28)
    have bY5 := Blk.new w4 28 [.int .i64 D2, .int .i64 F2]
    have hb05 := hb04.alloc hb04.size (.cells #[.int .i64 D2, .int .i64 F2] 28)
    generalize hq : w4.heap.size = q4 at bY5 ⊢
    generalize w4.alloc (.cells #[.int .i64 D2, .int .i64 F2] 28) = w5 at bX5 bY5 hb05 ⊢
    refine (Frame_any ⟨g1, g2, g3, g4, g5⟩ w5).mono ?_
    rw [HFE.out]
    rintro e w6 ⟨rfl, hb6⟩
    have bX6 := bX5.keep hb6 bX5.lt
    have bY6 := bY5.keep hb6 bY5.lt
    have HB := hide (hb05.trans (hb6.mono hb05.size))
    have cx0 := bX6.cell (j := 0) rfl
    have cx1 := bX6.cell (j := 1) rfl
    have cy0 := bY6.cell (j := 0) rfl
    have cy1 := bY6.cell (j := 1) rfl
    clear cg0 cg1 cg2 cg3 cg4 bX4 bG4 bX5 bY5 hb6 hb05 hb04 hq bX6 bY6
    rcases HC.out with ⟨rfl, rfl⟩ | ⟨rfl, h0⟩
    · go_wp2_with (go_at_call 8; refine (known_any _).mono ?_; rintro e wk ⟨rfl, hbk⟩)
      go_ret
      exact ⟨rfl, HB.out.trans (hbk.mono HB.out.size)⟩
    · by_cases h1 : er = 0
      · obtain ⟨rfl, rfl, rfl⟩ := h0 h1
        subst h1
        clear h0
        go_wp2_with (go_at_call 8; refine (known_any _).mono ?_; rintro e wk ⟨rfl, hbk⟩)
        go_ret
        exact ⟨rfl, HB.out.trans (hbk.mono HB.out.size)⟩
      · have h1' : (er != 0) = true := by simpa using h1
        clear h0 h1
        go_wp2_with (go_at_call 8; refine (known_any _).mono ?_; rintro e wk ⟨rfl, hbk⟩)
        go_ret
        exact ⟨rfl, HB.out.trans (hbk.mono HB.out.size)⟩
end Go.Proofs.Ytllmhgikaijnhaa
