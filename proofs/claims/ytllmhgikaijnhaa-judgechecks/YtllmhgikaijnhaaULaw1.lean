/-
  The walks of the laws JudgeChecks and JudgeWider.
-/
import Derived.Test.YtllmhgikaijnhaaULent
import Derived.Test.YtllmhgikaijnhaaUMath2
namespace Go.Proofs.Ytllmhgikaijnhaa
open Go.RowKit
set_option maxHeartbeats 4000000

theorem big_known {n k : Nat} (h : k < n) : decide ((k : Int) < (n : Int)) = true := by simp; omega
structure CK (w0 : World) (s1 s2 s3 s4 s5 D F : Int) (qx qy : Nat) (A A' : Option Addr) (n c c' : Nat) (l : List (Int × Int)) (w' : World) : Prop where
  bF : Blk w' w0.heap.size 24 [.int .i64 s1, .int .i64 s2, .int .i64 s3, .int .i64 s4, .int .i64 s5]
  bX : Blk w' qx 28 [.int .i64 D, .int .i64 F]
  bY : Blk w' qy 32 [.int .i64 D, .int .i64 F]
  r1 : RowI w' w'.heap.size A n c l
  r2 : RowI w' w0.heap.size A' n c' l
  bl : Below w0.heap.size w0 w'
section
variable {w0 w w' : World} {s1 s2 s3 s4 s5 D F : Int} {qx qy : Nat} {A A' : Option Addr} {n c c' : Nat} {l : List (Int × Int)}
theorem CK.keep (t : CK w0 s1 s2 s3 s4 s5 D F qx qy A A' n c c' l w) (hb : Below w.heap.size w w') : CK w0 s1 s2 s3 s4 s5 D F qx qy A A' n c c' l w' :=
  ⟨t.bF.keep hb t.bF.lt, t.bX.keep hb t.bX.lt, t.bY.keep hb t.bY.lt, (t.r1.keep hb (Nat.le_refl _)).more hb.size, t.r2.keep hb t.bl.size, t.bl.trans (hb.mono t.bl.size)⟩
theorem CK.cells (t : CK w0 s1 s2 s3 s4 s5 D F qx qy A A' n c c' l w') : w'.cell? ⟨w0.heap.size, 0, none⟩ = some (.int .i64 s1) ∧ w'.cell? ⟨w0.heap.size, 1, none⟩ = some (.int .i64 s2) ∧ w'.cell? ⟨w0.heap.size, 2, none⟩ = some (.int .i64 s3) ∧ w'.cell? ⟨w0.heap.size, 3, none⟩ = some (.int .i64 s4) ∧ w'.cell? ⟨w0.heap.size, 4, none⟩ = some (.int .i64 s5) ∧ w'.cell? ⟨qx, 0, none⟩ = some (.int .i64 D) ∧ w'.cell? ⟨qx, 1, none⟩ = some (.int .i64 F) ∧ w'.cell? ⟨qy, 0, none⟩ = some (.int .i64 D) ∧ w'.cell? ⟨qy, 1, none⟩ = some (.int .i64 F) :=
  ⟨t.bF.cell (j := 0) rfl, t.bF.cell (j := 1) rfl, t.bF.cell (j := 2) rfl, t.bF.cell (j := 3) rfl, t.bF.cell (j := 4) rfl, t.bX.cell (j := 0) rfl, t.bX.cell (j := 1) rfl, t.bY.cell (j := 0) rfl, t.bY.cell (j := 1) rfl⟩
end
theorem checks_walk (A : Option Addr) (n c : Nat) (l : List (Int × Int)) (f : Fr) (w : World) (hr : RowI w w.heap.size A n c l) (_h : True) :
    Calls Try.prog 3 #[.slice A n c, .agg #[.int .i64 f.s, .int .i64 f.o, .int .i64 f.n, .int .i64 f.i, .int .i64 f.u]] w fun e w' => e = .returned (.bool true) ∧ Below w.heap.size w w' := by
  obtain ⟨s1, s2, s3, s4, s5⟩ := f
  simp only
  by_cases hbig : 2000 < n
  · have hd : decide ((2000 : Int) < (n : Int)) = true := by simp; omega
    go_enter Try.func3, Try.ntmps3
    go_wp2_with (go_at_call 8; refine (known_any _).mono ?_; rintro e wk ⟨rfl, hbk⟩)
    go_ret
    exact ⟨rfl, (below_box w _).trans (hbk.mono (by simp))⟩
  · have hd : decide ((2000 : Int) < (n : Int)) = false := by simp; omega
    obtain ⟨⟨D, F, er, at_⟩, hD⟩ : ∃ r, checkM ⟨s1, s2, s3, s4, s5⟩ l = r := ⟨_, rfl⟩
    have HD := hide hD
    have hn2 : n ≤ 2000 := by omega
    clear hD hbig
    go_enter Try.func3, Try.ntmps3
    go_wp2_with fail
    have bF := Blk.new w 24 [.int .i64 s1, .int .i64 s2, .int .i64 s3, .int .i64 s4, .int .i64 s5]
    have hb1 := below_box w (.cells #[.int .i64 s1, .int .i64 s2, .int .i64 s3, .int .i64 s4, .int .i64 s5] 24)
    generalize w.alloc (.cells #[.int .i64 s1, .int .i64 s2, .int .i64 s3, .int .i64 s4, .int .i64 s5] 24) = w1 at bF hb1 ⊢
    have hs1 := hb1.size
    refine (rLent_any w.heap.size A n c l w1 (hr.keep hb1 (Nat.le_refl _)) (by omega)).mono ?_
    rintro e w2 ⟨A1, c1, rfl, ho1, hb2⟩
    have bF2 := bF.keep hb2 bF.lt
    have hb02 := hb1.trans (hb2.mono hs1)
    have hs2 := hb02.size
    have k2 := RowI.of_own ho1 hr.oks
    have cf0 := bF2.cell (j := 0) rfl
    have cf1 := bF2.cell (j := 1) rfl
    have cf2 := bF2.cell (j := 2) rfl
    have cf3 := bF2.cell (j := 3) rfl
    have cf4 := bF2.cell (j := 4) rfl
    clear bF hb1 hb2 ho1
    go_wp2_with fail
    refine (Check_any ⟨s1, s2, s3, s4, s5⟩ w2.heap.size _ _ _ l w2 k2 (Nat.le_refl _)).mono ?_
    intro e w3 hk
    obtain ⟨rfl, hb3⟩ := checked_is hk HD.out
    have hs3 := hb3.size
    have bF3 := (bF2.keep hb3 bF2.lt).alloc (.cells #[.int .i64 D, .int .i64 F] 28)
    have bX := Blk.new w3 28 [.int .i64 D, .int .i64 F]
    have hb23 := hb3.alloc hs3 (.cells #[.int .i64 D, .int .i64 F] 28)
    clear hk cf0 cf1 cf2 cf3 cf4
    have cf0 := (bF2.keep hb3 bF2.lt).cell (j := 0) rfl
    have cf1 := (bF2.keep hb3 bF2.lt).cell (j := 1) rfl
    have cf2 := (bF2.keep hb3 bF2.lt).cell (j := 2) rfl
    have cf3 := (bF2.keep hb3 bF2.lt).cell (j := 3) rfl
    have cf4 := (bF2.keep hb3 bF2.lt).cell (j := 4) rfl
    have lF := (bF2.keep hb3 bF2.lt).lt
    clear hb3 bF2
    go_wp2_with fail
    generalize hqx : w3.heap.size = qx at bX ⊢
    generalize w3.alloc (.cells #[.int .i64 D, .int .i64 F] 28) = w4 at bF3 bX hb23 ⊢
    have hb04 := hb02.trans (hb23.mono hs2)
    have hs4 := hb04.size
    have k4 := (k2.keep hb23 (Nat.le_refl _)).more hb23.size
    refine (rCheck_any ⟨s1, s2, s3, s4, s5⟩ w.heap.size _ _ _ l w4 (hr.keep hb04 (Nat.le_refl _)) hs4).mono ?_
    intro e w5 hk
    obtain ⟨rfl, hb5⟩ := checked_is hk HD.out
    have bY := Blk.new w5 32 [.int .i64 D, .int .i64 F]
    have hb6 := below_box w5 (.cells #[.int .i64 D, .int .i64 F] 32)
    have hb46 := hb5.trans (hb6.mono hb5.size)
    have K0 : CK w s1 s2 s3 s4 s5 D F qx w5.heap.size A1 A n c1 c l (w5.alloc (.cells #[.int .i64 D, .int .i64 F] 32)) :=
      ⟨bF3.keep hb46 bF3.lt, bX.keep hb46 bX.lt, bY, (k4.keep hb46 (Nat.le_refl _)).more hb46.size, hr.keep (hb04.trans (hb46.mono hs4)) (Nat.le_refl _), hb04.trans (hb46.mono hs4)⟩
    clear hk hb5 hb6 hb46 bY bX bF3 k2 k4 hb02 hb04 hb23 cf0 cf1 cf2 cf3 cf4 lF hr hqx
    go_wp2_with fail
    generalize w5.heap.size = qy at K0 ⊢
    generalize w5.alloc (.cells #[.int .i64 D, .int .i64 F] 32) = w6 at K0 ⊢
    have K1 := K0.keep (below_drewN w6.heap.size w6 1)
    replace K1 : CK w s1 s2 s3 s4 s5 D F qx qy A1 A n c1 c l w6.drew := K1
    go_region_held3 (fun W : World => W.cell? ⟨w.heap.size, 0, none⟩ = some (.int .i64 s1) ∧ W.cell? ⟨w.heap.size, 1, none⟩ = some (.int .i64 s2) ∧ W.cell? ⟨w.heap.size, 2, none⟩ = some (.int .i64 s3) ∧ W.cell? ⟨w.heap.size, 3, none⟩ = some (.int .i64 s4) ∧ W.cell? ⟨w.heap.size, 4, none⟩ = some (.int .i64 s5) ∧ W.cell? ⟨qx, 0, none⟩ = some (.int .i64 D) ∧ W.cell? ⟨qx, 1, none⟩ = some (.int .i64 F) ∧ W.cell? ⟨qy, 0, none⟩ = some (.int .i64 D) ∧ W.cell? ⟨qy, 1, none⟩ = some (.int .i64 F)) (first | exact K1.cells | exact K2.cells | exact K3.cells | exact K4.cells | exact K5.cells) (first
      | (go_at_call 12; refine (Frame_any ⟨s1, s2, s3, s4, s5⟩ _).mono ?_; rintro e w7 ⟨rfl, hb7⟩; have K2 := K1.keep hb7)
      | (go_at_call 13; refine (rFrame_any ⟨s1, s2, s3, s4, s5⟩ _).mono ?_; rintro e w8 ⟨rfl, hb8⟩; have K3 := K2.keep hb8)
      | (go_at_call 14; refine (rSame_any _ _ _ _ _ _ _ _ l _ K3.r1 K3.r2).mono ?_; rintro e w9 ⟨kk, rfl, rfl⟩; have K4 := K3.keep (below_drewN _ w8 kk))
      | (go_at_call 8; refine (known_any _).mono ?_; rintro e w10 ⟨rfl, hb10⟩; have K5 := K4.keep hb10))
    go_wp2
    go_ret
    exact ⟨rfl, K5.bl⟩
end Go.Proofs.Ytllmhgikaijnhaa
