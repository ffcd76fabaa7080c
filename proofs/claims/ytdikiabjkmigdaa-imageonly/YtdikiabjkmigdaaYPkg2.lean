/-
  Contract of image.Check: the first fault that applies.
-/
import Derived.Test.YtdikiabjkmigdaaYPkg
namespace Go.Proofs.Ytdikiabjkmigdaa
open Go.RowKit
set_option maxRecDepth 20000
set_option maxHeartbeats 2000000

theorem cells13 {w : World} {g : Nat} {t : TypeId} {c0 c1 c2 c3 c4 c5 c6 c7 c8 c9 c10 c11 c12 : Value} (b : Blk w g t [c0, c1, c2, c3, c4, c5, c6, c7, c8, c9, c10, c11, c12]) :
    w.cell? ⟨g, 0, none⟩ = some c0 ∧ w.cell? ⟨g, 1, none⟩ = some c1 ∧ w.cell? ⟨g, 2, none⟩ = some c2 ∧ w.cell? ⟨g, 3, none⟩ = some c3 ∧ w.cell? ⟨g, 4, none⟩ = some c4 ∧ w.cell? ⟨g, 5, none⟩ = some c5 ∧ w.cell? ⟨g, 6, none⟩ = some c6 ∧ w.cell? ⟨g, 7, none⟩ = some c7 ∧ w.cell? ⟨g, 8, none⟩ = some c8 ∧ w.cell? ⟨g, 9, none⟩ = some c9 ∧ w.cell? ⟨g, 10, none⟩ = some c10 ∧ w.cell? ⟨g, 11, none⟩ = some c11 ∧ w.cell? ⟨g, 12, none⟩ = some c12 :=
  ⟨b.cell (j := 0) rfl, b.cell (j := 1) rfl, b.cell (j := 2) rfl, b.cell (j := 3) rfl, b.cell (j := 4) rfl, b.cell (j := 5) rfl, b.cell (j := 6) rfl, b.cell (j := 7) rfl, b.cell (j := 8) rfl, b.cell (j := 9) rfl, b.cell (j := 10) rfl, b.cell (j := 11) rfl, b.cell (j := 12) rfl⟩
theorem Check11_any (K : IV) (z : Int) (w : World) (hK : Held w w.heap.size K) (H : Hid (chkM K.m = z)) :
    Calls Try.prog 10 #[.agg #[.int .u32 K.v, .int .u32 K.f, .int .i64 K.e, .int .i64 K.s, .int .i64 K.o, .int .i64 K.n, .int .i64 K.i, .int .i64 K.u, .slice K.fA K.fn K.fc, .slice K.sA K.sn K.sc, .slice K.mA K.mn K.mc, .int .i64 K.x, .int .i64 K.y]] w (Tells w z) := by
  have hst := hK.st
  have hmv := hK.mv
  obtain ⟨er, hE⟩ : ∃ r, runE K.m.fr K.m.st K.m.sf = r := ⟨_, rfl⟩
  obtain ⟨er2, hE2⟩ : ∃ r, runE (mvF K.m) K.m.mv K.m.mf = r := ⟨_, rfl⟩
  have cs : (agrB K.m = false ∧ z = 1) ∨ (agrB K.m = true ∧ (er == 0) = false ∧ z = er) ∨ (agrB K.m = true ∧ er = 0 ∧ z = er2) := by
    have h := H.out
    unfold chkM at h
    rw [hE, hE2] at h
    by_cases h1 : agr K.m
    · rw [if_neg (fun hn => hn h1)] at h
      by_cases h2 : er = 0
      · rw [if_neg (fun hn => hn h2)] at h; exact .inr (.inr ⟨decide_eq_true h1, h2, h.symm⟩)
      · rw [if_pos h2] at h; exact .inr (.inl ⟨decide_eq_true h1, beq_eq_false_iff_ne.2 h2, h.symm⟩)
    · rw [if_pos h1] at h; exact .inl ⟨decide_eq_false h1, h.symm⟩
  have HE := hide hE
  have HE2 := hide hE2
  clear hE hE2 H
  rcases cs with ⟨h1, rfl⟩ | ⟨h1, h2, rfl⟩ | ⟨h1, rfl, rfl⟩
  all_goals
    have HA := hide h1
    clear h1
    try have g2 := bne_of h2
    go_enter Try.func10, Try.ntmps10
    go_wp2_with fail
    refine (agrees_b K _ _ ((hK.keep (below_box w _) (Nat.le_refl _)).more (below_box w _).size) HA).mono ?_
    rintro e w2 ⟨rfl, hb⟩
    have hb1 := box_then hb
    have bC := (Blk.new w 28 [.int .u32 K.v, .int .u32 K.f, .int .i64 K.e, .int .i64 K.s, .int .i64 K.o, .int .i64 K.n, .int .i64 K.i, .int .i64 K.u, .slice K.fA K.fn K.fc, .slice K.sA K.sn K.sc, .slice K.mA K.mn K.mc, .int .i64 K.x, .int .i64 K.y]).keep hb (by simp)
    obtain ⟨k0, k1, k2, k3, k4, k5, k6, k7, k8, k9, k10, k11, k12⟩ := cells13 bC
    go_wp2_with fail
    clear k0 k1 k2 k3 k4 k5 k6 k7 k8 k9 k10 k11 k12
  · go_ret
    exact ⟨rfl, hb1⟩
  all_goals
    refine (runsWithin_any K.m.fr _ K.sA K.sn K.sc K.st K.x _ ((hst.keep hb1 (Nat.le_refl _)).more hb1.size) HE).mono ?_
    rintro e w3 ⟨rfl, hb2⟩
    have hb3 := hb1.trans (hb2.mono hb1.size)
    have bD := bC.keep hb2 bC.lt
    clear bC
    obtain ⟨k0, k1, k2, k3, k4, k5, k6, k7, k8, k9, k10, k11, k12⟩ := cells13 bD
    go_wp2_with fail
  · go_ret
    exact ⟨rfl, hb3⟩
  · clear k0 k1 k2 k3 k4 k5 k6 k7 k8 k9 k10 k11 k12
    have bE := bD.drew
    have hm3 := ((hmv.keep hb3 (Nat.le_refl _)).more hb3.size).keep (below_drewN w3.heap.size w3 1) (Nat.le_refl _)
    replace hm3 : RowI w3.drew w3.drew.heap.size K.mA K.mn K.mc K.mv := hm3
    have hb4 := hb3.drew
    replace hb4 : Below w.heap.size w w3.drew := hb4
    clear hb hb1 hb2 hb3 hst hmv bD HE HA
    go_region_held3 (fun W : World => W.cell? ⟨w.heap.size, 0, none⟩ = some (.int .u32 K.v) ∧ W.cell? ⟨w.heap.size, 1, none⟩ = some (.int .u32 K.f) ∧ W.cell? ⟨w.heap.size, 2, none⟩ = some (.int .i64 K.e) ∧ W.cell? ⟨w.heap.size, 3, none⟩ = some (.int .i64 K.s) ∧ W.cell? ⟨w.heap.size, 4, none⟩ = some (.int .i64 K.o) ∧ W.cell? ⟨w.heap.size, 5, none⟩ = some (.int .i64 K.n) ∧ W.cell? ⟨w.heap.size, 6, none⟩ = some (.int .i64 K.i) ∧ W.cell? ⟨w.heap.size, 7, none⟩ = some (.int .i64 K.u) ∧ W.cell? ⟨w.heap.size, 8, none⟩ = some (.slice K.fA K.fn K.fc) ∧ W.cell? ⟨w.heap.size, 9, none⟩ = some (.slice K.sA K.sn K.sc) ∧ W.cell? ⟨w.heap.size, 10, none⟩ = some (.slice K.mA K.mn K.mc) ∧ W.cell? ⟨w.heap.size, 11, none⟩ = some (.int .i64 K.x) ∧ W.cell? ⟨w.heap.size, 12, none⟩ = some (.int .i64 K.y)) (first | exact cells13 bE | exact cells13 bF | exact cells13 bG) (first
      | (go_at_call 22; refine (moveFrame_any K _).mono ?_; rintro e w4 ⟨rfl, hb5⟩; have bF := bE.keep hb5 bE.lt; have hm4 := (hm3.keep hb5 (Nat.le_refl _)).more hb5.size; have hb6 := hb4.trans (hb5.mono hb4.size))
      | (go_at_call 21; refine (runsWithin_any ⟨0, K.e, K.n, 0, 0⟩ z K.mA K.mn K.mc K.mv K.y _ hm4 HE2).mono ?_; rintro e w5 ⟨rfl, hb7⟩; have bG := bF.keep hb7 bF.lt; have hb8 := hb6.trans (hb7.mono hb6.size)))
    go_wp2
    go_ret
    exact ⟨rfl, hb8⟩

end Go.Proofs.Ytdikiabjkmigdaa
