/-
  Contract of midstreamref11.Check.
-/
import Derived.Test.YtdikiabjkmigdaaGreatDoorYg2
import Derived.Test.YtdikiabjkmigdaaGreatDoorURef2
namespace Go.Proofs.YtdikiabjkmigdaaGreatDoor
open Go.RowKit
set_option maxRecDepth 20000
set_option maxHeartbeats 4000000

theorem rMove_any (K : IV) (w : World) :
    Calls Tryz.prog 55 #[.agg #[.int .u32 K.v, .int .u32 K.f, .int .i64 K.e, .int .i64 K.s, .int .i64 K.o, .int .i64 K.n, .int .i64 K.i, .int .i64 K.u, .slice K.fA K.fn K.fc, .slice K.sA K.sn K.sc, .slice K.mA K.mn K.mc, .int .i64 K.x, .int .i64 K.y]] w fun e w' => e = .returned (.agg #[.int .i64 0, .int .i64 K.e, .int .i64 K.n, .int .i64 0, .int .i64 0]) ∧ Below w.heap.size w w' := by
  obtain ⟨v, f, e, s, o, n, i, u, x, y, fs, st, mv, fA, fn, fc, sA, sn, sc, mA, mn, mc⟩ := K
  simp only
  go_enter Tryz.func55, Tryz.ntmps55
  go_wp2_with fail
  refine ret_frame (g := w.heap.size + 1) rfl rfl (Blk.at _ _ _ (by simp)) rfl ⟨rfl, two_below w _ _⟩
theorem ragr_ways (v f e o n : Int) (k q : Nat) (_hf : 0 ≤ f) (h : ¬ (f < v ∧ 0 ≤ e ∧ e ≤ 16 ∧ o = n ∧ (k : Int) = n ∧ (f ≠ 0 ∨ (e = 0 ∧ q = 0)))) :
    v = 0 ∨ ((v == 0) = false ∧ v ≤ f) ∨ ((v == 0) = false ∧ f < v ∧ e < 0) ∨ ((v == 0) = false ∧ f < v ∧ 0 ≤ e ∧ 16 < e) ∨ ((v == 0) = false ∧ f < v ∧ 0 ≤ e ∧ e ≤ 16 ∧ (o == n) = false) ∨
    ((v == 0) = false ∧ f < v ∧ 0 ≤ e ∧ e ≤ 16 ∧ o = n ∧ ((k : Int) == n) = false) ∨
    ((v == 0) = false ∧ f < v ∧ 0 ≤ e ∧ e ≤ 16 ∧ o = n ∧ n = (k : Int) ∧ f = 0 ∧ (e == 0) = false) ∨
    ((v == 0) = false ∧ f < v ∧ 0 ≤ e ∧ e ≤ 16 ∧ o = n ∧ n = (k : Int) ∧ f = 0 ∧ e = 0 ∧ (q == 0) = false) := by
  by_cases h0 : v = 0
  · exact .inl h0
  · have g0 : (v == 0) = false := beq_eq_false_iff_ne.2 h0
    by_cases h1 : f < v
    · by_cases h2 : 0 ≤ e
      · by_cases h3 : e ≤ 16
        · by_cases h4 : o = n
          · by_cases h5 : n = (k : Int)
            · by_cases h6 : f = 0
              · by_cases h7 : e = 0
                · by_cases h8 : q = 0
                  · exact absurd ⟨h1, h2, h3, h4, h5.symm, .inr ⟨h7, h8⟩⟩ h
                  · exact .inr (.inr (.inr (.inr (.inr (.inr (.inr ⟨g0, h1, h2, h3, h4, h5, h6, h7, beq_eq_false_iff_ne.2 h8⟩))))))
                · exact .inr (.inr (.inr (.inr (.inr (.inr (.inl ⟨g0, h1, h2, h3, h4, h5, h6, beq_eq_false_iff_ne.2 h7⟩))))))
              · exact absurd ⟨h1, h2, h3, h4, h5.symm, .inl h6⟩ h
            · exact .inr (.inr (.inr (.inr (.inr (.inl ⟨g0, h1, h2, h3, h4, beq_eq_false_iff_ne.2 fun z => h5 z.symm⟩)))))
          · exact .inr (.inr (.inr (.inr (.inl ⟨g0, h1, h2, h3, beq_eq_false_iff_ne.2 h4⟩))))
        · exact .inr (.inr (.inr (.inl ⟨g0, h1, h2, by omega⟩)))
      · exact .inr (.inr (.inl ⟨g0, h1, by omega⟩))
    · exact .inr (.inl ⟨g0, by omega⟩)
theorem nat_bne {q : Nat} (h : (q == 0) = false) : ((q : Int) == 0) = false := by
  rw [beq_eq_false_iff_ne] at h ⊢; omega
/-- Its parts do not agree. -/
theorem rChk_bad (K : IV) (w : World) (hK : Held w w.heap.size K) (h : ¬ agr K.m) :
    Calls Tryz.prog 29 #[.agg #[.int .u32 K.v, .int .u32 K.f, .int .i64 K.e, .int .i64 K.s, .int .i64 K.o, .int .i64 K.n, .int .i64 K.i, .int .i64 K.u, .slice K.fA K.fn K.fc, .slice K.sA K.sn K.sc, .slice K.mA K.mn K.mc, .int .i64 K.x, .int .i64 K.y]] w (Tells w 1) := by
  have hl := row_len hK.fs
  have hm := hK.mv.count
  have hf := hK.wf.frm.1
  obtain ⟨v, f, e, s, o, n, i, u, x, y, fs, st, mv, fA, fn, fc, sA, sn, sc, mA, mn, mc⟩ := K
  simp only [IV.m] at hl hm h hf ⊢
  unfold agr at h
  simp only [hl, hm] at h
  have cs := ragr_ways v f e o n fn mn hf h
  clear hl hm hK h hf
  rcases cs with rfl | ⟨h0, h1⟩ | ⟨h0, h1, h2⟩ | ⟨h0, h1, h2, h3⟩ | ⟨h0, h1, h2, h3, h4⟩ | ⟨h0, h1, h2, h3, rfl, h5⟩ | ⟨h0, h1, h2, h3, rfl, rfl, rfl, h7⟩ | ⟨h0, h1, h2, h3, rfl, rfl, rfl, rfl, h8⟩
  all_goals
    try have g4 := bne_of h4
    try have g5 := bne_of h5
    try have g7 := bne_of h7
    try have n8 := nat_bne h8
    try have g8 := bne_of n8
    try have g9 := bne_of h8
    go_enter Tryz.func29, Tryz.ntmps29
    go_wp2
    all_goals
      go_ret
      exact ⟨rfl, below_box w _⟩

end Go.Proofs.YtdikiabjkmigdaaGreatDoor
namespace Go.Proofs.YtdikiabjkmigdaaGreatDoor
open Go.RowKit
set_option maxRecDepth 20000
set_option maxHeartbeats 4000000

theorem ragr_yes {K : IV} {w : World} (hK : Held w w.heap.size K) (h : agr K.m) : (K.v == 0) = false ∧ K.f < K.v ∧ 0 ≤ K.e ∧ K.e ≤ 16 ∧ K.o = K.n ∧ K.n = (K.fn : Int) ∧ ((K.f == 0) = false ∨ (K.f = 0 ∧ K.e = 0 ∧ K.mn = 0)) := by
  have hl := row_len hK.fs
  have hm := hK.mv.count
  have hf := hK.wf.frm.1
  unfold agr IV.m at h
  simp only [IV.m] at hf
  simp only [hl, hm] at h
  obtain ⟨a1, a2, a3, a4, a5, a6⟩ := h
  refine ⟨beq_eq_false_iff_ne.2 (by omega), a1, a2, a3, a4, a5.symm, ?_⟩
  by_cases h0 : K.f = 0
  · rcases a6 with h6 | h6
    · exact absurd h0 h6
    · exact .inr ⟨h0, h6.1, h6.2⟩
  · exact .inl (beq_eq_false_iff_ne.2 h0)
/-- Its parts agree: what the two codes tell. -/
theorem rChk_codes (v f e n i u x y s : Int) (fs : List Int) (st mv : List (Int × Int)) (fA sA mA : Option Addr) (fc sn sc mn mc : Nat) (fn : Nat) (z : Int) (w : World) (hst : RowI w w.heap.size sA sn sc st) (hmv : RowI w w.heap.size mA mn mc mv)
    (g0 : (v == 0) = false) (g1 : f < v) (g2 : 0 ≤ e) (g3 : e ≤ 16) (g6 : (f == 0) = false ∨ (f = 0 ∧ e = 0 ∧ mn = 0))
    (H : Hid ((if runE ⟨s, (fn : Int), (fn : Int), i, u⟩ st x ≠ 0 then runE ⟨s, (fn : Int), (fn : Int), i, u⟩ st x else runE ⟨0, e, (fn : Int), 0, 0⟩ mv y) = z)) (_hn : n = fn) (_hfs : fs.length = fn) :
    Calls Tryz.prog 29 #[.agg #[.int .u32 v, .int .u32 f, .int .i64 e, .int .i64 s, .int .i64 (fn : Int), .int .i64 (fn : Int), .int .i64 i, .int .i64 u, .slice fA fn fc, .slice sA sn sc, .slice mA mn mc, .int .i64 x, .int .i64 y]] w (Tells w z) := by
  obtain ⟨⟨D, F, er, at_⟩, hD⟩ : ∃ r, checkM ⟨s, (fn : Int), (fn : Int), i, u⟩ st = r := ⟨_, rfl⟩
  obtain ⟨⟨D2, F2, er2, at2⟩, hD2⟩ : ∃ r, checkM ⟨0, e, (fn : Int), 0, 0⟩ mv = r := ⟨_, rfl⟩
  have cs : ((er == 0) = false ∧ er = z) ∨ (er = 0 ∧ (x == F) = false ∧ 14 = z) ∨ (er = 0 ∧ F = x ∧ (er2 == 0) = false ∧ er2 = z) ∨ (er = 0 ∧ F = x ∧ er2 = 0 ∧ (y == F2) = false ∧ 14 = z) ∨ (er = 0 ∧ F = x ∧ er2 = 0 ∧ F2 = y ∧ 0 = z) := by
    have h := H.out
    unfold runE at h
    rw [hD, hD2] at h
    by_cases h1 : er = 0
    · by_cases h2 : F = x
      · by_cases h3 : er2 = 0
        · by_cases h4 : F2 = y
          · simp [h1, h2, h3, h4] at h
            exact .inr (.inr (.inr (.inr ⟨h1, h2, h3, h4, h⟩)))
          · simp [h1, h2, h3, h4] at h
            exact .inr (.inr (.inr (.inl ⟨h1, h2, h3, beq_eq_false_iff_ne.2 fun q => h4 q.symm, h⟩)))
        · simp [h1, h2, h3] at h
          exact .inr (.inr (.inl ⟨h1, h2, beq_eq_false_iff_ne.2 h3, h⟩))
      · simp [h1, h2] at h
        exact .inr (.inl ⟨h1, beq_eq_false_iff_ne.2 fun q => h2 q.symm, h⟩)
    · simp [h1] at h
      exact .inl ⟨beq_eq_false_iff_ne.2 h1, h⟩
  have HD := hide hD
  have HD2 := hide hD2
  clear hD hD2 H
  have HM := hide hmv
  clear hmv
  have hbx := below_box w (.cells #[.int .u32 v, .int .u32 f, .int .i64 e, .int .i64 s, .int .i64 (fn : Int), .int .i64 (fn : Int), .int .i64 i, .int .i64 u, .slice fA fn fc, .slice sA sn sc, .slice mA mn mc, .int .i64 x, .int .i64 y] 28)
  have bx := Blk.new w 28 [.int .u32 v, .int .u32 f, .int .i64 e, .int .i64 s, .int .i64 (fn : Int), .int .i64 (fn : Int), .int .i64 i, .int .i64 u, .slice fA fn fc, .slice sA sn sc, .slice mA mn mc, .int .i64 x, .int .i64 y]
  have HX := hide (And.intro hbx bx)
  clear hbx bx
  rcases g6 with g6 | ⟨rfl, rfl, rfl⟩
  · have g6b := bne_of g6
    go_enter Tryz.func29, Tryz.ntmps29
    go_wp2_with fail
    refine (rCheck_any ⟨s, (fn : Int), (fn : Int), i, u⟩ w.heap.size sA sn sc st _ (hst.keep HX.out.1 (Nat.le_refl _)) HX.out.1.size).mono ?_
    intro e' w2 hk
    unfold Checked at hk
    rw [HD.out] at hk
    obtain ⟨rfl, hb2⟩ := hk
    have hb1 := HX.out.1.trans (hb2.mono HX.out.1.size)
    have bC := HX.out.2.keep hb2 HX.out.2.lt
    have lC := bC.lt
    have HBC := hide (And.intro bC hb1)
    obtain ⟨k0, k1, k2, k3, k4, k5, k6, k7, k8, k9, k10, k11, k12⟩ := cells13 bC
    clear bC hb1 hb2 hst HX g0 g1 g2 g3
    rcases cs with ⟨h1, rfl⟩ | ⟨rfl, h2, rfl⟩ | ⟨rfl, rfl, h3, rfl⟩ | ⟨rfl, rfl, rfl, h4, rfl⟩ | ⟨rfl, rfl, rfl, rfl, rfl⟩
    · have p1 := bne_of h1
      go_wp2
      go_ret
      exact ⟨rfl, HBC.out.2.alloc HBC.out.2.size _⟩
    · have p2 := bne_of h2
      go_wp2
      go_ret
      exact ⟨rfl, HBC.out.2.alloc HBC.out.2.size _⟩
    · have p3 := bne_of h3
      go_wp2_with fail
      clear k0 k1 k2 k3 k4 k5 k6 k7 k8 k9 k10 k11 k12
      have hbr := below_box w2 (.cells #[.int .i64 D, .int .i64 F] 82)
      have bQ := HBC.out.1.keep hbr HBC.out.1.lt
      have bR := Blk.new w2 82 [.int .i64 D, .int .i64 F]
      have hb3 := HBC.out.2.trans (hbr.mono HBC.out.2.size)
      have hne : w.heap.size ≠ w2.heap.size := by omega
      have hle := HBC.out.2.size
      generalize w2.heap.size = r at bR hne hle ⊢
      generalize w2.alloc (.cells #[.int .i64 D, .int .i64 F] 82) = w3 at bQ bR hb3 ⊢
      have hm3 := ((HM.out.keep hb3 (Nat.le_refl _)).more hb3.size).keep (below_drewN w3.heap.size w3 1) (Nat.le_refl _)
      have bE := bQ.drew
      have bRE := bR.drew
      have hb4 := hb3.drew
      clear hb3 bQ bR hbr
      go_region_held3 (fun W : World => W.cell? ⟨w.heap.size, 0, none⟩ = some (.int .u32 v) ∧ W.cell? ⟨w.heap.size, 1, none⟩ = some (.int .u32 f) ∧ W.cell? ⟨w.heap.size, 2, none⟩ = some (.int .i64 e) ∧ W.cell? ⟨w.heap.size, 3, none⟩ = some (.int .i64 s) ∧ W.cell? ⟨w.heap.size, 4, none⟩ = some (.int .i64 (fn : Int)) ∧ W.cell? ⟨w.heap.size, 5, none⟩ = some (.int .i64 (fn : Int)) ∧ W.cell? ⟨w.heap.size, 6, none⟩ = some (.int .i64 i) ∧ W.cell? ⟨w.heap.size, 7, none⟩ = some (.int .i64 u) ∧ W.cell? ⟨w.heap.size, 8, none⟩ = some (.slice fA fn fc) ∧ W.cell? ⟨w.heap.size, 9, none⟩ = some (.slice sA sn sc) ∧ W.cell? ⟨w.heap.size, 10, none⟩ = some (.slice mA mn mc) ∧ W.cell? ⟨w.heap.size, 11, none⟩ = some (.int .i64 F) ∧ W.cell? ⟨w.heap.size, 12, none⟩ = some (.int .i64 y)) (first | exact cells13 bE | exact cells13 bF | exact cells13 bG | exact cells13 ((bG.other hne 0 _).other hne 1 _)) (first
        | (go_at_call 55; refine (rMove_any ⟨_, _, _, _, _, _, _, _, _, _, [], [], [], _, _, _, _, _, _, _, _, _⟩ _).mono ?_; rintro e' w4 ⟨rfl, hb5⟩; have bF := bE.keep hb5 bE.lt; have bRF := bRE.keep hb5 bRE.lt; have hm4 := (RowI.keep hm3 hb5 (Nat.le_refl _)).more hb5.size; have hb6 := hb4.trans (hb5.mono hb4.size))
        | (go_at_call 54; refine (rCheck_any ⟨0, _, _, 0, 0⟩ w4.heap.size _ _ _ mv w4 hm4 (Nat.le_refl _)).mono ?_; intro e' w5 hk; unfold Checked at hk; rw [HD2.out] at hk; obtain ⟨rfl, hb7⟩ := hk; have bG := bF.keep hb7 bF.lt; have bRG := bRF.keep hb7 bRF.lt; have hb8 := hb6.trans (hb7.mono hb6.size); have fr0 := bRG.frozen 0; have fr1 := bRG.frozen 1; have cr0 := bRG.cell (j := 0) rfl; have cr1 := bRG.cell (j := 1) rfl))
      have bH := (bG.other hne 0 (.int .i64 D2)).other hne 1 (.int .i64 F2)
      have bRH := (bRG.set 0 (.int .i64 D2)).set 1 (.int .i64 F2)
      obtain ⟨k0, k1, k2, k3, k4, k5, k6, k7, k8, k9, k10, k11, k12⟩ := cells13 bH
      have cr1' := bRH.cell (j := 1) rfl
      have hb9 := below_set (below_set hb8 hle (j := 0) (.int .i64 D2)) hle (j := 1) (.int .i64 F2)
      go_wp2
      go_ret
      exact ⟨rfl, hb9⟩
    · have p4 := bne_of h4
      go_wp2_with fail
      clear k0 k1 k2 k3 k4 k5 k6 k7 k8 k9 k10 k11 k12
      have hbr := below_box w2 (.cells #[.int .i64 D, .int .i64 F] 82)
      have bQ := HBC.out.1.keep hbr HBC.out.1.lt
      have bR := Blk.new w2 82 [.int .i64 D, .int .i64 F]
      have hb3 := HBC.out.2.trans (hbr.mono HBC.out.2.size)
      have hne : w.heap.size ≠ w2.heap.size := by omega
      have hle := HBC.out.2.size
      generalize w2.heap.size = r at bR hne hle ⊢
      generalize w2.alloc (.cells #[.int .i64 D, .int .i64 F] 82) = w3 at bQ bR hb3 ⊢
      have hm3 := ((HM.out.keep hb3 (Nat.le_refl _)).more hb3.size).keep (below_drewN w3.heap.size w3 1) (Nat.le_refl _)
      have bE := bQ.drew
      have bRE := bR.drew
      have hb4 := hb3.drew
      clear hb3 bQ bR hbr
      go_region_held3 (fun W : World => W.cell? ⟨w.heap.size, 0, none⟩ = some (.int .u32 v) ∧ W.cell? ⟨w.heap.size, 1, none⟩ = some (.int .u32 f) ∧ W.cell? ⟨w.heap.size, 2, none⟩ = some (.int .i64 e) ∧ W.cell? ⟨w.heap.size, 3, none⟩ = some (.int .i64 s) ∧ W.cell? ⟨w.heap.size, 4, none⟩ = some (.int .i64 (fn : Int)) ∧ W.cell? ⟨w.heap.size, 5, none⟩ = some (.int .i64 (fn : Int)) ∧ W.cell? ⟨w.heap.size, 6, none⟩ = some (.int .i64 i) ∧ W.cell? ⟨w.heap.size, 7, none⟩ = some (.int .i64 u) ∧ W.cell? ⟨w.heap.size, 8, none⟩ = some (.slice fA fn fc) ∧ W.cell? ⟨w.heap.size, 9, none⟩ = some (.slice sA sn sc) ∧ W.cell? ⟨w.heap.size, 10, none⟩ = some (.slice mA mn mc) ∧ W.cell? ⟨w.heap.size, 11, none⟩ = some (.int .i64 F) ∧ W.cell? ⟨w.heap.size, 12, none⟩ = some (.int .i64 y)) (first | exact cells13 bE | exact cells13 bF | exact cells13 bG | exact cells13 ((bG.other hne 0 _).other hne 1 _)) (first
        | (go_at_call 55; refine (rMove_any ⟨_, _, _, _, _, _, _, _, _, _, [], [], [], _, _, _, _, _, _, _, _, _⟩ _).mono ?_; rintro e' w4 ⟨rfl, hb5⟩; have bF := bE.keep hb5 bE.lt; have bRF := bRE.keep hb5 bRE.lt; have hm4 := (RowI.keep hm3 hb5 (Nat.le_refl _)).more hb5.size; have hb6 := hb4.trans (hb5.mono hb4.size))
        | (go_at_call 54; refine (rCheck_any ⟨0, _, _, 0, 0⟩ w4.heap.size _ _ _ mv w4 hm4 (Nat.le_refl _)).mono ?_; intro e' w5 hk; unfold Checked at hk; rw [HD2.out] at hk; obtain ⟨rfl, hb7⟩ := hk; have bG := bF.keep hb7 bF.lt; have bRG := bRF.keep hb7 bRF.lt; have hb8 := hb6.trans (hb7.mono hb6.size); have fr0 := bRG.frozen 0; have fr1 := bRG.frozen 1; have cr0 := bRG.cell (j := 0) rfl; have cr1 := bRG.cell (j := 1) rfl))
      have bH := (bG.other hne 0 (.int .i64 D2)).other hne 1 (.int .i64 F2)
      have bRH := (bRG.set 0 (.int .i64 D2)).set 1 (.int .i64 F2)
      obtain ⟨k0, k1, k2, k3, k4, k5, k6, k7, k8, k9, k10, k11, k12⟩ := cells13 bH
      have cr1' := bRH.cell (j := 1) rfl
      have hb9 := below_set (below_set hb8 hle (j := 0) (.int .i64 D2)) hle (j := 1) (.int .i64 F2)
      go_wp2
      go_ret
      exact ⟨rfl, hb9⟩
    · skip
      go_wp2_with fail
      clear k0 k1 k2 k3 k4 k5 k6 k7 k8 k9 k10 k11 k12
      have hbr := below_box w2 (.cells #[.int .i64 D, .int .i64 F] 82)
      have bQ := HBC.out.1.keep hbr HBC.out.1.lt
      have bR := Blk.new w2 82 [.int .i64 D, .int .i64 F]
      have hb3 := HBC.out.2.trans (hbr.mono HBC.out.2.size)
      have hne : w.heap.size ≠ w2.heap.size := by omega
      have hle := HBC.out.2.size
      generalize w2.heap.size = r at bR hne hle ⊢
      generalize w2.alloc (.cells #[.int .i64 D, .int .i64 F] 82) = w3 at bQ bR hb3 ⊢
      have hm3 := ((HM.out.keep hb3 (Nat.le_refl _)).more hb3.size).keep (below_drewN w3.heap.size w3 1) (Nat.le_refl _)
      have bE := bQ.drew
      have bRE := bR.drew
      have hb4 := hb3.drew
      clear hb3 bQ bR hbr
      go_region_held3 (fun W : World => W.cell? ⟨w.heap.size, 0, none⟩ = some (.int .u32 v) ∧ W.cell? ⟨w.heap.size, 1, none⟩ = some (.int .u32 f) ∧ W.cell? ⟨w.heap.size, 2, none⟩ = some (.int .i64 e) ∧ W.cell? ⟨w.heap.size, 3, none⟩ = some (.int .i64 s) ∧ W.cell? ⟨w.heap.size, 4, none⟩ = some (.int .i64 (fn : Int)) ∧ W.cell? ⟨w.heap.size, 5, none⟩ = some (.int .i64 (fn : Int)) ∧ W.cell? ⟨w.heap.size, 6, none⟩ = some (.int .i64 i) ∧ W.cell? ⟨w.heap.size, 7, none⟩ = some (.int .i64 u) ∧ W.cell? ⟨w.heap.size, 8, none⟩ = some (.slice fA fn fc) ∧ W.cell? ⟨w.heap.size, 9, none⟩ = some (.slice sA sn sc) ∧ W.cell? ⟨w.heap.size, 10, none⟩ = some (.slice mA mn mc) ∧ W.cell? ⟨w.heap.size, 11, none⟩ = some (.int .i64 F) ∧ W.cell? ⟨w.heap.size, 12, none⟩ = some (.int .i64 F2)) (first | exact cells13 bE | exact cells13 bF | exact cells13 bG | exact cells13 ((bG.other hne 0 _).other hne 1 _)) (first
        | (go_at_call 55; refine (rMove_any ⟨_, _, _, _, _, _, _, _, _, _, [], [], [], _, _, _, _, _, _, _, _, _⟩ _).mono ?_; rintro e' w4 ⟨rfl, hb5⟩; have bF := bE.keep hb5 bE.lt; have bRF := bRE.keep hb5 bRE.lt; have hm4 := (RowI.keep hm3 hb5 (Nat.le_refl _)).more hb5.size; have hb6 := hb4.trans (hb5.mono hb4.size))
        | (go_at_call 54; refine (rCheck_any ⟨0, _, _, 0, 0⟩ w4.heap.size _ _ _ mv w4 hm4 (Nat.le_refl _)).mono ?_; intro e' w5 hk; unfold Checked at hk; rw [HD2.out] at hk; obtain ⟨rfl, hb7⟩ := hk; have bG := bF.keep hb7 bF.lt; have bRG := bRF.keep hb7 bRF.lt; have hb8 := hb6.trans (hb7.mono hb6.size); have fr0 := bRG.frozen 0; have fr1 := bRG.frozen 1; have cr0 := bRG.cell (j := 0) rfl; have cr1 := bRG.cell (j := 1) rfl))
      have bH := (bG.other hne 0 (.int .i64 D2)).other hne 1 (.int .i64 F2)
      have bRH := (bRG.set 0 (.int .i64 D2)).set 1 (.int .i64 F2)
      obtain ⟨k0, k1, k2, k3, k4, k5, k6, k7, k8, k9, k10, k11, k12⟩ := cells13 bH
      have cr1' := bRH.cell (j := 1) rfl
      have hb9 := below_set (below_set hb8 hle (j := 0) (.int .i64 D2)) hle (j := 1) (.int .i64 F2)
      go_wp2
      go_ret
      exact ⟨rfl, hb9⟩
  · go_enter Tryz.func29, Tryz.ntmps29
    go_wp2_with fail
    refine (rCheck_any ⟨s, (fn : Int), (fn : Int), i, u⟩ w.heap.size sA sn sc st _ (hst.keep HX.out.1 (Nat.le_refl _)) HX.out.1.size).mono ?_
    intro e' w2 hk
    unfold Checked at hk
    rw [HD.out] at hk
    obtain ⟨rfl, hb2⟩ := hk
    have hb1 := HX.out.1.trans (hb2.mono HX.out.1.size)
    have bC := HX.out.2.keep hb2 HX.out.2.lt
    have lC := bC.lt
    have HBC := hide (And.intro bC hb1)
    obtain ⟨k0, k1, k2, k3, k4, k5, k6, k7, k8, k9, k10, k11, k12⟩ := cells13 bC
    clear bC hb1 hb2 hst HX g0 g1 g2 g3
    rcases cs with ⟨h1, rfl⟩ | ⟨rfl, h2, rfl⟩ | ⟨rfl, rfl, h3, rfl⟩ | ⟨rfl, rfl, rfl, h4, rfl⟩ | ⟨rfl, rfl, rfl, rfl, rfl⟩
    · have p1 := bne_of h1
      go_wp2
      go_ret
      exact ⟨rfl, HBC.out.2.alloc HBC.out.2.size _⟩
    · have p2 := bne_of h2
      go_wp2
      go_ret
      exact ⟨rfl, HBC.out.2.alloc HBC.out.2.size _⟩
    · have p3 := bne_of h3
      go_wp2_with fail
      clear k0 k1 k2 k3 k4 k5 k6 k7 k8 k9 k10 k11 k12
      have hbr := below_box w2 (.cells #[.int .i64 D, .int .i64 F] 82)
      have bQ := HBC.out.1.keep hbr HBC.out.1.lt
      have bR := Blk.new w2 82 [.int .i64 D, .int .i64 F]
      have hb3 := HBC.out.2.trans (hbr.mono HBC.out.2.size)
      have hne : w.heap.size ≠ w2.heap.size := by omega
      have hle := HBC.out.2.size
      generalize w2.heap.size = r at bR hne hle ⊢
      generalize w2.alloc (.cells #[.int .i64 D, .int .i64 F] 82) = w3 at bQ bR hb3 ⊢
      have hm3 := ((HM.out.keep hb3 (Nat.le_refl _)).more hb3.size).keep (below_drewN w3.heap.size w3 1) (Nat.le_refl _)
      have bE := bQ.drew
      have bRE := bR.drew
      have hb4 := hb3.drew
      clear hb3 bQ bR hbr
      go_region_held3 (fun W : World => W.cell? ⟨w.heap.size, 0, none⟩ = some (.int .u32 v) ∧ W.cell? ⟨w.heap.size, 1, none⟩ = some (.int .u32 0) ∧ W.cell? ⟨w.heap.size, 2, none⟩ = some (.int .i64 0) ∧ W.cell? ⟨w.heap.size, 3, none⟩ = some (.int .i64 s) ∧ W.cell? ⟨w.heap.size, 4, none⟩ = some (.int .i64 (fn : Int)) ∧ W.cell? ⟨w.heap.size, 5, none⟩ = some (.int .i64 (fn : Int)) ∧ W.cell? ⟨w.heap.size, 6, none⟩ = some (.int .i64 i) ∧ W.cell? ⟨w.heap.size, 7, none⟩ = some (.int .i64 u) ∧ W.cell? ⟨w.heap.size, 8, none⟩ = some (.slice fA fn fc) ∧ W.cell? ⟨w.heap.size, 9, none⟩ = some (.slice sA sn sc) ∧ W.cell? ⟨w.heap.size, 10, none⟩ = some (.slice mA 0 mc) ∧ W.cell? ⟨w.heap.size, 11, none⟩ = some (.int .i64 F) ∧ W.cell? ⟨w.heap.size, 12, none⟩ = some (.int .i64 y)) (first | exact cells13 bE | exact cells13 bF | exact cells13 bG | exact cells13 ((bG.other hne 0 _).other hne 1 _)) (first
        | (go_at_call 55; refine (rMove_any ⟨_, _, _, _, _, _, _, _, _, _, [], [], [], _, _, _, _, _, _, _, _, _⟩ _).mono ?_; rintro e' w4 ⟨rfl, hb5⟩; have bF := bE.keep hb5 bE.lt; have bRF := bRE.keep hb5 bRE.lt; have hm4 := (RowI.keep hm3 hb5 (Nat.le_refl _)).more hb5.size; have hb6 := hb4.trans (hb5.mono hb4.size))
        | (go_at_call 54; refine (rCheck_any ⟨0, _, _, 0, 0⟩ w4.heap.size _ _ _ mv w4 hm4 (Nat.le_refl _)).mono ?_; intro e' w5 hk; unfold Checked at hk; rw [HD2.out] at hk; obtain ⟨rfl, hb7⟩ := hk; have bG := bF.keep hb7 bF.lt; have bRG := bRF.keep hb7 bRF.lt; have hb8 := hb6.trans (hb7.mono hb6.size); have fr0 := bRG.frozen 0; have fr1 := bRG.frozen 1; have cr0 := bRG.cell (j := 0) rfl; have cr1 := bRG.cell (j := 1) rfl))
      have bH := (bG.other hne 0 (.int .i64 D2)).other hne 1 (.int .i64 F2)
      have bRH := (bRG.set 0 (.int .i64 D2)).set 1 (.int .i64 F2)
      obtain ⟨k0, k1, k2, k3, k4, k5, k6, k7, k8, k9, k10, k11, k12⟩ := cells13 bH
      have cr1' := bRH.cell (j := 1) rfl
      have hb9 := below_set (below_set hb8 hle (j := 0) (.int .i64 D2)) hle (j := 1) (.int .i64 F2)
      go_wp2
      go_ret
      exact ⟨rfl, hb9⟩
    · have p4 := bne_of h4
      go_wp2_with fail
      clear k0 k1 k2 k3 k4 k5 k6 k7 k8 k9 k10 k11 k12
      have hbr := below_box w2 (.cells #[.int .i64 D, .int .i64 F] 82)
      have bQ := HBC.out.1.keep hbr HBC.out.1.lt
      have bR := Blk.new w2 82 [.int .i64 D, .int .i64 F]
      have hb3 := HBC.out.2.trans (hbr.mono HBC.out.2.size)
      have hne : w.heap.size ≠ w2.heap.size := by omega
      have hle := HBC.out.2.size
      generalize w2.heap.size = r at bR hne hle ⊢
      generalize w2.alloc (.cells #[.int .i64 D, .int .i64 F] 82) = w3 at bQ bR hb3 ⊢
      have hm3 := ((HM.out.keep hb3 (Nat.le_refl _)).more hb3.size).keep (below_drewN w3.heap.size w3 1) (Nat.le_refl _)
      have bE := bQ.drew
      have bRE := bR.drew
      have hb4 := hb3.drew
      clear hb3 bQ bR hbr
      go_region_held3 (fun W : World => W.cell? ⟨w.heap.size, 0, none⟩ = some (.int .u32 v) ∧ W.cell? ⟨w.heap.size, 1, none⟩ = some (.int .u32 0) ∧ W.cell? ⟨w.heap.size, 2, none⟩ = some (.int .i64 0) ∧ W.cell? ⟨w.heap.size, 3, none⟩ = some (.int .i64 s) ∧ W.cell? ⟨w.heap.size, 4, none⟩ = some (.int .i64 (fn : Int)) ∧ W.cell? ⟨w.heap.size, 5, none⟩ = some (.int .i64 (fn : Int)) ∧ W.cell? ⟨w.heap.size, 6, none⟩ = some (.int .i64 i) ∧ W.cell? ⟨w.heap.size, 7, none⟩ = some (.int .i64 u) ∧ W.cell? ⟨w.heap.size, 8, none⟩ = some (.slice fA fn fc) ∧ W.cell? ⟨w.heap.size, 9, none⟩ = some (.slice sA sn sc) ∧ W.cell? ⟨w.heap.size, 10, none⟩ = some (.slice mA 0 mc) ∧ W.cell? ⟨w.heap.size, 11, none⟩ = some (.int .i64 F) ∧ W.cell? ⟨w.heap.size, 12, none⟩ = some (.int .i64 y)) (first | exact cells13 bE | exact cells13 bF | exact cells13 bG | exact cells13 ((bG.other hne 0 _).other hne 1 _)) (first
        | (go_at_call 55; refine (rMove_any ⟨_, _, _, _, _, _, _, _, _, _, [], [], [], _, _, _, _, _, _, _, _, _⟩ _).mono ?_; rintro e' w4 ⟨rfl, hb5⟩; have bF := bE.keep hb5 bE.lt; have bRF := bRE.keep hb5 bRE.lt; have hm4 := (RowI.keep hm3 hb5 (Nat.le_refl _)).more hb5.size; have hb6 := hb4.trans (hb5.mono hb4.size))
        | (go_at_call 54; refine (rCheck_any ⟨0, _, _, 0, 0⟩ w4.heap.size _ _ _ mv w4 hm4 (Nat.le_refl _)).mono ?_; intro e' w5 hk; unfold Checked at hk; rw [HD2.out] at hk; obtain ⟨rfl, hb7⟩ := hk; have bG := bF.keep hb7 bF.lt; have bRG := bRF.keep hb7 bRF.lt; have hb8 := hb6.trans (hb7.mono hb6.size); have fr0 := bRG.frozen 0; have fr1 := bRG.frozen 1; have cr0 := bRG.cell (j := 0) rfl; have cr1 := bRG.cell (j := 1) rfl))
      have bH := (bG.other hne 0 (.int .i64 D2)).other hne 1 (.int .i64 F2)
      have bRH := (bRG.set 0 (.int .i64 D2)).set 1 (.int .i64 F2)
      obtain ⟨k0, k1, k2, k3, k4, k5, k6, k7, k8, k9, k10, k11, k12⟩ := cells13 bH
      have cr1' := bRH.cell (j := 1) rfl
      have hb9 := below_set (below_set hb8 hle (j := 0) (.int .i64 D2)) hle (j := 1) (.int .i64 F2)
      go_wp2
      go_ret
      exact ⟨rfl, hb9⟩
    · skip
      go_wp2_with fail
      clear k0 k1 k2 k3 k4 k5 k6 k7 k8 k9 k10 k11 k12
      have hbr := below_box w2 (.cells #[.int .i64 D, .int .i64 F] 82)
      have bQ := HBC.out.1.keep hbr HBC.out.1.lt
      have bR := Blk.new w2 82 [.int .i64 D, .int .i64 F]
      have hb3 := HBC.out.2.trans (hbr.mono HBC.out.2.size)
      have hne : w.heap.size ≠ w2.heap.size := by omega
      have hle := HBC.out.2.size
      generalize w2.heap.size = r at bR hne hle ⊢
      generalize w2.alloc (.cells #[.int .i64 D, .int .i64 F] 82) = w3 at bQ bR hb3 ⊢
      have hm3 := ((HM.out.keep hb3 (Nat.le_refl _)).more hb3.size).keep (below_drewN w3.heap.size w3 1) (Nat.le_refl _)
      have bE := bQ.drew
      have bRE := bR.drew
      have hb4 := hb3.drew
      clear hb3 bQ bR hbr
      go_region_held3 (fun W : World => W.cell? ⟨w.heap.size, 0, none⟩ = some (.int .u32 v) ∧ W.cell? ⟨w.heap.size, 1, none⟩ = some (.int .u32 0) ∧ W.cell? ⟨w.heap.size, 2, none⟩ = some (.int .i64 0) ∧ W.cell? ⟨w.heap.size, 3, none⟩ = some (.int .i64 s) ∧ W.cell? ⟨w.heap.size, 4, none⟩ = some (.int .i64 (fn : Int)) ∧ W.cell? ⟨w.heap.size, 5, none⟩ = some (.int .i64 (fn : Int)) ∧ W.cell? ⟨w.heap.size, 6, none⟩ = some (.int .i64 i) ∧ W.cell? ⟨w.heap.size, 7, none⟩ = some (.int .i64 u) ∧ W.cell? ⟨w.heap.size, 8, none⟩ = some (.slice fA fn fc) ∧ W.cell? ⟨w.heap.size, 9, none⟩ = some (.slice sA sn sc) ∧ W.cell? ⟨w.heap.size, 10, none⟩ = some (.slice mA 0 mc) ∧ W.cell? ⟨w.heap.size, 11, none⟩ = some (.int .i64 F) ∧ W.cell? ⟨w.heap.size, 12, none⟩ = some (.int .i64 F2)) (first | exact cells13 bE | exact cells13 bF | exact cells13 bG | exact cells13 ((bG.other hne 0 _).other hne 1 _)) (first
        | (go_at_call 55; refine (rMove_any ⟨_, _, _, _, _, _, _, _, _, _, [], [], [], _, _, _, _, _, _, _, _, _⟩ _).mono ?_; rintro e' w4 ⟨rfl, hb5⟩; have bF := bE.keep hb5 bE.lt; have bRF := bRE.keep hb5 bRE.lt; have hm4 := (RowI.keep hm3 hb5 (Nat.le_refl _)).more hb5.size; have hb6 := hb4.trans (hb5.mono hb4.size))
        | (go_at_call 54; refine (rCheck_any ⟨0, _, _, 0, 0⟩ w4.heap.size _ _ _ mv w4 hm4 (Nat.le_refl _)).mono ?_; intro e' w5 hk; unfold Checked at hk; rw [HD2.out] at hk; obtain ⟨rfl, hb7⟩ := hk; have bG := bF.keep hb7 bF.lt; have bRG := bRF.keep hb7 bRF.lt; have hb8 := hb6.trans (hb7.mono hb6.size); have fr0 := bRG.frozen 0; have fr1 := bRG.frozen 1; have cr0 := bRG.cell (j := 0) rfl; have cr1 := bRG.cell (j := 1) rfl))
      have bH := (bG.other hne 0 (.int .i64 D2)).other hne 1 (.int .i64 F2)
      have bRH := (bRG.set 0 (.int .i64 D2)).set 1 (.int .i64 F2)
      obtain ⟨k0, k1, k2, k3, k4, k5, k6, k7, k8, k9, k10, k11, k12⟩ := cells13 bH
      have cr1' := bRH.cell (j := 1) rfl
      have hb9 := below_set (below_set hb8 hle (j := 0) (.int .i64 D2)) hle (j := 1) (.int .i64 F2)
      go_wp2
      go_ret
      exact ⟨rfl, hb9⟩
/-- What is wrong of an image. -/
theorem rCheck11_any (K : IV) (z : Int) (w : World) (hK : Held w w.heap.size K) (H : Hid (chkM K.m = z)) :
    Calls Tryz.prog 29 #[.agg #[.int .u32 K.v, .int .u32 K.f, .int .i64 K.e, .int .i64 K.s, .int .i64 K.o, .int .i64 K.n, .int .i64 K.i, .int .i64 K.u, .slice K.fA K.fn K.fc, .slice K.sA K.sn K.sc, .slice K.mA K.mn K.mc, .int .i64 K.x, .int .i64 K.y]] w (Tells w z) := by
  by_cases ha : agr K.m
  · obtain ⟨g0, g1, g2, g3, g4, g5, g6⟩ := ragr_yes hK ha
    have hst := hK.st
    have hmv := hK.mv
    have hl := row_len hK.fs
    have hz : (if runE K.m.fr K.m.st K.m.sf ≠ 0 then runE K.m.fr K.m.st K.m.sf else runE (mvF K.m) K.m.mv K.m.mf) = z := by
      rw [← H.out]; unfold chkM; exact (if_neg (fun hn => hn ha)).symm
    obtain ⟨v, f, e, s, o, n, i, u, x, y, fs, st, mv, fA, fn, fc, sA, sn, sc, mA, mn, mc⟩ := K
    simp only at g0 g1 g2 g3 g4 g5 g6 hst hmv hl
    subst g4
    subst g5
    exact rChk_codes v f e _ i u x y s fs st mv fA sA mA fc sn sc mn mc fn z w hst hmv g0 g1 g2 g3 g6 (hide hz) rfl hl
  · have : z = 1 := by rw [← H.out]; unfold chkM; rw [if_pos ha]
    subst this
    exact rChk_bad K w hK ha

end Go.Proofs.YtdikiabjkmigdaaGreatDoor
