/-
  The walk of the law ImageTrusts.
-/
import Derived.Test.YtdikiabjkmigdaaDoorYg6
import Derived.Test.YtdikiabjkmigdaaDoorYg7
import Derived.BigQuiet
namespace Go.Proofs.YtdikiabjkmigdaaDoor
open Go.RowKit
set_option maxRecDepth 100000
set_option maxHeartbeats 4000000

theorem op_wf (k l : List UInt8) : Wf (opM k l) := by
  unfold opM; split
  · exact zero_wf
  · exact par_wf _
theorem par_ok {l : List UInt8} (h : parE l = 0) : parM l = rdM l ∧ chkM (rdM l) = 0 := by
  have h2 : parM l = rdM l := if_pos h
  refine ⟨h2, ?_⟩
  unfold parE at h
  split at h
  · omega
  · split at h
    · omega
    · exact h
theorem trust_facts {k l : List UInt8} (h : opE k l = 0) : 32 ≤ l.length ∧ l.drop (l.length - 32) = tagL k (l.take (l.length - 32)) ∧ (checkM (opM k l).fr (opM k l).st).2.2.1 = 0 ∧ (checkM (opM k l).fr (opM k l).st).2.1 = (opM k l).sf ∧
    (checkM (mvF (opM k l)) (opM k l).mv).2.2.1 = 0 ∧ (checkM (mvF (opM k l)) (opM k l).mv).2.1 = (opM k l).mf ∧ (opM k l).frm < (opM k l).ver := by
  have hl : ¬ 2048 < l.length := by
    intro hn; unfold opE at h; rw [if_pos hn] at h; omega
  have hu : unE k l = 0 := by
    unfold opE at h; rw [if_neg hl] at h
    by_cases h0 : unE k l = 0
    · exact h0
    · rw [if_pos h0] at h; exact absurd h h0
  have hp : parE (unL k l) = 0 := by
    unfold opE at h; rw [if_neg hl, if_neg (fun hn => hn hu)] at h; exact h
  have hM : opM k l = parM (unL k l) := by unfold opM; rw [if_neg (fun hn => hn.elim hl fun q => q hu)]
  obtain ⟨h1, h2⟩ := par_ok hp
  obtain ⟨ha, hr1, hr2⟩ := chk_zero h2
  obtain ⟨c1, c2⟩ := runE_zero hr1
  obtain ⟨c3, c4⟩ := runE_zero hr2
  have h32 : 32 ≤ l.length := by
    unfold unE at hu
    split at hu
    · omega
    · omega
  have hb : unB k l = true := by
    unfold unE at hu
    rw [if_neg (by omega)] at hu
    split at hu
    · assumption
    · omega
  rw [hM, h1]
  exact ⟨h32, of_decide_eq_true hb, c1, c2, c3, c4, ha.1⟩
structure TS (w0 w : World) (K : IV) (q1 gd gx gy ct : Nat) (At : Option Addr) (X : List UInt8) (D1 D2 : Int) : Prop where
  c : Blk w q1 28 [.int .u32 K.v, .int .u32 K.f, .int .i64 K.e, .int .i64 K.s, .int .i64 K.o, .int .i64 K.n, .int .i64 K.i, .int .i64 K.u, .slice K.fA K.fn K.fc, .slice K.sA K.sn K.sc, .slice K.mA K.mn K.mc, .int .i64 K.x, .int .i64 K.y]
  d : Blk w gd 42 (cs8 X)
  x : Blk w gx 45 [.int .i64 D1, .int .i64 K.x]
  y : Blk w gy 45 [.int .i64 D2, .int .i64 K.y]
  t : Row w w0.heap.size At 32 ct (cs8 X)
  bl : Below w0.heap.size w0 w
theorem TS.keep {w0 w w' : World} {K : IV} {q1 gd gx gy ct : Nat} {At : Option Addr} {X : List UInt8} {D1 D2 : Int} (h : TS w0 w K q1 gd gx gy ct At X D1 D2) (hb : Below w.heap.size w w') : TS w0 w' K q1 gd gx gy ct At X D1 D2 :=
  ⟨h.c.keep hb h.c.lt, h.d.keep hb h.d.lt, h.x.keep hb h.x.lt, h.y.keep hb h.y.lt, h.t.keep hb h.bl.size, h.bl.trans (hb.mono h.bl.size)⟩
theorem TS.s {w0 w : World} {K : IV} {q1 gd gx gy ct : Nat} {At : Option Addr} {X : List UInt8} {D1 D2 : Int} (h : TS w0 w K q1 gd gx gy ct At X D1 D2) (hX : X.length = 32) : (convert 29 9 (.slice (some ⟨gd, 0, none⟩) 32 32)).run Tryd.prog w = .ok (.string ⟨X.toArray⟩) w ∧ (convert 29 9 (.slice At 32 ct)).run Tryd.prog w = .ok (.string ⟨X.toArray⟩) w ∧ w.cell? ⟨gx, 1, none⟩ = some (.int .i64 K.x) ∧ w.cell? ⟨gy, 1, none⟩ = some (.int .i64 K.y) ∧ w.cell? ⟨q1, 0, none⟩ = some (.int .u32 K.v) ∧ w.cell? ⟨q1, 1, none⟩ = some (.int .u32 K.f) ∧ w.cell? ⟨q1, 2, none⟩ = some (.int .i64 K.e) ∧ w.cell? ⟨q1, 3, none⟩ = some (.int .i64 K.s) ∧ w.cell? ⟨q1, 4, none⟩ = some (.int .i64 K.o) ∧ w.cell? ⟨q1, 5, none⟩ = some (.int .i64 K.n) ∧ w.cell? ⟨q1, 6, none⟩ = some (.int .i64 K.i) ∧ w.cell? ⟨q1, 7, none⟩ = some (.int .i64 K.u) ∧ w.cell? ⟨q1, 8, none⟩ = some (.slice K.fA K.fn K.fc) ∧ w.cell? ⟨q1, 9, none⟩ = some (.slice K.sA K.sn K.sc) ∧ w.cell? ⟨q1, 10, none⟩ = some (.slice K.mA K.mn K.mc) ∧ w.cell? ⟨q1, 11, none⟩ = some (.int .i64 K.x) ∧ w.cell? ⟨q1, 12, none⟩ = some (.int .i64 K.y) :=
  ⟨(h.d.whole (by rw [cs8_len]; exact hX) (by unfold maxLen; omega)).str Tryd.underlying29 Tryd.underlying5 Tryd.underlying9, h.t.str Tryd.underlying29 Tryd.underlying5 Tryd.underlying9, h.x.cell (j := 1) rfl, h.y.cell (j := 1) rfl, cells13 h.c⟩
theorem trusts_walk (A' : Option Addr) (n' c' : Nat) (l : List UInt8) (A : Option Addr) (n c : Nat) (k : List UInt8) (w : World) (hr : Row w w.heap.size A' n' c' (cs8 l)) (hk : Row w w.heap.size A n c (cs8 k)) (hT : KT w.heap.size w) :
    Calls Tryd.prog 4 #[.slice A' n' c', .slice A n c] w fun e w' => e = .returned (.bool true) ∧ Below w.heap.size w w' := by
  by_cases hbig : 16384 < n
  · have hd : decide ((16384 : Int) < (n : Int)) = true := by simp; omega
    clear hbig
    go_enter Tryd.func4, Tryd.ntmps4
    go_wp2_with fail
    refine (known_any w).mono ?_
    rintro e wk ⟨rfl, hbk⟩
    go_wp2
    go_ret
    exact ⟨rfl, hbk⟩
  have hd : decide ((16384 : Int) < (n : Int)) = false := by simp; omega
  have hn : n ≤ 16384 := by omega
  clear hbig
  by_cases hbig : 10000 < n'
  · have hd2 : decide ((10000 : Int) < (n' : Int)) = true := by simp; omega
    clear hbig
    go_enter Tryd.func4, Tryd.ntmps4
    go_wp2_with fail
    refine (known_any w).mono ?_
    rintro e wk ⟨rfl, hbk⟩
    go_wp2
    go_ret
    exact ⟨rfl, hbk⟩
  have hlen := hr.len
  rw [cs8_len] at hlen
  obtain ⟨z, hz⟩ : ∃ z, opE k l = z := ⟨_, rfl⟩
  have HZ := hide hz
  by_cases h0 : z = 0
  · subst h0
    have hF := trust_facts hz
    obtain ⟨p, rfl⟩ : ∃ p, n' = p + 32 := ⟨n' - 32, by have := hF.1; omega⟩
    rw [hlen, show p + 32 - 32 = p by omega] at hF
    have hd2 : decide ((10000 : Int) < (p : Int) + 32) = false := by simp; omega
    have hs2 : (p : Int) + 32 - 32 = p := by omega
    have hp0 : (0 : Int) ≤ (p : Int) := by omega
    have hp1 : p ≤ 10000 := by omega
    obtain ⟨Ah, ch, hslh, rh⟩ := hr.headed Tryd.underlying29 size8 (hi := p) (by omega) p rfl
    obtain ⟨At, ct, hslt, rt⟩ := hr.tailed Tryd.underlying29 size8 (lo := p) (by omega) p rfl
    rw [show p + 32 - p = 32 by omega] at rt hslt
    rw [show (cs8 l).take p = cs8 (l.take p) by simp [cs8]] at rh
    rw [show (cs8 l).drop p = cs8 (l.drop p) by simp [cs8], hF.2.1] at rt
    obtain ⟨X, hX⟩ : ∃ X, tagL k (l.take p) = X := ⟨_, rfl⟩
    have hX32 : X.length = 32 := by rw [← hX]; exact tagL_len _ _
    rw [hX] at rt
    have HX := hide (And.intro hX hX32)
    have HF := hide hF.2.2
    have HRT := hide (And.intro rh rt)
    clear hX hX32 hF rh rt hz hlen hbig
    go_enter Tryd.func4, Tryd.ntmps4
    have HSL := hide (And.intro hslh hslt)
    clear hslh hslt
    go_wp2_with fail
    refine (Open11_any w.heap.size A' (p + 32) c' l A n c k w hr hk (Nat.le_refl _) hT (by omega)).mono ?_
    rw [HZ.out]
    rintro e w2 ⟨K, rfl, hm, o1, o2, o3, hb2⟩
    have hbx := below_box w2 (.cells #[.int .u32 K.v, .int .u32 K.f, .int .i64 K.e, .int .i64 K.s, .int .i64 K.o, .int .i64 K.n, .int .i64 K.i, .int .i64 K.u, .slice K.fA K.fn K.fc, .slice K.sA K.sn K.sc, .slice K.mA K.mn K.mc, .int .i64 K.x, .int .i64 K.y] 28)
    have bC := Blk.new w2 28 [.int .u32 K.v, .int .u32 K.f, .int .i64 K.e, .int .i64 K.s, .int .i64 K.o, .int .i64 K.n, .int .i64 K.i, .int .i64 K.u, .slice K.fA K.fn K.fc, .slice K.sA K.sn K.sc, .slice K.mA K.mn K.mc, .int .i64 K.x, .int .i64 K.y]
    have hb3 := hb2.trans (hbx.mono hb2.size)
    have hK3 := ((held_of hm (op_wf k l) o1 o2 o3).keep hbx (Nat.le_refl _)).more hbx.size
    have q0 : w.heap.size ≤ w2.heap.size := hb2.size
    rw [← hm] at HF
    clear o1 o2 o3 hb2 hbx
    have HMM := hide hm
    clear hm
    go_upto_region 11 with (fail)
    generalize w2.heap.size = q1 at bC q0 ⊢
    generalize w2.alloc (.cells #[.int .u32 K.v, .int .u32 K.f, .int .i64 K.e, .int .i64 K.s, .int .i64 K.o, .int .i64 K.n, .int .i64 K.i, .int .i64 K.u, .slice K.fA K.fn K.fc, .slice K.sA K.sn K.sc, .slice K.mA K.mn K.mc, .int .i64 K.x, .int .i64 K.y] 28) = w3 at bC hK3 hb3 ⊢
    obtain ⟨hslh, hslt⟩ := HSL.out
    go_wp2_with fail
    have hk3 := (hk.keep hb3 (Nat.le_refl _)).more hb3.size
    have hT3 := (hT.keep hb3 (Nat.le_refl _)).more hb3.size
    have rh3 := (HRT.out.1.keep hb3 (Nat.le_refl _)).more hb3.size
    refine (Tag_any w3.heap.size A n c k Ah p ch (l.take p) w3 hk3 rh3 (Nat.le_refl _) hT3 (by omega) (by omega)).mono ?_
    rw [HX.out.1]
    rintro e w4 ⟨rfl, hb4⟩
    have bC4 := bC.keep hb4 bC.lt
    have hb04 := hb3.trans (hb4.mono hb3.size)
    have hK4 := (hK3.keep hb4 (Nat.le_refl _)).more hb4.size
    clear hk3 hT3 rh3 hb4 bC hb3 hK3
    have hXl : (cs8 X).length = 32 := by rw [cs8_len]; exact HX.out.2
    go_wp2_with (refine wpList_storeB rfl 42 (.tmp 8) (.tmp 46) rfl w4.heap.size (cs8 X) rfl rfl 42 (cs8 (nulL 32)) (Blk.at _ _ _ rfl) 32 size32b hXl rfl (cs8_one _) ?_; rw [World.setRow_alloc_new]; have hd5 := Blk.new w4 42 (cs8 X); have hb5 := below_box w4 (.cells (cs8 X).toArray 42 (0, 0)); have bC5 := bC4.keep hb5 bC4.lt; have hK5 := (hK4.keep hb5 (Nat.le_refl _)).more hb5.size; have hb05 := hb04.trans (hb5.mono hb04.size); obtain ⟨k0, k1, k2, k3, k4, k5, k6, k7, k8, k9, k10, k11, k12⟩ := cells13 bC5; have lC5 := bC5.lt; generalize w4.heap.size = gd at hd5 ⊢; generalize World.alloc w4 _ = w5 at hd5 hb5 bC5 hK5 hb05 k0 k1 k2 k3 k4 k5 k6 k7 k8 k9 k10 k11 k12 lC5 ⊢)
    clear k0 k1 k2 k3 k4 k5 k6 k7 k8 k9 k10 k11 k12 hb5 bC4 hb04 hK4 hXl
    obtain ⟨⟨D1, F1, er1, at1⟩, hD1⟩ : ∃ r, checkM K.m.fr K.m.st = r := ⟨_, rfl⟩
    obtain ⟨⟨D2, F2, er2, at2⟩, hD2⟩ : ∃ r, checkM ⟨0, K.e, K.n, 0, 0⟩ K.mv = r := ⟨_, rfl⟩
    have hlt : K.f < K.v := HF.out.2.2.2.2
    have hff := HF.out
    rw [hD1] at hff
    rw [show checkM (mvF K.m) K.m.mv = (D2, F2, er2, at2) from hD2] at hff
    simp only at hff
    obtain ⟨f1, f2, f3, f4, _⟩ := hff
    replace f2 : F1 = K.x := f2
    replace f4 : F2 = K.y := f4
    subst f1
    subst f2
    subst f3
    subst f4
    have HD1 : Hid (checkM K.m.fr K.st = (D1, K.x, 0, at1)) := hD1
    have HD2 := hide hD2
    clear hD1 hD2
    refine (Check_any K.m.fr w5.heap.size K.sA K.sn K.sc K.st w5 hK5.st (Nat.le_refl _)).mono ?_
    intro e w6 hk6
    unfold Checked at hk6
    rw [HD1.out] at hk6
    obtain ⟨rfl, hb6⟩ := hk6
    have hb7 := below_box w6 (.cells #[.int .i64 D1, .int .i64 K.x] 45)
    have bx7 := Blk.new w6 45 [.int .i64 D1, .int .i64 K.x]
    have bC7 := (bC5.keep hb6 bC5.lt).keep hb7 (Nat.lt_of_lt_of_le bC5.lt hb6.size)
    have hd7 := (hd5.keep hb6 hd5.lt).keep hb7 (Nat.lt_of_lt_of_le hd5.lt hb6.size)
    have hK7 := (((hK5.keep hb6 (Nat.le_refl _)).more hb6.size).keep hb7 (Nat.le_refl _)).more hb7.size
    have hb07 := hb05.trans ((hb6.trans (hb7.mono hb6.size)).mono hb05.size)
    clear hb6 hb7 bC5 hd5 hK5 hb05
    go_upto_region 13 with (fail)
    generalize w6.heap.size = gx at bx7 ⊢
    generalize w6.alloc (.cells #[.int .i64 D1, .int .i64 K.x] 45) = w7 at bx7 bC7 hd7 hK7 hb07 ⊢
    obtain ⟨k0, k1, k2, k3, k4, k5, k6, k7, k8, k9, k10, k11, k12⟩ := cells13 bC7
    have lC7 := bC7.lt
    go_wp2_with fail
    clear k0 k1 k2 k3 k4 k5 k6 k7 k8 k9 k10 k11 k12 lC7
    refine (Check_any ⟨0, K.e, K.n, 0, 0⟩ w7.heap.size K.mA K.mn K.mc K.mv w7 hK7.mv (Nat.le_refl _)).mono ?_
    intro e w8 hk8
    unfold Checked at hk8
    rw [HD2.out] at hk8
    obtain ⟨rfl, hb8⟩ := hk8
    have hb9 := below_box w8 (.cells #[.int .i64 D2, .int .i64 K.y] 45)
    have by9 := Blk.new w8 45 [.int .i64 D2, .int .i64 K.y]
    have b79 := hb8.trans (hb9.mono hb8.size)
    have T9 : TS w (w8.alloc (.cells #[.int .i64 D2, .int .i64 K.y] 45)) K q1 gd gx w8.heap.size ct At X D1 D2 :=
      ⟨bC7.keep b79 bC7.lt, hd7.keep b79 hd7.lt, bx7.keep b79 bx7.lt, by9, HRT.out.2.keep (hb07.trans (b79.mono hb07.size)) (Nat.le_refl _), hb07.trans (b79.mono hb07.size)⟩
    clear hb8 hb9 by9 b79 bC7 hd7 bx7 hK7 hb07
    go_upto_region 14 with (fail)
    generalize w8.heap.size = gy at T9 ⊢
    generalize w8.alloc (.cells #[.int .i64 D2, .int .i64 K.y] 45) = w9 at T9 ⊢
    have T10 := T9.keep (below_drewN w9.heap.size w9 1)
    replace T10 : TS w w9.drew K q1 gd gx gy ct At X D1 D2 := T10
    have hw32 := fun W => run_whole32 gd W
    have sA_ := T10.s HX.out.2
    clear T9
    go_region_held3 (fun W : World => (convert 29 9 (.slice (some ⟨gd, 0, none⟩) 32 32)).run Tryd.prog W = .ok (.string ⟨X.toArray⟩) W ∧ (convert 29 9 (.slice At 32 ct)).run Tryd.prog W = .ok (.string ⟨X.toArray⟩) W ∧ W.cell? ⟨gx, 1, none⟩ = some (.int .i64 K.x) ∧ W.cell? ⟨gy, 1, none⟩ = some (.int .i64 K.y) ∧ W.cell? ⟨q1, 0, none⟩ = some (.int .u32 K.v) ∧ W.cell? ⟨q1, 1, none⟩ = some (.int .u32 K.f) ∧ W.cell? ⟨q1, 2, none⟩ = some (.int .i64 K.e) ∧ W.cell? ⟨q1, 3, none⟩ = some (.int .i64 K.s) ∧ W.cell? ⟨q1, 4, none⟩ = some (.int .i64 K.o) ∧ W.cell? ⟨q1, 5, none⟩ = some (.int .i64 K.n) ∧ W.cell? ⟨q1, 6, none⟩ = some (.int .i64 K.i) ∧ W.cell? ⟨q1, 7, none⟩ = some (.int .i64 K.u) ∧ W.cell? ⟨q1, 8, none⟩ = some (.slice K.fA K.fn K.fc) ∧ W.cell? ⟨q1, 9, none⟩ = some (.slice K.sA K.sn K.sc) ∧ W.cell? ⟨q1, 10, none⟩ = some (.slice K.mA K.mn K.mc) ∧ W.cell? ⟨q1, 11, none⟩ = some (.int .i64 K.x) ∧ W.cell? ⟨q1, 12, none⟩ = some (.int .i64 K.y)) (first | exact sA_ | exact sB_) (first
      | (go_at_call 5; refine (known_any _).mono ?_; rintro e wk ⟨rfl, hbk⟩; have T11 := T10.keep hbk; have sB_ := T11.s HX.out.2))
    go_wp2
    go_ret
    exact ⟨rfl, T11.bl⟩
  · have HM := hide (show opM k l = zeroM by
      unfold opM
      by_cases hb : 2048 < l.length
      · rw [if_pos (.inl hb)]
      · by_cases hu : unE k l = 0
        · rw [if_neg (fun hn => hn.elim hb fun q => q hu)]
          unfold parM
          rw [if_neg]
          intro hp
          apply h0
          rw [← hz]
          unfold opE
          rw [if_neg hb, if_neg (fun hn => hn hu), hp]
        · rw [if_pos (.inr hu)])
    have hd2 : decide ((10000 : Int) < (n' : Int)) = false := by simp; omega
    have g0 : (z == 0) = false := beq_eq_false_iff_ne.2 h0
    have g1 := bne_of g0
    have hn1 : n' ≤ 10000 := by omega
    clear hz h0 hlen hbig
    go_enter Tryd.func4, Tryd.ntmps4
    go_wp2_with fail
    refine (Open11_any w.heap.size A' n' c' l A n c k w hr hk (Nat.le_refl _) hT (by omega)).mono ?_
    rw [HZ.out, HM.out]
    rintro e w2 ⟨K, rfl, hm, o1, o2, o3, hb2⟩
    have hK := held_of hm zero_wf o1 o2 o3
    have hbx := below_box w2 (.cells #[.int .u32 K.v, .int .u32 K.f, .int .i64 K.e, .int .i64 K.s, .int .i64 K.o, .int .i64 K.n, .int .i64 K.i, .int .i64 K.u, .slice K.fA K.fn K.fc, .slice K.sA K.sn K.sc, .slice K.mA K.mn K.mc, .int .i64 K.x, .int .i64 K.y] 28)
    have bC := Blk.new w2 28 [.int .u32 K.v, .int .u32 K.f, .int .i64 K.e, .int .i64 K.s, .int .i64 K.o, .int .i64 K.n, .int .i64 K.i, .int .i64 K.u, .slice K.fA K.fn K.fc, .slice K.sA K.sn K.sc, .slice K.mA K.mn K.mc, .int .i64 K.x, .int .i64 K.y]
    have hK2 := (hK.keep hbx (Nat.le_refl _)).more hbx.size
    have hb3 := hb2.trans (hbx.mono hb2.size)
    have HMM := hide hm
    clear o1 o2 o3 hK hb2 hbx hm
    go_upto_region 7 with (fail)
    generalize w2.heap.size = q at bC ⊢
    generalize w2.alloc (.cells #[.int .u32 K.v, .int .u32 K.f, .int .i64 K.e, .int .i64 K.s, .int .i64 K.o, .int .i64 K.n, .int .i64 K.i, .int .i64 K.u, .slice K.fA K.fn K.fc, .slice K.sA K.sn K.sc, .slice K.mA K.mn K.mc, .int .i64 K.x, .int .i64 K.y] 28) = w3 at bC hK2 hb3 ⊢
    obtain ⟨k0, k1, k2, k3, k4, k5, k6, k7, k8, k9, k10, k11, k12⟩ := cells13 bC
    have lC := bC.lt
    go_wp2_with fail
    clear k0 k1 k2 k3 k4 k5 k6 k7 k8 k9 k10 k11 k12
    refine (Same11_any K ⟨0, 0, 0, 0, 0, 0, 0, 0, 0, 0, [], [], [], none, 0, 0, none, 0, 0, none, 0, 0⟩ w3.heap.size w3.heap.size w3 hK2 (held_nil _ _ (by decide)) (Nat.le_refl _) (Nat.le_refl _) HMM.out).mono ?_
    rintro e w4 ⟨rfl, hb4⟩
    have hb7 := hide (hb3.trans (hb4.mono hb3.size))
    clear hb3 hb4 hK2 bC
    go_wp2_with fail
    refine (known_any w4).mono ?_
    rintro e wk ⟨rfl, hbk⟩
    have HB := hide (hb7.out.trans (hbk.mono hb7.out.size))
    clear hbk
    go_wp2
    go_ret
    exact ⟨rfl, HB.out⟩

end Go.Proofs.YtdikiabjkmigdaaDoor
