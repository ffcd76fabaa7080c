/-
  The walk of the law ImageBack.
-/
import Derived.Test.YtdikiabjkmigdaaDoorYg6
import Derived.Test.YtdikiabjkmigdaaDoorYg7
namespace Go.Proofs.YtdikiabjkmigdaaDoor
open Go.RowKit
set_option maxRecDepth 20000
set_option maxHeartbeats 4000000

theorem en_chk {m : Im} (h : enE m = 0) : chkM m = 0 ∧ enL m = encM m := by
  refine ⟨?_, if_pos h⟩
  unfold enE at h
  split at h
  · contradiction
  · rename_i h1; exact Classical.not_not.1 h1
theorem en_bad {m : Im} (h : enE m ≠ 0) : enL m = [] ∧ (chkM m = enE m ∨ enE m = 3) := by
  refine ⟨if_neg h, ?_⟩
  by_cases h0 : chkM m = 0
  · right
    by_cases hb : 2016 < (encM m).length
    · unfold enE; rw [if_neg (fun hn => hn h0), if_pos hb]
    · exact absurd (show enE m = 0 by unfold enE; rw [if_neg (fun hn => hn h0), if_neg hb]) h
  · left; unfold enE; rw [if_pos h0]
theorem back_facts {m : Im} (hw : Wf m) (k : List UInt8) (h : enE m = 0) : parE (enL m) = 0 ∧ parM (enL m) = m ∧ opE k (sealT k (enL m)) = 0 ∧ opM k (sealT k (enL m)) = m := by
  obtain ⟨h0, hL⟩ := en_chk h
  have ho : m.fr.o = m.fr.n := (chk_zero h0).1.2.2.2.1
  obtain ⟨p1, p2⟩ := par_back hw h ho
  have hlen := en_len h
  rw [← hL] at p1 p2
  have hl2 : ¬ 2048 < (sealT k (enL m)).length := by rw [sealT_len]; omega
  refine ⟨p1, p2, ?_, ?_⟩
  · unfold opE; rw [if_neg hl2, if_neg (fun hn => hn (unE_seal k _)), unL_seal]; exact p1
  · unfold opM; rw [if_neg (fun hn => hn.elim hl2 fun q => q (unE_seal k _)), unL_seal]; exact p2
theorem Held.own11 {w' : World} {K : IV} {base : Nat} {m : Im} (hm : K.m = m) (hw : Wf m) (o1 : w'.ownsRow base 21 1 (.slice K.fA K.fn K.fc) K.fn (c32 K.fs)) (o2 : w'.ownsRow base 67 2 (.slice K.sA K.sn K.sc) K.sn (csI K.st)) (o3 : w'.ownsRow base 67 2 (.slice K.mA K.mn K.mc) K.mn (csI K.mv)) : Held w' w'.heap.size K := by
  subst hm
  exact ⟨Row.of_own o1, RowI.of_own o2 hw.st, RowI.of_own o3 hw.mv, hw⟩
theorem back_known (K : IV) (A : Option Addr) (n c : Nat) (w : World) (hbig : 16384 < n) :
    Calls Tryd.prog 3 #[.agg #[.int .u32 K.v, .int .u32 K.f, .int .i64 K.e, .int .i64 K.s, .int .i64 K.o, .int .i64 K.n, .int .i64 K.i, .int .i64 K.u, .slice K.fA K.fn K.fc, .slice K.sA K.sn K.sc, .slice K.mA K.mn K.mc, .int .i64 K.x, .int .i64 K.y], .slice A n c] w fun e w' => e = .returned (.bool true) ∧ Below w.heap.size w w' := by
  have hd : decide ((16384 : Int) < (n : Int)) = true := by simp; omega
  clear hbig
  go_enter Tryd.func3, Tryd.ntmps3
  go_wp2_with fail
  refine (known_any _).mono ?_
  rintro e wk ⟨rfl, hbk⟩
  have HB := hide (box_then hbk)
  clear hbk
  go_wp2
  go_ret
  exact ⟨rfl, HB.out⟩
theorem back_light (K : IV) (A : Option Addr) (n c : Nat) (w : World) (hn : n ≤ 16384) (HL : Hid (lightB K = false)) :
    Calls Tryd.prog 3 #[.agg #[.int .u32 K.v, .int .u32 K.f, .int .i64 K.e, .int .i64 K.s, .int .i64 K.o, .int .i64 K.n, .int .i64 K.i, .int .i64 K.u, .slice K.fA K.fn K.fc, .slice K.sA K.sn K.sc, .slice K.mA K.mn K.mc, .int .i64 K.x, .int .i64 K.y], .slice A n c] w fun e w' => e = .returned (.bool true) ∧ Below w.heap.size w w' := by
  have hd : decide ((16384 : Int) < (n : Int)) = false := by simp; omega
  go_enter Tryd.func3, Tryd.ntmps3
  go_wp2_with fail
  refine (light_b K _ _ HL).mono ?_
  rintro e w2 ⟨rfl, hb2⟩
  have HB := hide (box_then hb2)
  clear hb2
  go_wp2_with fail
  refine (known_any w2).mono ?_
  rintro e wk ⟨rfl, hbk⟩
  have HB2 := hide (HB.out.trans (hbk.mono HB.out.size))
  clear hbk
  go_wp2
  go_ret
  exact ⟨rfl, HB2.out⟩
theorem back_walk (K : IV) (A : Option Addr) (n c : Nat) (k : List UInt8) (w : World) (hK : Held w w.heap.size K) (hr : Row w w.heap.size A n c (cs8 k)) (hT : KT w.heap.size w) :
    Calls Tryd.prog 3 #[.agg #[.int .u32 K.v, .int .u32 K.f, .int .i64 K.e, .int .i64 K.s, .int .i64 K.o, .int .i64 K.n, .int .i64 K.i, .int .i64 K.u, .slice K.fA K.fn K.fc, .slice K.sA K.sn K.sc, .slice K.mA K.mn K.mc, .int .i64 K.x, .int .i64 K.y], .slice A n c] w fun e w' => e = .returned (.bool true) ∧ Below w.heap.size w w' := by
  by_cases hbig : 16384 < n
  · exact back_known K A n c w hbig
  have hn : n ≤ 16384 := by omega
  have hd : decide ((16384 : Int) < (n : Int)) = false := by simp; omega
  clear hbig
  obtain ⟨lb, hlb⟩ : ∃ b, lightB K = b := ⟨_, rfl⟩
  cases lb
  · exact back_light K A n c w hn (hide hlb)
  have HL := hide hlb
  clear hlb
  have hb0 := below_box w (.cells #[.int .u32 K.v, .int .u32 K.f, .int .i64 K.e, .int .i64 K.s, .int .i64 K.o, .int .i64 K.n, .int .i64 K.i, .int .i64 K.u, .slice K.fA K.fn K.fc, .slice K.sA K.sn K.sc, .slice K.mA K.mn K.mc, .int .i64 K.x, .int .i64 K.y] 28)
  have bQ := Blk.new w 28 [.int .u32 K.v, .int .u32 K.f, .int .i64 K.e, .int .i64 K.s, .int .i64 K.o, .int .i64 K.n, .int .i64 K.i, .int .i64 K.u, .slice K.fA K.fn K.fc, .slice K.sA K.sn K.sc, .slice K.mA K.mn K.mc, .int .i64 K.x, .int .i64 K.y]
  have hK0 := (hK.keep hb0 (Nat.le_refl _)).more hb0.size
  have H0 := hide (And.intro hb0 (And.intro bQ hK0))
  clear hb0 bQ hK0
  obtain ⟨z, hz⟩ : ∃ z, enE K.m = z := ⟨_, rfl⟩
  obtain ⟨L, hL⟩ : ∃ L, enL K.m = L := ⟨_, rfl⟩
  obtain ⟨G, hG⟩ : ∃ L, sgL k K.m = L := ⟨_, rfl⟩
  have HZ := hide (And.intro hz (And.intro hL hG))
  go_enter Tryd.func3, Tryd.ntmps3
  have HZZ := HZ
  clear hz hL hG HZZ
  go_wp2_with fail
  refine (light_b K _ _ HL).mono ?_
  rintro e w2 ⟨rfl, hb2⟩
  have bQ2 := H0.out.2.1.keep hb2 H0.out.2.1.lt
  have hK2 := (H0.out.2.2.keep hb2 (Nat.le_refl _)).more hb2.size
  have hb02 := H0.out.1.trans (hb2.mono H0.out.1.size)
  obtain ⟨k0, k1, k2, k3, k4, k5, k6, k7, k8, k9, k10, k11, k12⟩ := cells13 bQ2
  have lq := bQ2.lt
  clear hb2 H0
  go_wp2_with fail
  clear k0 k1 k2 k3 k4 k5 k6 k7 k8 k9 k10 k11 k12 lq
  refine (Encode11_any K w2 hK2).mono ?_
  rw [HZ.out.2.1, HZ.out.1]
  rintro e w3 ⟨A3, n3, c3, rfl, r3_, hb3⟩
  have bQ3 := bQ2.keep hb3 bQ2.lt
  have hK3 := (hK2.keep hb3 (Nat.le_refl _)).more hb3.size
  have hb03 := hb02.trans (hb3.mono hb02.size)
  have hr3 := (hr.keep hb03 (Nat.le_refl _)).more hb03.size
  have hT3 := (hT.keep hb03 (Nat.le_refl _)).more hb03.size
  obtain ⟨k0, k1, k2, k3, k4, k5, k6, k7, k8, k9, k10, k11, k12⟩ := cells13 bQ3
  have lq := bQ3.lt
  have R3 := hide r3_
  clear hb3 bQ2 hK2 hb02 r3_
  go_wp2_with fail
  clear k0 k1 k2 k3 k4 k5 k6 k7 k8 k9 k10 k11 k12 lq
  refine (Sign11_any K w3.heap.size A n c k w3 hK3 hr3 (Nat.le_refl _) hT3 (by omega)).mono ?_
  rw [HZ.out.2.2, HZ.out.1]
  rintro e w4 ⟨A4, n4, c4, rfl, r4_, hb4⟩
  have bQ4 := bQ3.keep hb4 bQ3.lt
  have hK4 := (hK3.keep hb4 (Nat.le_refl _)).more hb4.size
  have hb04 := hb03.trans (hb4.mono hb03.size)
  have r3b := (R3.out.keep hb4 (Nat.le_refl _)).more hb4.size
  have hr4 := (hr.keep hb04 (Nat.le_refl _)).more hb04.size
  have hT4 := (hT.keep hb04 (Nat.le_refl _)).more hb04.size
  have hn3 := r3b.len
  have hn4 := r4_.len
  rw [cs8_len] at hn3 hn4
  have HN := hide (And.intro hn3 hn4)
  have HR := hide (And.intro r3b (And.intro r4_ (And.intro hr4 hT4)))
  clear hn3 hn4 r3b r4_ hr4 hT4 hr3 hT3 hK3 bQ3 hb4 hb03 R3
  by_cases h0 : z = 0
  · subst h0
    have hF := back_facts hK.wf k HZ.out.1
    rw [HZ.out.2.1] at hF
    have hsg : G = sealT k L := by rw [← HZ.out.2.2, ← HZ.out.2.1]; exact if_pos HZ.out.1
    rw [← hsg] at hF
    have hlen : n4 = n3 + 32 := by have h1 := HN.out.1; have h2 := HN.out.2; rw [hsg, sealT_len] at h2; omega
    have HF := hide hF
    subst hlen
    have hn9 : n3 ≤ 2016 := by have h1 := HN.out.1; have h2 := en_len HZ.out.1; rw [HZ.out.2.1] at h2; omega
    clear hF hsg
    obtain ⟨r3b, r4_, hr4, hT4⟩ := HR.out
    go_wp2_with fail
    refine (Parse_any w4.heap.size A3 n3 c3 L w4 r3b (Nat.le_refl _)).mono ?_
    rw [HF.out.1, HF.out.2.1]
    rintro e w5 ⟨J, rfl, hmP, o1, o2, o3, hb5⟩
    have hbx := below_box w5 (.cells #[.int .u32 J.v, .int .u32 J.f, .int .i64 J.e, .int .i64 J.s, .int .i64 J.o, .int .i64 J.n, .int .i64 J.i, .int .i64 J.u, .slice J.fA J.fn J.fc, .slice J.sA J.sn J.sc, .slice J.mA J.mn J.mc, .int .i64 J.x, .int .i64 J.y] 28)
    have bP := Blk.new w5 28 [.int .u32 J.v, .int .u32 J.f, .int .i64 J.e, .int .i64 J.s, .int .i64 J.o, .int .i64 J.n, .int .i64 J.i, .int .i64 J.u, .slice J.fA J.fn J.fc, .slice J.sA J.sn J.sc, .slice J.mA J.mn J.mc, .int .i64 J.x, .int .i64 J.y]
    have b46 := hb5.trans (hbx.mono hb5.size)
    have OP := hide (And.intro hmP (And.intro (own_below2 o1 hbx) (And.intro (own_below2 o2 hbx) (own_below2 o3 hbx))))
    have bQ6 := (bQ4.keep hb5 bQ4.lt).keep hbx (Nat.lt_of_lt_of_le bQ4.lt hb5.size)
    have qne1 : w.heap.size < w5.heap.size := by have := bQ4.lt; have := hb5.size; omega
    clear o1 o2 o3 hb5 hbx hmP bQ4
    go_upto_region 12 with (fail)
    generalize w5.heap.size = q1 at bP qne1 ⊢
    generalize w5.alloc (.cells #[.int .u32 J.v, .int .u32 J.f, .int .i64 J.e, .int .i64 J.s, .int .i64 J.o, .int .i64 J.n, .int .i64 J.i, .int .i64 J.u, .slice J.fA J.fn J.fc, .slice J.sA J.sn J.sc, .slice J.mA J.mn J.mc, .int .i64 J.x, .int .i64 J.y] 28) = w6 at bP bQ6 OP b46 ⊢
    have hs6 := b46.size
    have s4 := (r4_.keep b46 (Nat.le_refl _)).more hs6
    have sr := (hr4.keep b46 (Nat.le_refl _)).more hs6
    have sT := (hT4.keep b46 (Nat.le_refl _)).more hs6
    clear HR r3b r4_ hr4 hT4
    go_wp2_with fail
    refine (Open11_any w6.heap.size A4 (n3 + 32) c4 G A n c k w6 s4 sr (Nat.le_refl _) sT (by omega)).mono ?_
    rw [HF.out.2.2.1, HF.out.2.2.2]
    rintro e w7 ⟨D, rfl, hmD, o1, o2, o3, hb7⟩
    have hby := below_box w7 (.cells #[.int .u32 D.v, .int .u32 D.f, .int .i64 D.e, .int .i64 D.s, .int .i64 D.o, .int .i64 D.n, .int .i64 D.i, .int .i64 D.u, .slice D.fA D.fn D.fc, .slice D.sA D.sn D.sc, .slice D.mA D.mn D.mc, .int .i64 D.x, .int .i64 D.y] 28)
    have bD := Blk.new w7 28 [.int .u32 D.v, .int .u32 D.f, .int .i64 D.e, .int .i64 D.s, .int .i64 D.o, .int .i64 D.n, .int .i64 D.i, .int .i64 D.u, .slice D.fA D.fn D.fc, .slice D.sA D.sn D.sc, .slice D.mA D.mn D.mc, .int .i64 D.x, .int .i64 D.y]
    have b68 := hb7.trans (hby.mono hb7.size)
    have OD := hide (And.intro hmD (And.intro (own_below2 o1 hby) (And.intro (own_below2 o2 hby) (own_below2 o3 hby))))
    have OP8 := hide (And.intro OP.out.1 (And.intro (own_below2 (own_below2 OP.out.2.1 hb7) hby) (And.intro (own_below2 (own_below2 OP.out.2.2.1 hb7) hby) (own_below2 (own_below2 OP.out.2.2.2 hb7) hby))))
    have bQ8 := (bQ6.keep hb7 bQ6.lt).keep hby (Nat.lt_of_lt_of_le bQ6.lt hb7.size)
    have bP8 := (bP.keep hb7 bP.lt).keep hby (Nat.lt_of_lt_of_le bP.lt hb7.size)
    have qne2 : q1 < w7.heap.size := by have := bP.lt; have := hb7.size; omega
    clear o1 o2 o3 hb7 hby hmD bQ6 bP OP s4 sr sT
    go_upto_region 13 with (fail)
    generalize w7.heap.size = q2 at bD qne2 ⊢
    generalize w7.alloc (.cells #[.int .u32 D.v, .int .u32 D.f, .int .i64 D.e, .int .i64 D.s, .int .i64 D.o, .int .i64 D.n, .int .i64 D.i, .int .i64 D.u, .slice D.fA D.fn D.fc, .slice D.sA D.sn D.sc, .slice D.mA D.mn D.mc, .int .i64 D.x, .int .i64 D.y] 28) = w8 at bD bQ8 bP8 OD OP8 b68 ⊢
    have b48 := b46.trans (b68.mono hs6)
    have b08 := hb04.trans (b48.mono hb04.size)
    have hK8 := (hK4.keep b48 (Nat.le_refl _)).more b48.size
    have HD := hide (Held.own11 OD.out.1 hK.wf OD.out.2.1 OD.out.2.2.1 OD.out.2.2.2)
    have HP := hide (Held.own11 OP8.out.1 hK.wf OP8.out.2.1 OP8.out.2.2.1 OP8.out.2.2.2)
    have HMM := hide (And.intro OP8.out.1 OD.out.1)
    obtain ⟨k0, k1, k2, k3, k4, k5, k6, k7, k8, k9, k10, k11, k12⟩ := cells13 bQ8
    obtain ⟨z0, z1, z2, z3, z4, z5, z6, z7, z8, z9, z10, z11, z12⟩ := cells13 bP8
    have lq := bQ8.lt
    have lp := bP8.lt
    go_wp2_with fail
    clear k0 k1 k2 k3 k4 k5 k6 k7 k8 k9 k10 k11 k12 z0 z1 z2 z3 z4 z5 z6 z7 z8 z9 z10 z11 z12 lq lp
    refine (Same11_any J K w8.heap.size w8.heap.size w8 HP.out hK8 (Nat.le_refl _) (Nat.le_refl _) HMM.out.1).mono ?_
    rintro e w9 ⟨rfl, hb9⟩
    have bQ9 := bQ8.keep hb9 bQ8.lt
    have bD9 := bD.keep hb9 bD.lt
    have hK9 := (hK8.keep hb9 (Nat.le_refl _)).more hb9.size
    have HD9 := hide ((HD.out.keep hb9 (Nat.le_refl _)).more hb9.size)
    have b09 := b08.trans (hb9.mono b08.size)
    clear hb9 bQ8 bD hK8 HD b08 bP8
    obtain ⟨k0, k1, k2, k3, k4, k5, k6, k7, k8, k9, k10, k11, k12⟩ := cells13 bQ9
    obtain ⟨z0, z1, z2, z3, z4, z5, z6, z7, z8, z9, z10, z11, z12⟩ := cells13 bD9
    have lq := bQ9.lt
    have lp := bD9.lt
    go_wp2_with fail
    clear k0 k1 k2 k3 k4 k5 k6 k7 k8 k9 k10 k11 k12 z0 z1 z2 z3 z4 z5 z6 z7 z8 z9 z10 z11 z12 lq lp
    refine (Same11_any D K w9.heap.size w9.heap.size w9 HD9.out hK9 (Nat.le_refl _) (Nat.le_refl _) HMM.out.2).mono ?_
    rintro e w10 ⟨rfl, hb10⟩
    have HB10 := hide (b09.trans (hb10.mono b09.size))
    clear hb10 b09
    go_wp2_with fail
    refine (known_any w10).mono ?_
    rintro e wk ⟨rfl, hbk⟩
    have HB11 := hide (HB10.out.trans (hbk.mono HB10.out.size))
    clear hbk
    go_wp2
    go_ret
    exact ⟨rfl, HB11.out⟩
  · have h3 := en_bad (m := K.m) (by rw [HZ.out.1]; exact h0)
    rw [HZ.out.2.1, HZ.out.1] at h3
    have hsg : G = [] := by rw [← HZ.out.2.2]; exact if_neg (by rw [HZ.out.1]; exact h0)
    have e3 : n3 = 0 := by have := HN.out.1; rw [h3.1] at this; exact this.symm
    have e4 : n4 = 0 := by have := HN.out.2; rw [hsg] at this; exact this.symm
    subst e3
    subst e4
    have g0 : (z == 0) = false := beq_eq_false_iff_ne.2 h0
    have g1 := bne_of g0
    obtain ⟨zc, hzc⟩ : ∃ x, chkM K.m = x := ⟨_, rfl⟩
    have HZC := hide hzc
    have hcs : zc = z ∨ ((zc == z) = false ∧ z = 3) := by
      rcases h3.2 with h | h
      · exact .inl (by rw [← hzc]; exact h)
      · by_cases hq : zc = z
        · exact .inl hq
        · exact .inr ⟨beq_eq_false_iff_ne.2 hq, h⟩
    clear h3 hsg h0 hzc HN HR
    have HB4 := hide hb04
    clear hb04
    rcases hcs with rfl | ⟨hq, rfl⟩
    all_goals
      obtain ⟨k0, k1, k2, k3, k4, k5, k6, k7, k8, k9, k10, k11, k12⟩ := cells13 bQ4
      have lq := bQ4.lt
      go_wp2_with fail
      clear k0 k1 k2 k3 k4 k5 k6 k7 k8 k9 k10 k11 k12 lq
      refine (Check11_any K _ w4 hK4 HZC).mono ?_
      rintro e w5 ⟨rfl, hb5⟩
      have HB5 := hide (HB4.out.trans (hb5.mono HB4.out.size))
      clear hb5
      go_wp2_with fail
      refine (known_any w5).mono ?_
      rintro e wk ⟨rfl, hbk⟩
      have HB6 := hide (HB5.out.trans (hbk.mono HB5.out.size))
      clear hbk
      go_wp2
      go_ret
      exact ⟨rfl, HB6.out⟩

end Go.Proofs.YtdikiabjkmigdaaDoor
