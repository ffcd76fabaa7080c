/-
  The walk of the law ImageParses.
-/
import Derived.Test.YtdikiabjkmigdaaYKnown
import Derived.Test.YtdikiabjkmigdaaYSame
import Derived.Test.YtdikiabjkmigdaaYRef7
namespace Go.Proofs.Ytdikiabjkmigdaa
open Go.RowKit
set_option maxRecDepth 20000
set_option maxHeartbeats 4000000

theorem Row.lent {w : World} {B : Nat} {g n c : Nat} {l : List UInt8} (h : Row w B (some ⟨g, 0, none⟩) (n + 1) c (cs8 (l ++ [77]))) (hl : l.length = n) : Row w B (some ⟨g, 0, none⟩) n c (cs8 l) := by
  have hp := h.pre (b := n) (by omega)
  rwa [cs8_snoc, List.take_left' (by rw [cs8_len]; exact hl)] at hp
theorem Held.own {w' : World} {K : IV} {base : Nat} {m : Im} (hm : K.m = m) (hw : Wf m) (o1 : w'.ownsRow base 21 1 (.slice K.fA K.fn K.fc) K.fn (c32 K.fs)) (o2 : w'.ownsRow base 54 2 (.slice K.sA K.sn K.sc) K.sn (csI K.st)) (o3 : w'.ownsRow base 54 2 (.slice K.mA K.mn K.mc) K.mn (csI K.mv)) : Held w' w'.heap.size K := by
  subst hm
  exact ⟨Row.of_own o1, RowI.of_own o2 hw.st, RowI.of_own o3 hw.mv, hw⟩
theorem own_apart2 {w w' : World} {base g n m : Nat} {e : TypeId} {v u : Value} {xs : List Value} (h : w.ownsRow base e m v n xs) (hg : w.grownBy w' u.ownBlock) (hu : ∀ k, u.ownBlock = some k → k < g) (hb : g ≤ base) : w'.ownsRow base e m v n xs :=
  h.kept hg (by
    cases hv : v.ownBlock with
    | none => exact .inl rfl
    | some k =>
      refine .inr fun he => ?_
      have h1 := (h.lt k hv).1
      have h2 := hu k he.symm
      omega)
theorem par_small (l : List UInt8) : (parM l).st.length ≤ 600 := by
  unfold parM
  split
  · show (decA (grL l (grT l 21))).1.length ≤ 600
    by_cases hz : (decA (grL l (grT l 21))).2.1 = 0
    · exact ((decA_only _).1 hz).2.2.1
    · rw [((decA_only _).2.1 hz).1]; simp
  · simp [zeroM]
theorem parses_walk (A : Option Addr) (n c : Nat) (l : List UInt8) (w : World) (hr : Row w w.heap.size A n c (cs8 l)) :
    Calls Try.prog 4 #[.slice A n c] w fun e w' => e = .returned (.bool true) ∧ Below w.heap.size w w' := by
  have hn := hr.len
  rw [cs8_len] at hn
  by_cases hbig : 10000 < n
  · have hd : decide ((10000 : Int) < (n : Int)) = true := by simp; omega
    clear hbig hn
    go_enter Try.func4, Try.ntmps4
    go_wp2_with fail
    refine (known_any w).mono ?_
    rintro e wk ⟨rfl, hbk⟩
    go_wp2
    go_ret
    exact ⟨rfl, hbk⟩
  · have hd : decide ((10000 : Int) < (n : Int)) = false := by simp; omega
    have hn1 : n ≤ 10000 := by omega
    have HN := hide hn
    clear hbig hn
    obtain ⟨z, hz⟩ : ∃ z, parE l = z := ⟨_, rfl⟩
    have HZ := hide hz
    clear hz
    go_enter Try.func4, Try.ntmps4
    go_wp2_with fail
    refine (Lent_any w.heap.size A n c l w hr (by omega)).mono ?_
    rintro e w1 ⟨g, c1, rfl, ho1, hb1⟩
    have hs1 := hb1.size
    have hk1 := Row.of_own ho1
    clear ho1
    go_wp2_with fail
    refine (Parse_any w1.heap.size _ _ _ l w1 (hk1.lent HN.out) (Nat.le_refl _)).mono ?_
    rw [HZ.out]
    rintro e w2 ⟨K, rfl, hm, o1, o2, o3, hb2⟩
    have hbx := below_box w2 (.cells #[.int .u32 K.v, .int .u32 K.f, .int .i64 K.e, .int .i64 K.s, .int .i64 K.o, .int .i64 K.n, .int .i64 K.i, .int .i64 K.u, .slice K.fA K.fn K.fc, .slice K.sA K.sn K.sc, .slice K.mA K.mn K.mc, .int .i64 K.x, .int .i64 K.y] 28)
    have bC := Blk.new w2 28 [.int .u32 K.v, .int .u32 K.f, .int .i64 K.e, .int .i64 K.s, .int .i64 K.o, .int .i64 K.n, .int .i64 K.i, .int .i64 K.u, .slice K.fA K.fn K.fc, .slice K.sA K.sn K.sc, .slice K.mA K.mn K.mc, .int .i64 K.x, .int .i64 K.y]
    have b13 := hb2.trans (hbx.mono hb2.size)
    have HO := hide (And.intro hm (And.intro (own_below2 o1 hbx) (And.intro (own_below2 o2 hbx) (own_below2 o3 hbx))))
    have HL2 := hide (show ∀ k, (Value.slice K.sA K.sn K.sc).ownBlock = some k → k < w2.heap.size from fun k hk => (o2.lt k hk).2)
    have hsx := hbx.size
    clear o1 o2 o3 hb2 hm hbx
    go_upto_region 5 with (fail)
    generalize hq1 : w2.heap.size = q1 at bC HL2 hsx ⊢
    clear hq1
    generalize w2.alloc (.cells #[.int .u32 K.v, .int .u32 K.f, .int .i64 K.e, .int .i64 K.s, .int .i64 K.o, .int .i64 K.n, .int .i64 K.i, .int .i64 K.u, .slice K.fA K.fn K.fc, .slice K.sA K.sn K.sc, .slice K.mA K.mn K.mc, .int .i64 K.x, .int .i64 K.y] 28) = w3 at bC HO b13 hsx ⊢
    have hs3 := b13.size
    have b03 := hb1.trans (b13.mono hs1)
    go_wp2_with fail
    refine (rParse_any w.heap.size A n c l w3 (hr.keep b03 (Nat.le_refl _)) b03.size).mono ?_
    rw [HZ.out]
    rintro e w4 ⟨D, rfl, hmD, d1, d2, d3, hb4⟩
    have hby := below_box w4 (.cells #[.int .u32 D.v, .int .u32 D.f, .int .i64 D.e, .int .i64 D.s, .int .i64 D.o, .int .i64 D.n, .int .i64 D.i, .int .i64 D.u, .slice D.fA D.fn D.fc, .slice D.sA D.sn D.sc, .slice D.mA D.mn D.mc, .int .i64 D.x, .int .i64 D.y] 28)
    have bD := Blk.new w4 28 [.int .u32 D.v, .int .u32 D.f, .int .i64 D.e, .int .i64 D.s, .int .i64 D.o, .int .i64 D.n, .int .i64 D.i, .int .i64 D.u, .slice D.fA D.fn D.fc, .slice D.sA D.sn D.sc, .slice D.mA D.mn D.mc, .int .i64 D.x, .int .i64 D.y]
    have b15 := b13.trans ((hb4.trans (hby.mono hb4.size)).mono hs3)
    have bC5 := (bC.keep hb4 bC.lt).keep hby (Nat.lt_of_lt_of_le bC.lt hb4.size)
    have HO5 := hide (And.intro HO.out.1 (And.intro (own_below2 (own_below2 HO.out.2.1 hb4) hby) (And.intro (own_below2 (own_below2 HO.out.2.2.1 hb4) hby) (own_below2 (own_below2 HO.out.2.2.2 hb4) hby))))
    have HD5 := hide (And.intro hmD (And.intro (own_below2 d1 hby) (And.intro (own_below2 d2 hby) (own_below2 d3 hby))))
    have qne : q1 < w4.heap.size := by have := bC.lt; have := hb4.size; omega
    have q34 : q1 < w3.heap.size := bC.lt
    clear d1 d2 d3 hb4 hmD hby HO bC b13 b03
    go_upto_region 6 with (fail)
    generalize w4.heap.size = q2 at bD qne ⊢
    generalize w4.alloc (.cells #[.int .u32 D.v, .int .u32 D.f, .int .i64 D.e, .int .i64 D.s, .int .i64 D.o, .int .i64 D.n, .int .i64 D.i, .int .i64 D.u, .slice D.fA D.fn D.fc, .slice D.sA D.sn D.sc, .slice D.mA D.mn D.mc, .int .i64 D.x, .int .i64 D.y] 28) = w5 at bC5 bD HO5 HD5 b15 ⊢
    have hs5 := b15.size
    have b05 := hb1.trans (b15.mono hs1)
    have hk5 := hk1.keep b15 (Nat.le_refl _)
    have hr5 := hr.keep b05 (Nat.le_refl _)
    have hKD := hide (And.intro (Held.own HO5.out.1 (par_wf l) HO5.out.2.1 HO5.out.2.2.1 HO5.out.2.2.2) (Held.own HD5.out.1 (par_wf l) HD5.out.2.1 HD5.out.2.2.1 HD5.out.2.2.2))
    have HM := hide (HO5.out.1.trans HD5.out.1.symm)
    obtain ⟨k0, k1, k2, k3, k4, k5, k6, k7, k8, k9, k10, k11, k12⟩ := cells13 bC5
    obtain ⟨z0, z1, z2, z3, z4, z5, z6, z7, z8, z9, z10, z11, z12⟩ := cells13 bD
    have lC := bC5.lt
    have lD := bD.lt
    go_wp2_with fail
    clear k0 k1 k2 k3 k4 k5 k6 k7 k8 k9 k10 k11 k12 z0 z1 z2 z3 z4 z5 z6 z7 z8 z9 z10 z11 z12 lC lD
    refine (Same11_any K D w5.heap.size w5.heap.size w5 hKD.out.1 hKD.out.2 (Nat.le_refl _) (Nat.le_refl _) HM.out).mono ?_
    rintro e w6 ⟨rfl, hb6⟩
    have bC6 := bC5.keep hb6 bC5.lt
    have bD6 := bD.keep hb6 bD.lt
    have b16 := b15.trans (hb6.mono hs5)
    have hk6 := hk1.keep b16 (Nat.le_refl _)
    have b06 := hb1.trans (b16.mono hs1)
    have hr6 := hr.keep b06 (Nat.le_refl _)
    have HO6 := hide (And.intro HO5.out.1 (own_below2 HO5.out.2.2.1 hb6))
    have HD6 := hide (And.intro HD5.out.1 (And.intro (own_below2 HD5.out.2.1 hb6) (And.intro (own_below2 HD5.out.2.2.1 hb6) (own_below2 HD5.out.2.2.2 hb6))))
    have hs6 := hb6.size
    clear hb6 bC5 bD HO5 HD5 hKD hk5 hr5 b15 b05
    go_wp2_with fail
    refine (Kept_any _ _ g _ n _ _ l _ hk6 hr6 (by omega)).mono ?_
    rintro e wq ⟨rfl, rfl⟩
    clear hk6 hr6
    obtain ⟨k0, k1, k2, k3, k4, k5, k6, k7, k8, k9, k10, k11, k12⟩ := cells13 bC6
    have lC := bC6.lt
    have hsn : K.sn ≤ 1099511627776 := by
      have h1 := ownI_len HO6.out.2
      have h2 := par_small l
      rw [← HO6.out.1] at h2
      have h3 : K.st.length ≤ 600 := h2
      omega
    go_wp2_with fail
    clear k0 k1 k2 k3 k4 k5 k6 k7 k8 k9 k10 k11 k12 lC
    refine (rSpoil_any _ _ _ _ _ w6 HO6.out.2 hsn).mono ?_
    rintro e w7 ⟨rfl, hg7⟩
    have hb7 : Below w1.heap.size w6 w7 := (Below.refl _ _).grown hg7 (Nat.le_trans hs5 hs6 |> Nat.le_trans (Nat.le_refl _)) fun k hk => (HO6.out.2.lt k hk).1
    have b17 := b16.trans hb7
    have hs7 := b17.size
    have hk7 := hk1.keep b17 (Nat.le_refl _)
    have b07 := hb1.trans (b17.mono hs1)
    have e1 := own_apart2 HD6.out.2.1 hg7 HL2.out (by omega)
    have e2 := own_apart2 HD6.out.2.2.1 hg7 HL2.out (by omega)
    have e3 := own_apart2 HD6.out.2.2.2 hg7 HL2.out (by omega)
    have hq2 : ∀ k, (Value.slice K.sA K.sn K.sc).ownBlock = some k → k ≠ q2 := fun k hk => by have := HL2.out k hk; omega
    have bD7 : Blk w7 q2 28 [.int .u32 D.v, .int .u32 D.f, .int .i64 D.e, .int .i64 D.s, .int .i64 D.o, .int .i64 D.n, .int .i64 D.i, .int .i64 D.u, .slice D.fA D.fn D.fc, .slice D.sA D.sn D.sc, .slice D.mA D.mn D.mc, .int .i64 D.x, .int .i64 D.y] := (hg7.block q2 bD6.lt (fun hk => hq2 q2 hk.symm rfl)).trans bD6
    have HD7 := hide (And.intro HD6.out.1 (And.intro e1 (And.intro e2 e3)))
    clear e1 e2 e3 hg7 hb7 HO6 HD6 b16 b06 bC6 bD6
    go_wp2_with fail
    refine (Parse_any w1.heap.size _ _ _ l w7 (hk7.lent HN.out) hs7).mono ?_
    rw [HZ.out]
    rintro e w8 ⟨E, rfl, hmE, f1, f2, f3, hb8⟩
    have hbz := below_box w8 (.cells #[.int .u32 E.v, .int .u32 E.f, .int .i64 E.e, .int .i64 E.s, .int .i64 E.o, .int .i64 E.n, .int .i64 E.i, .int .i64 E.u, .slice E.fA E.fn E.fc, .slice E.sA E.sn E.sc, .slice E.mA E.mn E.mc, .int .i64 E.x, .int .i64 E.y] 28)
    have bE := Blk.new w8 28 [.int .u32 E.v, .int .u32 E.f, .int .i64 E.e, .int .i64 E.s, .int .i64 E.o, .int .i64 E.n, .int .i64 E.i, .int .i64 E.u, .slice E.fA E.fn E.fc, .slice E.sA E.sn E.sc, .slice E.mA E.mn E.mc, .int .i64 E.x, .int .i64 E.y]
    have bD9 := (bD7.keep hb8 bD7.lt).keep hbz (Nat.lt_of_lt_of_le bD7.lt hb8.size)
    have hqE : q2 ≠ w8.heap.size := by have := bD7.lt; have := hb8.size; omega
    have b09 := b07.trans ((hb8.trans (hbz.mono hb8.size)).mono b07.size)
    have HE9 := hide (And.intro (Held.own hmE (par_wf l) (own_below2 f1 hbz) (own_below2 f2 hbz) (own_below2 f3 hbz)) (Held.own HD7.out.1 (par_wf l) (own_below2 (own_below2 HD7.out.2.1 hb8) hbz) (own_below2 (own_below2 HD7.out.2.2.1 hb8) hbz) (own_below2 (own_below2 HD7.out.2.2.2 hb8) hbz)))
    have HM2 := hide (hmE.trans HD7.out.1.symm)
    clear f1 f2 f3 hb8 hmE hbz HD7 bD7 b07 hk7 b17
    go_upto_region 9 with (fail)
    generalize w8.heap.size = q3 at bE hqE ⊢
    generalize w8.alloc (.cells #[.int .u32 E.v, .int .u32 E.f, .int .i64 E.e, .int .i64 E.s, .int .i64 E.o, .int .i64 E.n, .int .i64 E.i, .int .i64 E.u, .slice E.fA E.fn E.fc, .slice E.sA E.sn E.sc, .slice E.mA E.mn E.mc, .int .i64 E.x, .int .i64 E.y] 28) = w9 at bE bD9 HE9 b09 ⊢
    obtain ⟨k0, k1, k2, k3, k4, k5, k6, k7, k8, k9, k10, k11, k12⟩ := cells13 bE
    obtain ⟨z0, z1, z2, z3, z4, z5, z6, z7, z8, z9, z10, z11, z12⟩ := cells13 bD9
    have lC := bE.lt
    have lD := bD9.lt
    have HB9 := hide b09
    clear b09 bE bD9
    go_wp2_with fail
    clear k0 k1 k2 k3 k4 k5 k6 k7 k8 k9 k10 k11 k12 z0 z1 z2 z3 z4 z5 z6 z7 z8 z9 z10 z11 z12 lC lD
    refine (Same11_any E D w9.heap.size w9.heap.size w9 HE9.out.1 HE9.out.2 (Nat.le_refl _) (Nat.le_refl _) HM2.out).mono ?_
    rintro e w10 ⟨rfl, hb10⟩
    have HB10 := hide (HB9.out.trans (hb10.mono HB9.out.size))
    clear hb10
    go_wp2_with fail
    refine (known_any w10).mono ?_
    rintro e wk ⟨rfl, hbk⟩
    have HB11 := hide (HB10.out.trans (hbk.mono HB10.out.size))
    clear hbk
    go_wp2
    go_ret
    exact ⟨rfl, HB11.out⟩

end Go.Proofs.Ytdikiabjkmigdaa
