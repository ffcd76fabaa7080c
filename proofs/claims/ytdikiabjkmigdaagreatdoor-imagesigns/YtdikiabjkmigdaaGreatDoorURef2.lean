/-
  The reference's Check: its main walk.
-/
import Derived.Test.YtdikiabjkmigdaaGreatDoorURef
namespace Go.Proofs.YtdikiabjkmigdaaGreatDoor
open Go.RowKit
set_option maxHeartbeats 4000000

theorem set_same {d : List Int} {t : Nat} (h : t < d.length) : d.set t (gd d t) = d := by rw [gd_lt h]; exact List.set_getElem_self h
theorem deep_ini (n : Nat) : deepL (ini n) = 0 := by
  apply le_ext
  intro B
  rw [deepL_le]
  constructor
  · exact fun h => h.1
  · exact fun h => ⟨h, fun t _ => by rw [gd_ini]; split; exact h; split <;> omega⟩
theorem pre_right {f : Fr} {k : Nat} {o x z : Int} {d : List Int} (h : rgtE o x = z) (hz : z ≠ 0) : preE f k o x d = z := by unfold preE; rw [h, if_pos hz]
theorem pre_in {f : Fr} {k : Nat} {o x : Int} {d : List Int} (h : rgtE o x = 0) (hi : ¬ insd f o x) : preE f k o x d = 10 := by unfold preE; rw [h, if_neg (by omega), if_pos hi]
theorem pre_reach {f : Fr} {k : Nat} {o x : Int} {d : List Int} (h : rgtE o x = 0) (hi : insd f o x) (h3 : gd d k < 0) : preE f k o x d = 13 := by unfold preE; rw [h, if_neg (by omega), if_neg (fun hn => hn hi), if_pos h3]
theorem pre_stack {f : Fr} {k : Nat} {o x : Int} {d : List Int} (h : rgtE o x = 0) (hi : insd f o x) (h3 : ¬ gd d k < 0) (h4 : gd d k < tak o ∨ 16 < gd d k - tak o + giv o) : preE f k o x d = 12 := by unfold preE; rw [h, if_neg (by omega), if_neg (fun hn => hn hi), if_neg h3, if_pos h4]
theorem pre_jump {f : Fr} {k : Nat} {o x : Int} {d : List Int} (h : rgtE o x = 0) (hi : insd f o x) (h3 : ¬ gd d k < 0) (h4 : ¬ (gd d k < tak o ∨ 16 < gd d k - tak o + giv o)) (h5 : ∃ t ∈ tg o x k, d.length ≤ t) : preE f k o x d = 11 := by unfold preE; rw [h, if_neg (by omega), if_neg (fun hn => hn hi), if_neg h3, if_neg h4, if_pos h5]
theorem pre_fine {f : Fr} {k : Nat} {o x : Int} {d : List Int} (h : rgtE o x = 0) (hi : insd f o x) (h3 : ¬ gd d k < 0) (h4 : ¬ (gd d k < tak o ∨ 16 < gd d k - tak o + giv o)) (h5 : ¬ ∃ t ∈ tg o x k, d.length ≤ t) : preE f k o x d = 0 := by unfold preE; rw [h, if_neg (by omega), if_neg (fun hn => hn hi), if_neg h3, if_neg h4, if_neg h5]
theorem wrap_mid {n : Int} (h0 : -4611686018427387904 ≤ n) (h1 : n ≤ 4611686018427387904) : IntKind.i64.wrap n = n := by
  simp [IntKind.wrap, IntKind.signed, IntKind.bits]; omega
theorem calm_takes (y p : Int) (w : World) (H : Hid (tak y = p)) : Calls Tryz.prog 86 #[.int .i64 y] w fun e w' => e = .returned (.int .i64 p) ∧ w' = w := by
  rw [← H.out]; exact (rTakes_any y w).mono fun _ _ ⟨h, h'⟩ => ⟨h, h'.symm⟩
theorem rGives_q (y q : Int) (w : World) (H : Hid (giv y = q)) : Calls Tryz.prog 87 #[.int .i64 y] w fun e w' => e = .returned (.int .i64 q) ∧ w = w' := by
  rw [← H.out]; exact rGives_any y w
set_option maxRecDepth 100000 in
theorem rCheck_main (s1 s2 s3 s4 s5 : Int) (B : Nat) (A : Option Addr) (n c : Nat) (l : List (Int × Int)) (w : World) (hr : RowI w B A n c l) (hB : B ≤ w.heap.size) (hf : okF ⟨s1, s2, s3, s4, s5⟩) (h6 : n ≤ 600) :
    Calls Tryz.prog 54 #[.slice A n c, .agg #[.int .i64 s1, .int .i64 s2, .int .i64 s3, .int .i64 s4, .int .i64 s5]] w (Checked w (checkM ⟨s1, s2, s3, s4, s5⟩ l)) := by
  have HF := hide (frm_zero hf)
  have hd6 : decide ((600 : Int) < (n : Int)) = false := by simp; omega
  have HL := hide hr.len
  obtain ⟨i0, hi, hz0, hz1, hz2⟩ := info_int
  go_enter Tryz.func54, Tryz.ntmps54
  go_wp2_with fail
  have bR := Blk.at (w.alloc (.cells #[.int .i64 s1, .int .i64 s2, .int .i64 s3, .int .i64 s4, .int .i64 s5] 24)) 82 [.int .i64 0, .int .i64 0] (g := w.heap.size + 1) (by simp)
  have hb1 := ((Below.refl _ w).alloc (Nat.le_refl _) (.cells #[.int .i64 s1, .int .i64 s2, .int .i64 s3, .int .i64 s4, .int .i64 s5] 24)).alloc (by simp) (.cells #[.int .i64 0, .int .i64 0] 82)
  have bF := (Blk.new w 24 [.int .i64 s1, .int .i64 s2, .int .i64 s3, .int .i64 s4, .int .i64 s5]).alloc (.cells #[.int .i64 0, .int .i64 0] 82)
  generalize (w.alloc (.cells #[.int .i64 s1, .int .i64 s2, .int .i64 s3, .int .i64 s4, .int .i64 s5] 24)).alloc (.cells #[.int .i64 0, .int .i64 0] 82) = w1 at bR hb1 bF ⊢
  refine (rFrame_any ⟨s1, s2, s3, s4, s5⟩ w1).mono ?_
  rw [HF.out]
  rintro e w2 ⟨rfl, hb2⟩
  have bR2 := bR.keep hb2 bR.lt
  have hb02 := hb1.trans (hb2.mono hb1.size)
  have f0 := bR2.frozen 0
  have f1 := bR2.frozen 1
  have c0 := bR2.cell (j := 0) rfl
  have c1 := bR2.cell (j := 1) rfl
  have bF2 := bF.keep hb2 bF.lt
  have cf0 := bF2.cell (j := 0) rfl
  have cf1 := bF2.cell (j := 1) rfl
  have cf2 := bF2.cell (j := 2) rfl
  have cf3 := bF2.cell (j := 3) rfl
  have cf4 := bF2.cell (j := 4) rfl
  clear bR hb1 hb2 bF f0 f1 c0 c1 cf0 cf1 cf2 cf3 cf4
  go_wp2
  go_loopw [8, 9, 10] (fun s t i wr => ∃ (j : Nat) (A1 A2 : Option Addr) (c1 c2 : Nat), j ≤ n + 1 ∧ i = .int .i64 (j : Int) ∧ s = .slice A1 j c1 ∧ t = .slice A2 j c2 ∧ wr.ownsRow w2.heap.size 3 1 (.slice A1 j c1) j (csG (List.replicate j (-1))) ∧ wr.ownsRow w2.heap.size 3 1 (.slice A2 j c2) j (csG (List.replicate j 0)) ∧ Apt (.slice A1 j c1) (.slice A2 j c2) ∧ Below w2.heap.size w2 wr) (fun _ _ i _ => n + 1 - (intOf i).toNat)
  case atStart => exact ⟨0, none, none, 0, 0, Nat.zero_le _, rfl, rfl, rfl, World.ownsRow_nil _ _ _ _, World.ownsRow_nil _ _ _ _, (fun g h _ => by cases h), Below.refl _ _⟩
  case round =>
    obtain ⟨j, A1, A2, c1, c2, hj, rfl, rfl, rfl, ho1, ho2, hne, hb⟩ := hrel
    have hbs := hb.size
    by_cases hlt : j ≤ n
    · have hdj : decide ((j : Int) ≤ (n : Int)) = true := by simp; omega
      have HM1 := hide (rep_snoc j (-1))
      have HM2 := hide (rep_snoc j 0)
      go_wp2_with (first
        | (at_builtin; refine wpList_append_at rfl (.tmp 35) (.tmp 36) 86 rfl w2.heap.size 3 i0 _ 8 Tryz.underlying86 hi hz0 hz1 hz2 rfl _ _ _ rfl (ho1.alloc _) _ _ _ _ rfl rfl (cell_one _ _ _) (one_int _) (by unfold maxLen; omega) (by omega) (by simp; omega) (by omega) ?_; intro g3 c3 w3 ho3 hg3 hat3; have p3 := hne.next (n := j + 1) (c := c3) (ho2.alloc _) hat3; have ho23 := (ho2.alloc _).kept hg3 hne.symm.or; have hb3 := (hb.alloc hbs _).grown hg3 (by simp; omega) (fun k hk => (ho1.lt k hk).1); have hbs3 := hb3.size; rw [HM1.out] at ho3; clear hg3 hat3)
        | (at_builtin; refine wpList_append_at rfl (.tmp 38) (.tmp 39) 86 rfl w2.heap.size 3 i0 _ 8 Tryz.underlying86 hi hz0 hz1 hz2 rfl _ _ _ rfl (ho23.alloc _) _ _ _ _ rfl rfl (cell_one _ _ _) (one_int _) (by unfold maxLen; omega) (by omega) (by simp; omega) (by omega) ?_; intro g4 c4 w4 ho4 hg4 hat4; have p4 := p3.symm.next (n := j + 1) (c := c4) (ho3.alloc _) hat4; have ho34 := (ho3.alloc _).kept hg4 p3.or; have hb4 := (hb3.alloc hbs3 _).grown hg4 (by simp; omega) (fun k hk => (ho23.lt k hk).1); rw [HM2.out] at ho4; clear hg4 hat4))
      go_roundw
      case rel => exact ⟨j + 1, _, _, c3, c4, by omega, by go_num, rfl, rfl, ho34, ho4, p4.symm, hb4⟩
      case measure => simp [intOf]; omega
    · obtain rfl : j = n + 1 := by omega
      obtain ⟨g, rfl⟩ := own_some ho1 (by omega)
      obtain ⟨h, rfl⟩ := own_some ho2 (by omega)
      have hgh : g ≠ h := fun e => hne g rfl (by rw [e]; rfl)
      have hs2 := hb02.size
      have hRl := bR2.lt
      have hglt := ho1.lt g rfl
      have hhlt := ho2.lt h rfl
      clear hlt hj
      have T0 : TF w s1 s2 s3 s4 s5 g h n c1 c2 (List.replicate (n + 1) (-1)) (List.replicate (n + 1) 0) wr :=
        ⟨bF2.keep hb bF2.lt, bR2.keep hb bR2.lt, hgh, by omega, own_base (by omega) ho1, own_base (by omega) ho2, hb02.trans (hb.mono hs2)⟩
      have T1 := T0.setD 0 0
      rw [show (List.replicate (n + 1) (-1)).set 0 0 = ini n from rfl, show List.replicate (n + 1) (0 : Int) = zer n from rfl] at T1
      have ch0 := ho1.cellAt 0 (by simp)
      have fh0 := ho1.frozenAt 0
      rw [show (csG (List.replicate (n + 1) (-1)))[0]? = some (.int .i64 (-1)) from rfl] at ch0
      have hgl : g < wr.heap.size := hglt.2
      clear ho1 ho2 hne T0 bF2 bR2 hb hb02 hglt hhlt
      go_wp2
      generalize wr.setCell ⟨g, 0, none⟩ (.int .i64 0) = w4 at T1 ⊢
      clear ch0 fh0 hgl hbs
      generalize ((n + 1 : Nat) : Int) = nn
      go_loopw [11, 12] (fun m i wr => ∃ (k : Nat) (d gs : List Int), k ≤ n ∧ i = .int .i64 (k : Int) ∧ m = .int .i64 (deepL d) ∧ TF w s1 s2 s3 s4 s5 g h n c1 c2 d gs wr ∧ Hid (runM ⟨s1, s2, s3, s4, s5⟩ l 0 (ini n) (zer n) = runM ⟨s1, s2, s3, s4, s5⟩ (l.drop k) k d gs ∧ Inv ⟨s1, s2, s3, s4, s5⟩ l k d gs)) (fun _ i _ => n - (intOf i).toNat)
      case atStart => exact ⟨0, _, _, Nat.zero_le _, rfl, by rw [deep_ini], T1, hide ⟨rfl, by have := inv_ini ⟨s1, s2, s3, s4, s5⟩ l; rwa [HL.out] at this⟩⟩
      case round =>
        clear T1
        obtain ⟨k, d, gs, hk, rfl, rfl, T, HQ⟩ := hrel
        obtain ⟨top, htop⟩ : ∃ top, deepL d = top := ⟨_, rfl⟩
        rw [htop]
        have HT := hide htop
        clear htop
        by_cases hlt : k < n
        · obtain ⟨b, o, y, x, rfl, hbB, hu, hc0, hc1, hx⟩ := (hr.keep T.bl hB).get hlt
          have HU := hide hu
          clear hu
          go_wp2_with fail
          have T2 := T.alloc (.cells #[.int .i64 y, .int .i32 x] 56)
          have b13 := Blk.new wr 56 [.int .i64 y, .int .i32 x]
          generalize hq : wr.heap.size = q13 at b13 ⊢
          generalize wr.alloc (.cells #[.int .i64 y, .int .i32 x] 56) = w5 at T2 b13 ⊢
          have HQ13 := hide (show w.heap.size + 2 ≤ q13 by have := T.d.lt g rfl; have := T.hg; omega)
          clear T hc0 hc1 hq
          refine (irRight_any y x w5).mono ?_
          rintro e w6 ⟨rfl, hb6⟩
          have T3 := T2.keep hb6
          have b13' := b13.keep hb6 b13.lt
          clear hb6 T2 b13
          obtain ⟨z, hz⟩ : ∃ z, rgtE y x = z := ⟨_, rfl⟩
          rw [hz]
          have HZ := hide hz
          clear hz
          by_cases h0 : z = 0
          · subst h0
            have c130 := b13'.cell (j := 0) rfl
            have c131 := b13'.cell (j := 1) rfl
            have cf0 := T3.bF.cell (j := 0) rfl
            have cf1 := T3.bF.cell (j := 1) rfl
            have cf2 := T3.bF.cell (j := 2) rfl
            have cf3 := T3.bF.cell (j := 3) rfl
            have cf4 := T3.bF.cell (j := 4) rfl
            go_wp2_with fail
            refine (rRoom_any y s1 s2 s3 s4 s5 w6).mono ?_
            rintro e w7 ⟨rfl, hb7⟩
            have T4 := T3.keep hb7
            have b14 := b13'.keep hb7 b13'.lt
            clear hb7 T3 b13' c130 c131 cf0 cf1 cf2 cf3 cf4
            have c130 := b14.cell (j := 0) rfl
            have c131 := b14.cell (j := 1) rfl
            obtain ⟨rm, hrm⟩ : ∃ rm, roomV ⟨s1, s2, s3, s4, s5⟩ y = rm := ⟨_, rfl⟩
            rw [hrm]
            have HRM := hide hrm
            clear hrm
            by_cases hin : 0 ≤ rm ∧ rm ≤ x
            · have HE := hide (check_run (l := l) hf (by have := HL.out; omega) (e := 10) (k := k) (d := d) (g := gs) (by have hs := stepM_pre (pre_in (f := ⟨s1, s2, s3, s4, s5⟩) (k := k) (d := d) (o := y) (x := x) HZ.out (by unfold insd; rw [HRM.out]; omega)) (by omega) (gs := gs); rw [HL.out, HQ.out.1, run_bad HU.out (by rw [hs]; omega), hs]) (by omega))
              have hi1 := hin.1
              have hi2 := hin.2
              have f0 := T4.bR.frozen 0
              have f1 := T4.bR.frozen 1
              have c0 := T4.bR.cell (j := 0) rfl
              have c1 := T4.bR.cell (j := 1) rfl
              clear hin
              go_wp2
              exact ret_repR (g := w.heap.size + 1) rfl rfl rfl rfl ((T4.bR.set 0 (.int .i64 0)).set 1 (.int .i64 0)) rfl HE.out (below_set (below_set T4.bl (by omega) _) (by omega) _)
            · have HIN := hide (show insd ⟨s1, s2, s3, s4, s5⟩ y x by unfold insd; rw [HRM.out]; omega)
              obtain ⟨dk, hdk⟩ : ∃ dk, gd d k = dk := ⟨_, rfl⟩
              have hd16 := inv_hi HQ.out.2 k
              have hdlo := HQ.out.2.lo k
              have cd := T4.d.cellAt k (by rw [Nat.mul_one]; omega)
              rw [csG_at (by have h1 := HQ.out.2.ld; have h2 := HL.out; omega)] at cd
              rw [hdk] at cd hd16 hdlo
              have HDK := hide hdk
              clear hdk
              have hk1 : k < n + 1 := by omega
              by_cases h3 : dk < 0
              · have HE := hide (check_run (l := l) hf (by have := HL.out; omega) (e := 13) (k := k) (d := d) (g := gs) (by have hs := stepM_pre (pre_reach (f := ⟨s1, s2, s3, s4, s5⟩) (k := k) (d := d) (o := y) (x := x) HZ.out HIN.out (by rw [HDK.out]; exact h3)) (by omega) (gs := gs); rw [HL.out, HQ.out.1, run_bad HU.out (by rw [hs]; omega), hs]) (by omega))
                have f0 := T4.bR.frozen 0
                have f1 := T4.bR.frozen 1
                have c0 := T4.bR.cell (j := 0) rfl
                have c1 := T4.bR.cell (j := 1) rfl
                rcases (show rm < 0 ∨ (0 ≤ rm ∧ x < rm) by omega) with hr1 | ⟨hr1, hr2⟩
                all_goals
                  clear hin
                  go_wp2
                  exact ret_repR (g := w.heap.size + 1) rfl rfl rfl rfl ((T4.bR.set 0 (.int .i64 0)).set 1 (.int .i64 0)) rfl HE.out (below_set (below_set T4.bl (by omega) _) (by omega) _)
              · obtain ⟨pp, hpp⟩ : ∃ pp, tak y = pp := ⟨_, rfl⟩
                obtain ⟨qq, hqq⟩ : ∃ qq, giv y = qq := ⟨_, rfl⟩
                have hpr := tak_range y
                have hqr := giv_range y
                rw [hpp] at hpr
                rw [hqq] at hqr
                have HP := hide hpp
                have HG := hide hqq
                clear hpp hqq
                have hwr : IntKind.i64.wrap (dk - pp) = dk - pp := wrap_mid (by omega) (by omega)
                rcases (show rm < 0 ∨ (0 ≤ rm ∧ x < rm) by omega) with hr1 | ⟨hr1, hr2⟩
                all_goals
                  clear hin
                  go_wp2_with fail
                  go_quiet ((go_at_call 86; exact Calls.quiet_of_same (calm_takes y pp _ HP)))
                  clear hwr
                  have T5 := T4.drewN nq
                  have b15 := b14.drewN nq
                  generalize w7.drewN nq = w8 at T5 b15 ⊢
                  have c130 := b15.cell (j := 0) rfl
                  have c131 := b15.cell (j := 1) rfl
                  by_cases h4 : dk < pp ∨ 16 < dk - pp + qq
                  · have HE := hide (check_run (l := l) hf (by have := HL.out; omega) (e := 12) (k := k) (d := d) (g := gs) (by have hs := stepM_pre (pre_stack (f := ⟨s1, s2, s3, s4, s5⟩) (k := k) (d := d) (o := y) (x := x) HZ.out HIN.out (by rw [HDK.out]; omega) (by rw [HDK.out, HP.out, HG.out]; exact h4)) (by omega) (gs := gs); rw [HL.out, HQ.out.1, run_bad HU.out (by rw [hs]; omega), hs]) (by omega))
                    have f0 := T5.bR.frozen 0
                    have f1 := T5.bR.frozen 1
                    have c0 := T5.bR.cell (j := 0) rfl
                    have c1 := T5.bR.cell (j := 1) rfl
                    rcases (show dk - pp < 0 ∨ (¬ dk - pp < 0 ∧ 16 < dk - pp + qq) by omega) with h5 | ⟨h5, h6'⟩
                    all_goals
                      clear h4
                      go_wp2_with (go_at_call 87; refine (rGives_q y qq _ HG).mono ?_; rintro e w9 ⟨rfl, rfl⟩)
                      exact ret_repR (g := w.heap.size + 1) rfl rfl rfl rfl ((T5.bR.set 0 (.int .i64 0)).set 1 (.int .i64 0)) rfl HE.out (below_set (below_set T5.bl (by omega) _) (by omega) _)
                  · have h5 : ¬ dk - pp < 0 := by omega
                    have h6' : dk - pp + qq ≤ 16 := by omega
                    have H4 := hide h4
                    clear h4
                    go_wp2_with fail
                    refine (rGives_q y qq _ HG).mono ?_
                    rintro e w9 ⟨rfl, rfl⟩
                    go_wp2_with fail
                    refine (rGives_q y qq _ HG).mono ?_
                    rintro e w9 ⟨rfl, rfl⟩
                    go_wp2_with fail
                    refine (rWays_any y x k w8 (by omega) hx (rgt_jump HZ.out)).mono ?_
                    obtain ⟨ts, hts⟩ : ∃ ts, tg y x k = ts := ⟨_, rfl⟩
                    rw [hts]
                    rintro e w9 ⟨qt, rfl, hqt, bt, hb9⟩
                    have T6 := T5.keep hb9
                    have HTS := hide hts
                    have HSZ := hide (And.intro (T5.d.lt g rfl).2 (T5.f.lt h rfl).2)
                    clear hts T5 b15 c130 c131 hb9
                    generalize hv : dk - pp + qq = v at ⊢
                    have HV := hide hv
                    clear hv
                    have hv0 : 0 ≤ v ∧ v ≤ 16 := by have := HV.out; omega
                    obtain ⟨fk, hfk⟩ : ∃ fk, gd gs k = fk := ⟨_, rfl⟩
                    have hfk0 := HQ.out.2.go k
                    have hfk1 := inv_gle HQ.out.2 k
                    rw [hfk] at hfk0 hfk1
                    have HFK := hide hfk
                    have HPF := hide (show (∀ t ∈ ts, t ≤ n) → preE ⟨s1, s2, s3, s4, s5⟩ k y x d = 0 from fun h => pre_fine HZ.out HIN.out (by rw [HDK.out]; omega) (by rw [HDK.out, HP.out, HG.out]; exact H4.out) (by rw [HTS.out]; rintro ⟨t, ht, hle⟩; have := h t ht; have h1 := HQ.out.2.ld; have h2 := HL.out; omega))
                    have hts2 : ts.length ≤ 2 := by have h1 := (tg_len y x k).2; rwa [HTS.out] at h1
                    clear hfk hpr hqr hd16 hdlo h5 h6' cd
                    go_wp2
                    go_loop [18] (fun i => ∃ j : Nat, j ≤ ts.length ∧ i = .int .i64 (j : Int) ∧ Hid (∀ t ∈ ts.take j, t ≤ n)) (fun i => ts.length - (intOf i).toNat)
                    case atStart => exact ⟨0, Nat.zero_le _, rfl, hide (by simp)⟩
                    case round =>
                      obtain ⟨j, hj, rfl, HJ⟩ := hrel
                      by_cases hlt2 : j < ts.length
                      · have ct := bt.cell (csN_at hlt2)
                        obtain ⟨t, ht⟩ : ∃ t, ts[j] = t := ⟨_, rfl⟩
                        rw [ht] at ct
                        have HTJ := hide ht
                        by_cases hbig : n < t
                        · have HE := hide (check_run (l := l) hf (by have := HL.out; omega) (e := 11) (k := k) (d := d) (g := gs) (by have hs := stepM_pre (pre_jump (f := ⟨s1, s2, s3, s4, s5⟩) (k := k) (d := d) (o := y) (x := x) HZ.out HIN.out (by rw [HDK.out]; omega) (by rw [HDK.out, HP.out, HG.out]; exact H4.out) ⟨t, by rw [HTS.out, ← ht]; exact List.getElem_mem hlt2, by have h1 := HQ.out.2.ld; have h2 := HL.out; omega⟩) (by omega) (gs := gs); rw [HL.out, HQ.out.1, run_bad HU.out (by rw [hs]; omega), hs]) (by omega))
                          have f0 := T6.bR.frozen 0
                          have f1 := T6.bR.frozen 1
                          have c0 := T6.bR.cell (j := 0) rfl
                          have c1 := T6.bR.cell (j := 1) rfl
                          clear ht
                          go_wp2
                          exact ret_repR (g := w.heap.size + 1) rfl rfl rfl rfl ((T6.bR.set 0 (.int .i64 0)).set 1 (.int .i64 0)) rfl HE.out (below_set (below_set T6.bl (by omega) _) (by omega) _)
                        · have HJ2 := hide (show ∀ u ∈ ts.take (j + 1), u ≤ n by
                            rw [List.take_succ_eq_append_getElem hlt2, ht]
                            intro u hu
                            rcases List.mem_append.1 hu with h | h
                            · exact HJ.out u h
                            · rw [List.mem_singleton] at h; omega)
                          clear ht
                          go_wp2
                          go_round
                          case rel => exact ⟨j + 1, by omega, by go_num, HJ2⟩
                          case measure => simp [intOf]; omega
                      · obtain rfl : j = ts.length := by omega
                        have HALL := hide (show ∀ t ∈ ts, k < t ∧ t ≤ n from fun t ht => ⟨by have := HTS.out; subst this; exact tg_gt ht, by have := HJ.out; rw [List.take_length] at this; exact this t ht⟩)
                        clear hlt2 hj
                        go_wp2
                        have hTg := T6.hg
                        have hql : w.heap.size + 2 ≤ qt ∧ g < qt ∧ h < qt := by have h1 := HSZ.out; omega
                        go_loopw [19] (fun i wr => ∃ (j : Nat) (d' gs' : List Int), j ≤ ts.length ∧ i = .int .i64 (j : Int) ∧ TF w s1 s2 s3 s4 s5 g h n c1 c2 d' gs' wr ∧ Blk wr qt 3 (csN ts) ∧ Hid (putM v (fk + 1) ts d gs = putM v (fk + 1) (ts.drop j) d' gs' ∧ d'.length = n + 1 ∧ gs'.length = n + 1 ∧ gd gs' k = fk)) (fun i _ => ts.length - (intOf i).toNat)
                        case atStart => exact ⟨0, d, gs, Nat.zero_le _, rfl, T6, bt, hide ⟨rfl, by have h1 := HQ.out.2.ld; have h2 := HL.out; omega, by have h1 := HQ.out.2.lg; have h2 := HL.out; omega, HFK.out⟩⟩
                        case round =>
                          clear T6 bt
                          obtain ⟨j, d', gs', hj, rfl, T, bt, HB⟩ := hrel
                          by_cases hlt2 : j < ts.length
                          · have ct := bt.cell (csN_at hlt2)
                            obtain ⟨t, ht⟩ : ∃ t, ts[j] = t := ⟨_, rfl⟩
                            rw [ht] at ct
                            have HDR := hide (show ts.drop j = t :: ts.drop (j + 1) by rw [List.drop_eq_getElem_cons hlt2, ht])
                            have HTK := hide (show k < t ∧ t ≤ n by have := HALL.out ts[j] (List.getElem_mem hlt2); rwa [ht] at this)
                            clear ht
                            have ht1 : t < n + 1 := by have := HTK.out; omega
                            have ht2 : (t : Int) < (n : Int) + 1 := by omega
                            have hk2 : (k : Int) < (n : Int) + 1 := by omega
                            obtain ⟨dt, hdt⟩ : ∃ dt, gd d' t = dt := ⟨_, rfl⟩
                            have cd := T.d.cellAt t (by rw [Nat.mul_one]; omega)
                            rw [csG_at (by have := HB.out; omega), hdt] at cd
                            have HDT := hide hdt
                            clear hdt
                            by_cases hbad : 0 ≤ dt ∧ dt ≠ v
                            · have HE2 := hide (show (stepM ⟨s1, s2, s3, s4, s5⟩ k y x d gs).1 = 12 from stepM_none (HPF.out fun t ht => (HALL.out t ht).2) (by rw [HDK.out, HP.out, HG.out, HFK.out, HTS.out, HV.out, HB.out.1, HDR.out]; exact putM_bad (by rw [HDT.out]; exact hbad)))
                              have HE := hide (check_run (l := l) hf (by have := HL.out; omega) (e := 12) (k := k) (d := d) (g := gs) (by rw [HL.out, HQ.out.1, run_bad HU.out (by rw [HE2.out]; omega), HE2.out]) (by omega))
                              have hb1 := hbad.1
                              have e2 : (dt != v) = true := by simpa using hbad.2
                              have f0 := T.bR.frozen 0
                              have f1 := T.bR.frozen 1
                              have c0 := T.bR.cell (j := 0) rfl
                              have c1 := T.bR.cell (j := 1) rfl
                              clear hbad
                              go_wp2
                              exact ret_repR (g := w.heap.size + 1) rfl rfl rfl rfl ((T.bR.set 0 (.int .i64 0)).set 1 (.int .i64 0)) rfl HE.out (below_set (below_set T.bl (by omega) _) (by omega) _)
                            · have HPG := hide (putM_go (v := v) (m := fk + 1) (t := t) (ts := ts.drop (j + 1)) (d := d') (g := gs') (by rw [HDT.out]; exact hbad))
                              have fz := T.d.frozenAt t
                              have hgl := (T.d.lt g rfl).2
                              have T7 := T.setD t v
                              have bt7 := bt.other (h := g) (by omega) t (.int .i64 v)
                              have cft := T7.f.cellAt t (by rw [Nat.mul_one]; omega)
                              have cfk := T7.f.cellAt k (by rw [Nat.mul_one]; omega)
                              rw [csG_at (by have := HB.out; omega)] at cft
                              rw [csG_at (by have := HB.out; omega), HB.out.2.2.2] at cfk
                              obtain ⟨ft, hft⟩ : ∃ ft, gd gs' t = ft := ⟨_, rfl⟩
                              rw [hft] at cft HPG
                              have HFT := hide hft
                              clear hft
                              have fzf := T7.f.frozenAt t
                              have hwr : IntKind.i64.wrap (fk + 1) = fk + 1 := wrap_mid (by omega) (by omega)
                              have hcs : dt < 0 ∨ (0 ≤ dt ∧ (dt != v) = false) := by
                                by_cases h : dt < 0
                                · exact .inl h
                                · exact .inr ⟨by omega, by simp; omega⟩
                              rcases hcs with hc1 | ⟨hc1, hc2⟩
                              all_goals
                                clear hbad
                                go_wp2_with fail
                                generalize wr.setCell ⟨g, t, none⟩ (.int .i64 v) = w10 at T7 bt7 cft cfk fzf ⊢
                                clear cd fz T bt ct hgl
                                go_quiet (fail)
                                clear hwr
                                have T8 := T7.drewN nq
                                have bt8 := bt7.drewN nq
                                generalize w10.drewN nq = w11 at T8 bt8 ⊢
                                clear T7 bt7 cft cfk fzf
                                have cfk := T8.f.cellAt k (by rw [Nat.mul_one]; omega)
                                rw [csG_at (by have := HB.out; omega), HB.out.2.2.2] at cfk
                                have fzf := T8.f.frozenAt t
                                have cft := T8.f.cellAt t (by rw [Nat.mul_one]; omega)
                                rw [csG_at (by have := HB.out; omega)] at cft
                                by_cases hmore : ft < fk + 1
                                · have HMX := hide (show max ft (fk + 1) = fk + 1 by omega)
                                  go_wp2
                                  go_roundw
                                  case rel => exact ⟨j + 1, _, _, by omega, by go_num, T8.setF t (fk + 1), bt8.other (by omega) _ _, hide ⟨HB.out.1.trans (by rw [HDR.out, HPG.out, HMX.out]), by rw [List.length_set]; exact HB.out.2.1, by rw [List.length_set]; exact HB.out.2.2.1, by rw [gd_set (by have := HB.out; omega), if_neg (by have := HTK.out; omega)]; exact HB.out.2.2.2⟩⟩
                                  case measure => simp [intOf]; omega
                                · have HMX := hide (show gs'.set t (max ft (fk + 1)) = gs' by rw [show max ft (fk + 1) = gd gs' t by have := HFT.out; omega]; exact set_same (by have := HB.out; omega))
                                  go_wp2
                                  go_roundw
                                  case rel => exact ⟨j + 1, _, _, by omega, by go_num, T8, bt8, hide ⟨HB.out.1.trans (by rw [HDR.out, HPG.out, HMX.out]), by rw [List.length_set]; exact HB.out.2.1, HB.out.2.2.1, HB.out.2.2.2⟩⟩
                                  case measure => simp [intOf]; omega
                          · obtain rfl : j = ts.length := by omega
                            have HS := hide (show stepM ⟨s1, s2, s3, s4, s5⟩ k y x d gs = (0, d', gs') from stepM_some (HPF.out fun t ht => (HALL.out t ht).2) (by rw [HDK.out, HP.out, HG.out, HFK.out, HTS.out, HV.out, HB.out.1, List.drop_length]; rfl))
                            have HS0 := hide (show (stepM ⟨s1, s2, s3, s4, s5⟩ k y x d gs).1 = 0 by rw [HS.out])
                            have HRN := hide (show runM ⟨s1, s2, s3, s4, s5⟩ l 0 (ini n) (zer n) = runM ⟨s1, s2, s3, s4, s5⟩ (l.drop (k + 1)) (k + 1) d' gs' ∧ Inv ⟨s1, s2, s3, s4, s5⟩ l (k + 1) d' gs' by
                              have h1 := run_go HU.out HS0.out
                              have h2 := inv_go HQ.out.2 HU.out HS0.out
                              rw [HS.out] at h1 h2
                              exact ⟨HQ.out.1.trans h1, h2⟩)
                            have HDP := hide (show deepL d' = max top v by
                              have hp := (stepM_zero HS0.out).2
                              rw [HS.out] at hp
                              have h1 := HQ.out.2.ld
                              have h2 := HQ.out.2.lg
                              have h3 := HL.out
                              have := deepL_put hp (by rw [HTS.out]; intro t ht; have := HALL.out t ht; omega) (by omega) (tg_one y x k)
                              rw [this, HT.out, HDK.out, HP.out, HG.out, HV.out])
                            by_cases hmore : top < v
                            · go_wp2
                              go_roundw
                              case rel => exact ⟨k + 1, d', gs', by omega, by go_num, by rw [HDP.out, show max top v = v by omega], T, HRN⟩
                              case measure => simp [intOf]; omega
                            · go_wp2
                              go_roundw
                              case rel => exact ⟨k + 1, d', gs', by omega, by go_num, by rw [HDP.out, show max top v = top by omega], T, HRN⟩
                              case measure => simp [intOf]; omega
          · have h0' : (z != 0) = true := by simpa using h0
            have HE := hide (check_run (l := l) hf (by have := HL.out; omega) (e := z) (k := k) (d := d) (g := gs) (by rw [HL.out, HQ.out.1, run_bad HU.out] <;> rw [stepM_pre (pre_right HZ.out h0) h0]; exact h0) h0)
            have f0 := T3.bR.frozen 0
            have f1 := T3.bR.frozen 1
            have c0 := T3.bR.cell (j := 0) rfl
            have c1 := T3.bR.cell (j := 1) rfl
            clear h0
            go_wp2
            exact ret_repR (g := w.heap.size + 1) rfl rfl rfl rfl ((T3.bR.set 0 (.int .i64 0)).set 1 (.int .i64 0)) rfl HE.out (below_set (below_set T3.bl (by omega) _) (by omega) _)
        · obtain rfl : n = k := by omega
          have hend := inv_end (l := l) (by have := HQ.out.2; rwa [← HL.out] at this)
          rw [HL.out] at hend
          obtain ⟨dn, hdn⟩ : ∃ dn, gd d n = dn := ⟨_, rfl⟩
          obtain ⟨gn, hgn⟩ : ∃ gn, gd gs n = gn := ⟨_, rfl⟩
          have cd := T.d.cellAt n (by rw [Nat.mul_one]; omega)
          rw [csG_at (by have h1 := HQ.out.2.ld; have h2 := HL.out; omega), hdn] at cd
          have cf := T.f.cellAt n (by rw [Nat.mul_one]; omega)
          rw [csG_at (by have h1 := HQ.out.2.lg; have h2 := HL.out; omega), hgn] at cf
          have HRN := hide (show runM ⟨s1, s2, s3, s4, s5⟩ l 0 (ini n) (zer n) = (0, n, d, gs) by rw [HQ.out.1]; have := HL.out; rw [show l.drop n = [] by rw [← this, List.drop_length]]; rfl)
          have f0 := T.bR.frozen 0
          have f1 := T.bR.frozen 1
          have c0 := T.bR.cell (j := 0) rfl
          have c1 := T.bR.cell (j := 1) rfl
          have hnn : (n : Int) < (n : Int) + 1 := by omega
          have hnl : n < n + 1 := by omega
          by_cases h0 : dn = 0
          · subst h0
            have HE := hide (check_fine (l := l) hf (by have := HL.out; omega) (by rw [HL.out]; exact HRN.out) (by rw [HL.out]; exact hdn))
            rw [HL.out, hgn, HT.out] at HE
            clear hdn hgn hlt hend
            go_wp2
            exact ret_repR (g := w.heap.size + 1) rfl rfl rfl rfl ((T.bR.set 0 (.int .i64 top)).set 1 (.int .i64 gn)) rfl HE.out (below_set (below_set T.bl (by omega) _) (by omega) _)
          · have HE := hide (check_deep (l := l) hf (by have := HL.out; omega) (by rw [HL.out]; exact HRN.out) (by rw [HL.out, hdn]; exact h0))
            rw [HL.out] at HE
            have h0' : (dn != 0) = true := by simpa using h0
            clear hdn hgn h0 hlt hend
            go_wp2
            exact ret_repR (g := w.heap.size + 1) rfl rfl rfl rfl ((T.bR.set 0 (.int .i64 0)).set 1 (.int .i64 0)) rfl HE.out (below_set (below_set T.bl (by omega) _) (by omega) _)
theorem rCheck_any (f : Fr) (B : Nat) (A : Option Addr) (n c : Nat) (l : List (Int × Int)) (w : World) (hr : RowI w B A n c l) (hB : B ≤ w.heap.size) :
    Calls Tryz.prog 54 #[.slice A n c, .agg #[.int .i64 f.s, .int .i64 f.o, .int .i64 f.n, .int .i64 f.i, .int .i64 f.u]] w (Checked w (checkM f l)) := by
  by_cases hf : okF f
  · by_cases h6 : 600 < n
    · exact rCheck_big f.s f.o f.n f.i f.u A n c l w hf hr.len h6
    · exact rCheck_main f.s f.o f.n f.i f.u B A n c l w hr hB hf (by omega)
  · exact rCheck_bad f.s f.o f.n f.i f.u A n c l w hf
end Go.Proofs.YtdikiabjkmigdaaGreatDoor
