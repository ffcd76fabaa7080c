/-
  The walk of VmRuns.
-/
import Derived.Test.YtmjelcoljmefeaaVLent
namespace Go.Proofs.Ytmjelcoljmefeaa
open Go.RowKit
set_option maxRecDepth 20000
set_option maxHeartbeats 2000000

theorem runs_dark (K : CD) (w : World) (H : Hid (lightB K = false)) :
    Calls Try.prog 3 #[.agg #[.slice K.A K.n K.c, .int .i64 K.f.s, .int .i64 K.f.o, .int .i64 K.f.n, .int .i64 K.f.i, .int .i64 K.f.u, .slice K.oA K.no K.oc, .slice K.fA K.nf K.fc, .slice K.iA K.ni K.ic, .int .i64 K.fu]] w (TrueP w) := by
  go_enter Try.func3, Try.ntmps3
  go_wp2_with fail
  refine (light_b K false _ H).mono ?_
  rintro e w1 ⟨rfl, hb1⟩
  go_wp2_with fail
  refine (known_any w1).mono ?_
  rintro e w2 ⟨rfl, hb2⟩
  go_wp2
  go_ret
  exact ⟨rfl, (((Below.refl _ w).alloc (Nat.le_refl _) _).trans (hb1.mono (by simp))).trans (hb2.mono (by have := hb1.size; simp at this; omega))⟩
/-- What stands while x's cells are written: x's variable g, its cells' own row above the world wb. -/
structure TW (wb : World) (g n c n' c' : Nat) (A A' : Option Addr) (us : Int) (zs : List Int) (w : World) : Prop where
  b : Blk w g 33 [.slice A n c, .slice A' n' c', .int .i64 us]
  r1 : w.ownsRow wb.heap.size 21 1 (.slice A n c) n (c32 zs)
  bl : Below wb.heap.size wb w
  l1 : ∀ k, (Value.slice A n c).ownBlock = some k → k < g
theorem TW.set1 {wb w : World} {g n c n' c' k : Nat} {A' : Option Addr} {us : Int} {zs : List Int} (t : TW wb g n c n' c' (some ⟨k, 0, none⟩) A' us zs w) (j : Nat) (v : Int) : TW wb g n c n' c' (some ⟨k, 0, none⟩) A' us (zs.set j v) (w.setCell ⟨k, j, none⟩ (.int .i32 v)) := by
  have h2 := t.l1 k rfl
  have hst := (t.r1.stored j (.int .i32 v)).1
  have hk := (t.r1.lt k rfl).1
  rw [c32_set] at hst
  exact ⟨t.b.other (by omega) j _, hst, below_set t.bl hk _, t.l1⟩
theorem runs_walk (K : CD) (B : Nat) (l : List (Int × Int)) (old first ins : List Int) (w : World) (h : CR w B K l old first ins) (hB : B ≤ w.heap.size) (H : Hid (lightB K = true)) :
    Calls Try.prog 3 #[.agg #[.slice K.A K.n K.c, .int .i64 K.f.s, .int .i64 K.f.o, .int .i64 K.f.n, .int .i64 K.f.i, .int .i64 K.f.u, .slice K.oA K.no K.oc, .slice K.fA K.nf K.fc, .slice K.iA K.ni K.ic, .int .i64 K.fu]] w (TrueP w) := by
  obtain ⟨er, ce, ou, us, hV⟩ : ∃ er ce ou us, vmV K.f l old first ins K.fu = (er, ce, ou, us) := ⟨_, _, _, _, rfl⟩
  have T0 := hide (TCs.start h hB)
  have hl := h.lens
  have HLI := hide (show K.no ≤ 100 ∧ K.ni ≤ 100 ∧ K.nf ≤ 100 ∧ K.n ≤ 2000 by have := H.out; unfold lightB at this; simp at this; omega)
  have HV := hide hV
  have HL := hide hl
  have HRN := hide (And.intro h.ro (And.intro h.rf (And.intro h.ri h.cl.oks)))
  clear hV h hl
  go_enter Try.func3, Try.ntmps3
  go_wp2_with fail
  generalize w.alloc (.cells #[.slice K.A K.n K.c, .int .i64 K.f.s, .int .i64 K.f.o, .int .i64 K.f.n, .int .i64 K.f.i, .int .i64 K.f.u, .slice K.oA K.no K.oc, .slice K.fA K.nf K.fc, .slice K.iA K.ni K.ic, .int .i64 K.fu] 27) = w1 at T0 ⊢
  refine (light_b K true w1 H).mono ?_
  rintro e w2 ⟨rfl, hb2⟩
  have T2 := hide (T0.out.keep hb2)
  clear T0 hb2
  generalize w.heap.size = q at T2 ⊢
  have c0 := T2.out.b.cell (j := 0) rfl
  go_wp2_with fail
  refine (rLent_any B K.A K.n K.c l w2 T2.out.r.cl (by have := HLI.out; omega)).mono ?_
  rintro e w3 ⟨A1, c1, rfl, o1, hb3⟩
  have T3 := hide (T2.out.keep hb3)
  have R1 := hide (RowI.of_own o1 HRN.out.2.2.2)
  clear T2 o1 hb3 c0
  go_upto_region 4 with (fail)
  have c6 := T3.out.b.cell (j := 6) rfl
  go_wp2_with fail
  refine (fitted_any B K.oA K.no K.oc K.no old w3 T3.out.r.ol T3.out.le HLI.out.1).mono ?_
  have e1 : fitV old K.no = old := by rw [← HL.out.2.1]; exact fitV_self old
  rw [e1]
  clear e1
  rintro e w4 ⟨A2, c2, rfl, o2, hb4⟩
  rw [HL.out.2.1] at o2 ⊢
  have T4 := hide (T3.out.keep hb4)
  have R1' := hide ((R1.out.keep hb4 (Nat.le_refl _)).more hb4.size)
  have R2 := hide (Row.of_own o2)
  clear T3 R1 o2 hb4 c6
  go_upto_region 5 with (fail)
  have c7 := T4.out.b.cell (j := 7) rfl
  go_wp2_with fail
  refine (fitted_any B K.fA K.nf K.fc K.nf first w4 T4.out.r.fl T4.out.le HLI.out.2.2.1).mono ?_
  have e1 : fitV first K.nf = first := by rw [← HL.out.2.2.1]; exact fitV_self first
  rw [e1]
  clear e1
  rintro e w5 ⟨A3, c3, rfl, o3, hb5⟩
  rw [HL.out.2.2.1] at o3 ⊢
  have T5 := hide (T4.out.keep hb5)
  have R1 := hide ((R1'.out.keep hb5 (Nat.le_refl _)).more hb5.size)
  have R2' := hide ((R2.out.keep hb5 (Nat.le_refl _)).more hb5.size)
  have R3 := hide (Row.of_own o3)
  clear T4 R1' R2 o3 hb5 c7
  go_upto_region 6 with (fail)
  have c8 := T5.out.b.cell (j := 8) rfl
  go_wp2_with fail
  refine (fitted_any B K.iA K.ni K.ic K.ni ins w5 T5.out.r.il T5.out.le HLI.out.2.1).mono ?_
  have e1 : fitV ins K.ni = ins := by rw [← HL.out.2.2.2]; exact fitV_self ins
  rw [e1]
  clear e1
  rintro e w6 ⟨A4, c4, rfl, o4, hb6⟩
  rw [HL.out.2.2.2] at o4 ⊢
  have T6 := hide (T5.out.keep hb6)
  have TX6 : Hid (TX A1 A2 A3 A4 c1 c2 c3 c4 K w6.heap.size l old first ins w6) := ⟨(R1.out.keep hb6 (Nat.le_refl _)).more hb6.size, (R2'.out.keep hb6 (Nat.le_refl _)).more hb6.size, (R3.out.keep hb6 (Nat.le_refl _)).more hb6.size, Row.of_own o4⟩
  clear T5 R1 R2' R3 o4 hb6 c8
  go_upto_region 7 with (fail)
  have c1' := T6.out.b.cell (j := 1) rfl
  have c2' := T6.out.b.cell (j := 2) rfl
  have c3' := T6.out.b.cell (j := 3) rfl
  have c4' := T6.out.b.cell (j := 4) rfl
  have c5' := T6.out.b.cell (j := 5) rfl
  have c9' := T6.out.b.cell (j := 9) rfl
  go_wp2_with fail
  refine (Run_any K.f A1 A2 A3 A4 K.n c1 K.no c2 K.nf c3 K.ni c4 w6.heap.size K.fu l old first ins w6 (Nat.le_refl _) TX6.out.cl TX6.out.ol TX6.out.fl TX6.out.il HRN.out.2.1 HRN.out.1 HRN.out.2.2.1).mono ?_
  intro e w7 hp
  obtain ⟨A, c, A', c', rfl, o1, o2, hb7⟩ := runP_is (er := er) (us := (us : Int)) hp (by rw [HV.out]) (by rw [HV.out]) (by rw [HV.out]) (by rw [HV.out]) _ _ rfl rfl
  clear c1' c2' c3' c4' c5' c9'
  have hl1 : ∀ k, (Value.slice A ce.length c).ownBlock = some k → k < w7.heap.size := fun k hk => (o1.lt k hk).2
  have hb8 := hb7.alloc hb7.size (.cells #[.slice A ce.length c, .slice A' ou.length c', .int .i64 (us : Int)] 33)
  have X8 := hide (TR.start (us := (us : Int)) o1 o2)
  have BL8 := hide (And.intro hb8 hl1)
  clear hp o1 o2 hb7 hb8 hl1
  go_upto_region 8 with (fail)
  generalize w7.alloc (.cells #[.slice A ce.length c, .slice A' ou.length c', .int .i64 (us : Int)] 33) = w8 at X8 BL8 ⊢
  generalize w7.heap.size = g at X8 BL8 ⊢
  have T8 := hide (T6.out.keep BL8.out.1)
  have c0 := T8.out.b.cell (j := 0) rfl
  have c1' := T8.out.b.cell (j := 1) rfl
  have c2' := T8.out.b.cell (j := 2) rfl
  have c3' := T8.out.b.cell (j := 3) rfl
  have c4' := T8.out.b.cell (j := 4) rfl
  have c5' := T8.out.b.cell (j := 5) rfl
  have c6 := T8.out.b.cell (j := 6) rfl
  have c7 := T8.out.b.cell (j := 7) rfl
  have c8 := T8.out.b.cell (j := 8) rfl
  have c9 := T8.out.b.cell (j := 9) rfl
  go_wp2_with fail
  refine (rRun_any K.f K.A K.oA K.fA K.iA K.n K.c K.no K.oc K.nf K.fc K.ni K.ic B K.fu l old first ins w8 T8.out.le T8.out.r.cl T8.out.r.ol T8.out.r.fl T8.out.r.il HRN.out.2.1 HRN.out.1 HRN.out.2.2.1).mono ?_
  intro e w9 hp
  obtain ⟨D, d, D', d', rfl, y1, y2, hb9⟩ := runQ_is (er := er) (us := (us : Int)) hp (by rw [HV.out]) (by rw [HV.out]) (by rw [HV.out]) (by rw [HV.out]) _ _ rfl rfl
  clear c0 c1' c2' c3' c4' c5' c6 c7 c8 c9
  have hbn := (Below.refl w9.heap.size w9).alloc (Nat.le_refl _) (.cells #[.slice D ce.length d, .slice D' ou.length d', .int .i64 (us : Int)] 37)
  have hb10 := hb9.trans (hbn.mono hb9.size)
  have X10 := hide (X8.out.keep hb10)
  have B10 := hide (BL8.out.1.trans (hb10.mono BL8.out.1.size))
  have Y10 := hide (And.intro (Blk.new w9 37 [.slice D ce.length d, .slice D' ou.length d', .int .i64 (us : Int)]) (And.intro ((y1.keep hbn (Nat.le_refl _))) (y2.keep hbn (Nat.le_refl _))))
  have HK1 := hide BL8.out.2
  clear hp y1 y2 hb9 hbn hb10 X8 BL8 T8
  go_upto_region 9 with (fail)
  generalize w9.alloc (.cells #[.slice D ce.length d, .slice D' ou.length d', .int .i64 (us : Int)] 37) = w10 at X10 B10 Y10 ⊢
  generalize w9.heap.size = g2 at Y10 ⊢
  have x0 := X10.out.b.cell (j := 0) rfl
  have y0 := Y10.out.1.cell (j := 0) rfl
  go_wp2_with fail
  refine (Ints_same _ _ _ _ _ _ _ _ ce w10 X10.out.r1 Y10.out.2.1).mono ?_
  rintro e w11 ⟨k7, rfl, rfl⟩
  have hbd : Below w10.heap.size w10 (w10.drewN k7) := ⟨rfl, rfl, rfl, Nat.le_refl _, fun _ _ => rfl⟩
  have X11 := hide (X10.out.drewN k7)
  have B11 := hide (B10.out.trans (hbd.mono B10.out.size))
  have Y11 := hide (And.intro (Y10.out.1.keep hbd Y10.out.1.lt) (And.intro (Y10.out.2.1.keep hbd (Nat.le_of_lt Y10.out.1.lt)) (Y10.out.2.2.keep hbd (Nat.le_of_lt Y10.out.1.lt))))
  clear X10 B10 Y10 hbd x0 y0
  generalize w10.drewN k7 = w11 at X11 B11 Y11 ⊢
  have x1 := X11.out.b.cell (j := 1) rfl
  have y1 := Y11.out.1.cell (j := 1) rfl
  go_wp2_with fail
  refine (Ints_same _ _ _ _ _ _ _ _ ou w11 X11.out.r2 Y11.out.2.2).mono ?_
  rintro e w12 ⟨k8, rfl, rfl⟩
  have hbd : Below w11.heap.size w11 (w11.drewN k8) := ⟨rfl, rfl, rfl, Nat.le_refl _, fun _ _ => rfl⟩
  have X12 := hide (X11.out.drewN k8)
  have B12 := hide (B11.out.trans (hbd.mono B11.out.size))
  have Y12 := hide (Y11.out.1.keep hbd Y11.out.1.lt)
  clear X11 B11 Y11 hbd x1 y1
  generalize w11.drewN k8 = w12 at X12 B12 Y12 ⊢
  have x2 := X12.out.b.cell (j := 2) rfl
  have y2 := Y12.out.cell (j := 2) rfl
  go_upto_region 11 with (fail)
  clear x2 y2 Y12
  have HS0 : Hid (TW w6 g ce.length c ou.length c' A A' (us : Int) ce w12) := ⟨X12.out.b, X12.out.o1, B12.out, HK1.out⟩
  clear X12 B12
  go_loopw [12] (fun i wr => ∃ (j : Nat) (zs : List Int), j ≤ ce.length ∧ i = .int .i64 (j : Int) ∧ zs.length = ce.length ∧ Hid (TW w6 g ce.length c ou.length c' A A' (us : Int) zs wr)) (fun i _ => ce.length - (intOf i).toNat)
  case atStart => exact ⟨0, ce, Nat.zero_le _, rfl, rfl, HS0⟩
  case round =>
    clear HS0
    obtain ⟨j, zs, hj, rfl, hzl, HS⟩ := hrel
    have HZL := hide hzl
    clear hzl
    by_cases hlt : j < ce.length
    · have hd : decide ((j : Int) < (ce.length : Int)) = true := by simpa using hlt
      have x0 := HS.out.b.cell (j := 0) rfl
      obtain ⟨k1, hA⟩ : ∃ k1, A = some ⟨k1, 0, none⟩ := own_some HS.out.r1 (by omega)
      rw [hA] at x0
      have HA := hide hA
      have ct := HS.out.r1
      rw [hA] at ct
      have ctc := ct.cellAt j (by omega)
      rw [c32_at (by have := HZL.out; omega)] at ctc
      have cf := ct.frozenAt j
      have ccap := own_cap ct
      have hmx := (Row.of_own ct).max
      unfold maxLen at hmx
      have hD' := HS.out
      rw [hA] at hD'
      have HS2 := hide (hD'.set1 j 99)
      rw [← hA] at HS2
      clear hA ct hD'
      go_wp2_with fail
      go_roundw
      case rel => exact ⟨j + 1, zs.set j 99, by omega, by go_num, by rw [List.length_set]; exact HZL.out, by rw [HA.out]; have := HS2.out; rw [HA.out] at this; exact this⟩
      case measure => simp [intOf]; omega
    · have hd : decide ((j : Int) < (ce.length : Int)) = false := by simpa using hlt
      have x0 := HS.out.b.cell (j := 0) rfl
      go_upto_region 14 with (fail)
      clear hd x0
      have B13 := hide HS.out.bl
      generalize wr = w13 at B13 ⊢
      clear HS
      have T13 := hide (T6.out.keep B13.out)
      have X13 := hide (TX6.out.keep B13.out (Nat.le_refl _))
      have c0 := T13.out.b.cell (j := 0) rfl
      go_wp2_with fail
      refine (rSame_any _ _ _ _ _ _ _ _ l w13 X13.out.cl T13.out.r.cl).mono ?_
      rintro e w14 ⟨m1, rfl, rfl⟩
      have B14 : Hid (Below w6.heap.size w6 (w13.drewN m1)) := ⟨B13.out.os, B13.out.tape, B13.out.output, B13.out.size, B13.out.block⟩
      clear B13 T13 X13 c0
      generalize w13.drewN m1 = w14 at B14 ⊢
      have T14 := hide (T6.out.keep B14.out)
      have X14 := hide (TX6.out.keep B14.out (Nat.le_refl _))
      have c6 := T14.out.b.cell (j := 6) rfl
      go_wp2_with fail
      refine (Ints_same _ _ _ _ _ _ _ _ old w14 X14.out.ol T14.out.r.ol).mono ?_
      rintro e w15 ⟨m2, rfl, rfl⟩
      have B15 : Hid (Below w6.heap.size w6 (w14.drewN m2)) := ⟨B14.out.os, B14.out.tape, B14.out.output, B14.out.size, B14.out.block⟩
      clear B14 T14 X14 c6
      generalize w14.drewN m2 = w15 at B15 ⊢
      have T15 := hide (T6.out.keep B15.out)
      have X15 := hide (TX6.out.keep B15.out (Nat.le_refl _))
      have c7 := T15.out.b.cell (j := 7) rfl
      go_wp2_with fail
      refine (Ints_same _ _ _ _ _ _ _ _ first w15 X15.out.fl T15.out.r.fl).mono ?_
      rintro e w16 ⟨m3, rfl, rfl⟩
      have B16 : Hid (Below w6.heap.size w6 (w15.drewN m3)) := ⟨B15.out.os, B15.out.tape, B15.out.output, B15.out.size, B15.out.block⟩
      clear B15 T15 X15 c7
      generalize w15.drewN m3 = w16 at B16 ⊢
      have T16 := hide (T6.out.keep B16.out)
      have X16 := hide (TX6.out.keep B16.out (Nat.le_refl _))
      have c8 := T16.out.b.cell (j := 8) rfl
      go_wp2_with fail
      refine (Ints_same _ _ _ _ _ _ _ _ ins w16 X16.out.il T16.out.r.il).mono ?_
      rintro e w17 ⟨m4, rfl, rfl⟩
      have B17 : Hid (Below w6.heap.size w6 (w16.drewN m4)) := ⟨B16.out.os, B16.out.tape, B16.out.output, B16.out.size, B16.out.block⟩
      clear B16 T16 X16 c8
      generalize w16.drewN m4 = w17 at B17 ⊢
      have T17 := hide (T6.out.keep B17.out)
      go_wp2_with fail
      refine (known_any w17).mono ?_
      rintro e w18 ⟨rfl, hb18⟩
      have HB := hide (T17.out.bl.trans (hb18.mono T17.out.bl.size))
      clear hb18
      go_wp2
      go_ret
      exact ⟨rfl, HB.out⟩
end Go.Proofs.Ytmjelcoljmefeaa
