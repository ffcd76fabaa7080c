/-
  The walk of VmUntouched.
-/
import Derived.Test.YtmjelcoljmefeaaVLaw1
namespace Go.Proofs.Ytmjelcoljmefeaa
open Go.RowKit
set_option maxRecDepth 20000
set_option maxHeartbeats 2000000

/-- The changed case in its box, its old cells and inputs in rows of their own, all above the world wb. -/
structure TD (wb : World) (g b1 b2 : Nat) (cs : List Value) (A1 A2 : Option Addr) (n1 n2 c1 c2 : Nat) (zs ys : List Int) (w : World) : Prop where
  b : Blk w g 27 cs
  r1 : w.ownsRow b1 21 1 (.slice A1 n1 c1) n1 (c32 zs)
  r2 : w.ownsRow b2 21 1 (.slice A2 n2 c2) n2 (c32 ys)
  bl : Below wb.heap.size wb w
  g0 : wb.heap.size ≤ g
  l1 : g < b1
  l2 : ∀ k, (Value.slice A1 n1 c1).ownBlock = some k → k < b2
  l3 : b1 ≤ b2
section
variable {wb w w' : World} {g b1 b2 n1 n2 c1 c2 : Nat} {cs : List Value} {A1 A2 : Option Addr} {zs ys : List Int}
theorem TD.keep (t : TD wb g b1 b2 cs A1 A2 n1 n2 c1 c2 zs ys w) (hb : Below w.heap.size w w') : TD wb g b1 b2 cs A1 A2 n1 n2 c1 c2 zs ys w' :=
  ⟨t.b.keep hb t.b.lt, own_below t.r1 hb (Nat.le_refl _), own_below t.r2 hb (Nat.le_refl _), t.bl.trans (hb.mono t.bl.size), t.g0, t.l1, t.l2, t.l3⟩
theorem TD.set1 {k : Nat} (t : TD wb g b1 b2 cs (some ⟨k, 0, none⟩) A2 n1 n2 c1 c2 zs ys w) (j : Nat) (v : Int) : TD wb g b1 b2 cs (some ⟨k, 0, none⟩) A2 n1 n2 c1 c2 (zs.set j v) ys (w.setCell ⟨k, j, none⟩ (.int .i32 v)) := by
  have hk := (t.r1.lt k rfl).1
  have h2 := t.l2 k rfl
  have h1 := t.l1
  have h0 := t.g0
  have hst := (t.r1.stored j (.int .i32 v)).1
  rw [c32_set] at hst
  exact ⟨t.b.other (by omega) j _, hst, own_other (q := k) t.r2 (fun i hi => by have := (t.r2.lt i hi).1; omega) j _, below_set t.bl (by omega) _, t.g0, t.l1, t.l2, t.l3⟩
theorem TD.set2 {k : Nat} (t : TD wb g b1 b2 cs A1 (some ⟨k, 0, none⟩) n1 n2 c1 c2 zs ys w) (j : Nat) (v : Int) : TD wb g b1 b2 cs A1 (some ⟨k, 0, none⟩) n1 n2 c1 c2 zs (ys.set j v) (w.setCell ⟨k, j, none⟩ (.int .i32 v)) := by
  have hk := (t.r2.lt k rfl).1
  have h3 := t.l3
  have h1 := t.l1
  have h0 := t.g0
  have hst := (t.r2.stored j (.int .i32 v)).1
  rw [c32_set] at hst
  exact ⟨t.b.other (by omega) j _, own_other (q := k) t.r1 (fun i hi => by have := t.l2 i hi; omega) j _, hst, below_set t.bl (by omega) _, t.g0, t.l1, t.l2, t.l3⟩
end
theorem touch_dark (K : CD) (v : Int) (w : World) (H : Hid (lightB K = false)) :
    Calls Try.prog 6 #[.agg #[.slice K.A K.n K.c, .int .i64 K.f.s, .int .i64 K.f.o, .int .i64 K.f.n, .int .i64 K.f.i, .int .i64 K.f.u, .slice K.oA K.no K.oc, .slice K.fA K.nf K.fc, .slice K.iA K.ni K.ic, .int .i64 K.fu], .int .i32 v] w (TrueP w) := by
  go_enter Try.func6, Try.ntmps6
  go_wp2_with fail
  refine (light_b K false _ H).mono ?_
  rintro e w1 ⟨rfl, hb1⟩
  go_wp2_with fail
  refine (known_any w1).mono ?_
  rintro e w2 ⟨rfl, hb2⟩
  go_wp2
  go_ret
  exact ⟨rfl, (((Below.refl _ w).alloc (Nat.le_refl _) _).trans (hb1.mono (by simp))).trans (hb2.mono (by have := hb1.size; simp at this; omega))⟩
theorem touch_d (B : Nat) (A : Option Addr) (n c k : Nat) (op : Int) (l : List (Int × Int)) (b : Bool) (w : World) (hr : RowI w B A n c l) (hk : k ≤ 1000) (H : Hid (touchB l op k = b)) (m : Nat) :
    Calls Try.prog 18 #[.slice A n c, .int .i64 op, .int .i64 (k : Int)] (w.drewN m) fun e w' => e = .returned (.bool b) ∧ w' = w.drewN m := by
  have := touches_any B A n c k op l (w.drewN m) (hr.keep (B' := B) ⟨rfl, rfl, rfl, Nat.le_refl _, fun _ _ => rfl⟩ (Nat.le_refl _)) hk
  rw [H.out] at this
  exact this.mono fun _ _ h => ⟨h.1, h.2.symm⟩
theorem touch_w (B : Nat) (A : Option Addr) (n c k : Nat) (op : Int) (l : List (Int × Int)) (b : Bool) (w : World) (hr : RowI w B A n c l) (hk : k ≤ 1000) (H : Hid (touchB l op k = b)) :
    Calls Try.prog 18 #[.slice A n c, .int .i64 op, .int .i64 (k : Int)] w fun e w' => e = .returned (.bool b) ∧ w = w' := by
  have := touches_any B A n c k op l w hr hk
  rwa [H.out] at this
theorem gd_keep {zs old : List Int} {t : Nat → Bool} {j : Nat} {v : Int} (h : ∀ k, t k = true → gd zs k = gd old k) (hj : t j = false) (hl : j < zs.length) : ∀ k, t k = true → gd (zs.set j v) k = gd old k := by
  intro k hk
  rw [gd_set hl, if_neg (by rintro rfl; rw [hj] at hk; cases hk)]
  exact h k hk
theorem touch_walk (K : CD) (v : Int) (hv : rng v) (B : Nat) (l : List (Int × Int)) (old first ins : List Int) (w : World) (h : CR w B K l old first ins) (hB : B ≤ w.heap.size) (H : Hid (lightB K = true)) :
    Calls Try.prog 6 #[.agg #[.slice K.A K.n K.c, .int .i64 K.f.s, .int .i64 K.f.o, .int .i64 K.f.n, .int .i64 K.f.i, .int .i64 K.f.u, .slice K.oA K.no K.oc, .slice K.fA K.nf K.fc, .slice K.iA K.ni K.ic, .int .i64 K.fu], .int .i32 v] w (TrueP w) := by
  obtain ⟨er, ce, ou, us, hV⟩ : ∃ er ce ou us, vmV K.f l old first ins K.fu = (er, ce, ou, us) := ⟨_, _, _, _, rfl⟩
  have T0 := hide (TCs.start h hB)
  have hl := h.lens
  have HLI := hide (show K.no ≤ 100 ∧ K.ni ≤ 100 ∧ K.nf ≤ 100 by have := H.out; unfold lightB at this; simp at this; omega)
  have HX := hide (fun he : er = 0 => kept_vm (f := K.f) (l := l) (old := old) (first := first) (ins := ins) (x := K.fu) (by rw [hV]; exact he))
  have HLN := hide (fun he : er = 0 => (show ce.length = K.nf by
    have h1 := (vm_lens (f := K.f) (l := l) (old := old) (first := first) (ins := ins) (x := K.fu) (by rw [hV]; exact he) h.ro h.ri h.rf h.cl.oks).1
    obtain ⟨h2, _⟩ := vm_ok (f := K.f) (l := l) (old := old) (first := first) (ins := ins) (x := K.fu) (by rw [hV]; exact he)
    have h3 : (first.length : Int) = K.f.n := Decidable.byContradiction fun hn => h2 (.inr (.inr (.inl hn)))
    rw [hV] at h1
    have := hl.2.2.1
    simp only at h1
    omega))
  have HO16 := hide (fun he : er = 0 => (show ce.length ≤ 16 ∧ ou.length ≤ 16 by
    have h1 := (vm_lens (f := K.f) (l := l) (old := old) (first := first) (ins := ins) (x := K.fu) (by rw [hV]; exact he) h.ro h.ri h.rf h.cl.oks)
    obtain ⟨h2, _⟩ := vm_ok (f := K.f) (l := l) (old := old) (first := first) (ins := ins) (x := K.fu) (by rw [hV]; exact he)
    have h3 : okF K.f := Decidable.byContradiction fun hn => h2 (.inl hn)
    rw [hV] at h1
    unfold okF at h3
    simp only at h1
    omega))
  rw [hV] at HX
  have HV := hide hV
  have HL := hide hl
  have HRN := hide (And.intro h.ro (And.intro h.rf (And.intro h.ri hv)))
  clear hV h hl
  go_enter Try.func6, Try.ntmps6
  go_wp2_with fail
  generalize w.alloc (.cells #[.slice K.A K.n K.c, .int .i64 K.f.s, .int .i64 K.f.o, .int .i64 K.f.n, .int .i64 K.f.i, .int .i64 K.f.u, .slice K.oA K.no K.oc, .slice K.fA K.nf K.fc, .slice K.iA K.ni K.ic, .int .i64 K.fu] 27) = w1 at T0 ⊢
  refine (light_b K true w1 H).mono ?_
  rintro e w2 ⟨rfl, hb2⟩
  have T2 := hide (T0.out.keep hb2)
  clear T0 hb2
  generalize w.heap.size = q at T2 ⊢
  have c0 := T2.out.b.cell (j := 0) rfl
  have c1 := T2.out.b.cell (j := 1) rfl
  have c2 := T2.out.b.cell (j := 2) rfl
  have c3 := T2.out.b.cell (j := 3) rfl
  have c4 := T2.out.b.cell (j := 4) rfl
  have c5 := T2.out.b.cell (j := 5) rfl
  have c6 := T2.out.b.cell (j := 6) rfl
  have c7 := T2.out.b.cell (j := 7) rfl
  have c8 := T2.out.b.cell (j := 8) rfl
  have c9 := T2.out.b.cell (j := 9) rfl
  go_wp2_with fail
  refine (lrun_any K.fu w2 T2.out.r T2.out.le).mono ?_
  intro e w3 hp
  obtain ⟨A, c, A', c', rfl, o1, o2, hb3⟩ := runP_is (er := er) (us := (us : Int)) hp (by rw [HV.out]) (by rw [HV.out]) (by rw [HV.out]) (by rw [HV.out]) _ _ rfl rfl
  clear c0 c1 c2 c3 c4 c5 c6 c7 c8 c9
  have T4 := hide ((T2.out.keep hb3).alloc (.cells #[.slice A ce.length c, .slice A' ou.length c', .int .i64 (us : Int)] 33))
  have X4 := hide (TR.start (us := (us : Int)) o1 o2)
  clear T2 hp o1 o2 hb3
  go_upto_region 4 with (fail)
  generalize w3.alloc (.cells #[.slice A ce.length c, .slice A' ou.length c', .int .i64 (us : Int)] 33) = w4 at T4 X4 ⊢
  generalize w3.heap.size = gx at X4 ⊢
  have c0 := T4.out.b.cell (j := 0) rfl
  have c1 := T4.out.b.cell (j := 1) rfl
  have c2 := T4.out.b.cell (j := 2) rfl
  have c3 := T4.out.b.cell (j := 3) rfl
  have c4 := T4.out.b.cell (j := 4) rfl
  have c5 := T4.out.b.cell (j := 5) rfl
  have c6 := T4.out.b.cell (j := 6) rfl
  have c7 := T4.out.b.cell (j := 7) rfl
  have c8 := T4.out.b.cell (j := 8) rfl
  have c9 := T4.out.b.cell (j := 9) rfl
  go_upto_region 5 with (fail)
  clear c0 c1 c2 c3 c4 c5 c6 c7 c8 c9
  have T5 := hide (T4.out.alloc (.cells #[.slice K.A K.n K.c, .int .i64 K.f.s, .int .i64 K.f.o, .int .i64 K.f.n, .int .i64 K.f.i, .int .i64 K.f.u, .slice K.oA K.no K.oc, .slice K.fA K.nf K.fc, .slice K.iA K.ni K.ic, .int .i64 K.fu] 27))
  have D5 : Hid (Blk (w4.alloc (.cells #[.slice K.A K.n K.c, .int .i64 K.f.s, .int .i64 K.f.o, .int .i64 K.f.n, .int .i64 K.f.i, .int .i64 K.f.u, .slice K.oA K.no K.oc, .slice K.fA K.nf K.fc, .slice K.iA K.ni K.ic, .int .i64 K.fu] 27)) w4.heap.size 27 (caseC K) ∧ Below w4.heap.size w4 (w4.alloc (.cells #[.slice K.A K.n K.c, .int .i64 K.f.s, .int .i64 K.f.o, .int .i64 K.f.n, .int .i64 K.f.i, .int .i64 K.f.u, .slice K.oA K.no K.oc, .slice K.fA K.nf K.fc, .slice K.iA K.ni K.ic, .int .i64 K.fu] 27))) := ⟨Blk.new w4 27 (caseC K), (Below.refl w4.heap.size w4).alloc (Nat.le_refl _) (.cells #[.slice K.A K.n K.c, .int .i64 K.f.s, .int .i64 K.f.o, .int .i64 K.f.n, .int .i64 K.f.i, .int .i64 K.f.u, .slice K.oA K.no K.oc, .slice K.fA K.nf K.fc, .slice K.iA K.ni K.ic, .int .i64 K.fu] 27)⟩
  have hw5 : (w4.alloc (.cells #[.slice K.A K.n K.c, .int .i64 K.f.s, .int .i64 K.f.o, .int .i64 K.f.n, .int .i64 K.f.i, .int .i64 K.f.u, .slice K.oA K.no K.oc, .slice K.fA K.nf K.fc, .slice K.iA K.ni K.ic, .int .i64 K.fu] 27)).heap.size = w4.heap.size + 1 := by simp
  generalize w4.alloc (.cells #[.slice K.A K.n K.c, .int .i64 K.f.s, .int .i64 K.f.o, .int .i64 K.f.n, .int .i64 K.f.i, .int .i64 K.f.u, .slice K.oA K.no K.oc, .slice K.fA K.nf K.fc, .slice K.iA K.ni K.ic, .int .i64 K.fu] 27) = w5 at T5 D5 hw5 ⊢
  obtain ⟨g, hg⟩ : ∃ g, w4.heap.size = g := ⟨_, rfl⟩
  rw [hg] at D5 hw5 ⊢
  have HG := hide hg
  clear hg
  have c6 := T5.out.b.cell (j := 6) rfl
  have lb : B ≤ w5.heap.size := T5.out.le
  go_wp2_with fail
  refine (fitted_any B K.oA K.no K.oc K.no old w5 T5.out.r.ol lb HLI.out.1).mono ?_
  have e1 : fitV old K.no = old := by rw [← HL.out.2.1]; exact fitV_self old
  rw [e1]
  clear e1
  rintro e w6 ⟨A1, c1, rfl, o1, hb6⟩
  rw [HL.out.2.1] at o1 ⊢
  have T6 := hide (T5.out.keep hb6)
  have d6 := D5.out.1.keep hb6 D5.out.1.lt
  have hbl6 : Below g w4 w6 := D5.out.2.trans (hb6.mono (by omega))
  have f6 := d6.frozen 6
  have c6 := d6.cell (j := 6) rfl
  have d7 := hide (And.intro (d6.set 6 (.slice A1 K.no c1)) (And.intro (own_other (q := g) o1 (fun k hk => by have := (o1.lt k hk).1; omega) 6 (.slice A1 K.no c1)) (And.intro (below_set hbl6 (Nat.le_refl g) (j := 6) (.slice A1 K.no c1)) (fun k hk => (o1.lt k hk).2))))
  have hsz6 : (w6.setCell ⟨g, 6, none⟩ (.slice A1 K.no c1)).heap.size = w6.heap.size := by simp [World.setCell]
  clear T5 T6 o1 d6 hbl6
  have hb6s := hb6.size
  clear hb6 D5
  go_upto_region 6 with (fail)
  generalize w6.setCell ⟨g, 6, none⟩ (.slice A1 K.no c1) = w7 at d7 hsz6 ⊢
  clear f6 c6
  have T7 := hide (T4.out.keep (by rw [HG.out]; exact d7.out.2.2.1))
  have c8 := T7.out.b.cell (j := 8) rfl
  have lb7 : B ≤ w7.heap.size := T7.out.le
  go_wp2_with fail
  refine (fitted_any B K.iA K.ni K.ic K.ni ins w7 T7.out.r.il lb7 HLI.out.2.1).mono ?_
  have e1 : fitV ins K.ni = ins := by rw [← HL.out.2.2.2]; exact fitV_self ins
  rw [e1]
  clear e1
  rintro e w8 ⟨A2, c2, rfl, o2, hb8⟩
  rw [HL.out.2.2.2] at o2 ⊢
  have d8 := d7.out.1.keep hb8 d7.out.1.lt
  have f8 := d8.frozen 8
  have c8 := d8.cell (j := 8) rfl
  have hlt7 : g < w7.heap.size := d7.out.1.lt
  have D9 : Hid (TD w4 g w5.heap.size w7.heap.size (((caseC K).set 6 (.slice A1 K.no c1)).set 8 (.slice A2 K.ni c2)) A1 A2 K.no K.ni c1 c2 old ins (w8.setCell ⟨g, 8, none⟩ (.slice A2 K.ni c2))) :=
    ⟨d8.set 8 _, own_other (q := g) (own_below d7.out.2.1 hb8 (Nat.le_refl _)) (fun k hk => by have := (d7.out.2.1.lt k hk).1; omega) 8 _, own_other (q := g) o2 (fun k hk => by have := (o2.lt k hk).1; omega) 8 _,
      by rw [HG.out]; exact below_set (d7.out.2.2.1.trans (hb8.mono (by omega))) (Nat.le_refl g) _, by rw [HG.out]; exact Nat.le_refl _, by omega, fun k hk => by have := d7.out.2.2.2 k hk; omega, by omega⟩
  clear T7 d7 d8 o2 hb8
  go_upto_region 7 with (fail)
  generalize w8.setCell ⟨g, 8, none⟩ (.slice A2 K.ni c2) = w9 at D9 ⊢
  clear f8 c8
  generalize w5.heap.size = b1 at D9 hw5 hb6s
  generalize w7.heap.size = b2 at D9 hsz6 hlt7
  clear hw5 hb6s hsz6 hlt7 lb lb7
  clear c6 c8
  go_wp2_with fail
  go_loopw [8] (fun i wr => ∃ (j : Nat) (zs : List Int), j ≤ K.no ∧ i = .int .i64 (j : Int) ∧ Hid (TD w4 g b1 b2 (((caseC K).set 6 (.slice A1 K.no c1)).set 8 (.slice A2 K.ni c2)) A1 A2 K.no K.ni c1 c2 zs ins wr ∧ zs.length = K.no ∧ rngL zs ∧ ∀ k, touchB l 4 k = true → gd zs k = gd old k)) (fun i _ => K.no - (intOf i).toNat)
  case atStart => exact ⟨0, old, Nat.zero_le _, rfl, D9.out, HL.out.2.1, HRN.out.1, fun _ _ => rfl⟩
  case round =>
    clear D9
    obtain ⟨j, zs, hj, rfl, HD⟩ := hrel
    by_cases hlt : j < K.no
    · have hd : decide ((j : Int) < (K.no : Int)) = true := by simpa using hlt
      have HT := hide (T4.out.keep HD.out.1.bl)
      have c0 := HT.out.b.cell (j := 0) rfl
      have dd := HD.out.1.b.cell (j := 6) rfl
      have hj100 : j ≤ 1000 := by have := HLI.out; omega
      cases ht : touchB l 4 j with
      | true =>
        have HTB := hide ht
        clear ht
        go_wp2_with (go_at_call 18; refine (touch_w B K.A K.n K.c j 4 l true wr HT.out.r.cl hj100 HTB).mono ?_; rintro e w' ⟨rfl, rfl⟩)
        go_roundw
        case rel => exact ⟨j + 1, zs, by omega, by go_num, HD⟩
        case measure => simp [intOf]; omega
      | false =>
        have HTB := hide ht
        clear ht
        obtain ⟨k1, hA⟩ : ∃ k1, A1 = some ⟨k1, 0, none⟩ := own_some HD.out.1.r1 (by omega)
        rw [hA] at dd
        have HA := hide hA
        have ct := HD.out.1.r1
        rw [hA] at ct
        have ctc := ct.cellAt j (by omega)
        rw [c32_at (by have := HD.out.2.1; omega)] at ctc
        have cf := ct.frozenAt j
        have ccap := own_cap ct
        have hD' := HD.out.1
        rw [hA] at hD'
        have HS := hide (hD'.set1 j v)
        rw [← hA] at HS
        clear hA ct hD'
        go_wp2_with (go_at_call 18; refine (touch_w B K.A K.n K.c j 4 l false wr HT.out.r.cl hj100 HTB).mono ?_; rintro e w' ⟨rfl, rfl⟩)
        go_roundw
        case rel => exact ⟨j + 1, zs.set j v, by omega, by go_num, by rw [HA.out]; have := HS.out; rw [HA.out] at this; exact this, by rw [List.length_set]; exact HD.out.2.1, rng_set HD.out.2.2.1 j HRN.out.2.2.2, gd_keep HD.out.2.2.2 HTB.out (by have := HD.out.2.1; omega)⟩
        case measure => simp [intOf]; omega
    · have hd : decide ((j : Int) < (K.no : Int)) = false := by simpa using hlt
      have dd := HD.out.1.b.cell (j := 6) rfl
      go_wp2_with fail
      clear hd dd
      generalize wr = w10 at HD ⊢
      obtain ⟨zsF, HDz⟩ : ∃ zsF, Hid (TD w4 g b1 b2 (((caseC K).set 6 (.slice A1 K.no c1)).set 8 (.slice A2 K.ni c2)) A1 A2 K.no K.ni c1 c2 zsF ins w10 ∧ zsF.length = K.no ∧ rngL zsF ∧ ∀ k, touchB l 4 k = true → gd zsF k = gd old k) := ⟨zs, HD⟩
      clear HD hlt hj
      go_loopw [9] (fun i wr => ∃ (j : Nat) (ys : List Int), j ≤ K.ni ∧ i = .int .i64 (j : Int) ∧ Hid (TD w4 g b1 b2 (((caseC K).set 6 (.slice A1 K.no c1)).set 8 (.slice A2 K.ni c2)) A1 A2 K.no K.ni c1 c2 zsF ys wr ∧ ys.length = K.ni ∧ rngL ys ∧ ∀ k, touchB l 6 k = true → gd ys k = gd ins k)) (fun i _ => K.ni - (intOf i).toNat)
      case atStart => exact ⟨0, ins, Nat.zero_le _, rfl, by exact HDz.out.1, HL.out.2.2.2, HRN.out.2.2.1, fun _ _ => rfl⟩
      case round =>
        skip
        obtain ⟨j, ys, hj, rfl, HD⟩ := hrel
        by_cases hlt : j < K.ni
        · have hd : decide ((j : Int) < (K.ni : Int)) = true := by simpa using hlt
          have HT := hide (T4.out.keep HD.out.1.bl)
          have c0 := HT.out.b.cell (j := 0) rfl
          have dd := HD.out.1.b.cell (j := 8) rfl
          have hj100 : j ≤ 1000 := by have := HLI.out; omega
          cases ht : touchB l 6 j with
          | true =>
            have HTB := hide ht
            clear ht
            go_wp2_with (go_at_call 18; refine (touch_w B K.A K.n K.c j 6 l true wr HT.out.r.cl hj100 HTB).mono ?_; rintro e w' ⟨rfl, rfl⟩)
            go_roundw
            case rel => exact ⟨j + 1, ys, by omega, by go_num, HD⟩
            case measure => simp [intOf]; omega
          | false =>
            have HTB := hide ht
            clear ht
            obtain ⟨k1, hA⟩ : ∃ k1, A2 = some ⟨k1, 0, none⟩ := own_some HD.out.1.r2 (by omega)
            rw [hA] at dd
            have HA := hide hA
            have ct := HD.out.1.r2
            rw [hA] at ct
            have ctc := ct.cellAt j (by omega)
            rw [c32_at (by have := HD.out.2.1; omega)] at ctc
            have cf := ct.frozenAt j
            have ccap := own_cap ct
            have hD' := HD.out.1
            rw [hA] at hD'
            have HS := hide (hD'.set2 j v)
            rw [← hA] at HS
            clear hA ct hD'
            go_wp2_with (go_at_call 18; refine (touch_w B K.A K.n K.c j 6 l false wr HT.out.r.cl hj100 HTB).mono ?_; rintro e w' ⟨rfl, rfl⟩)
            go_roundw
            case rel => exact ⟨j + 1, ys.set j v, by omega, by go_num, by rw [HA.out]; have := HS.out; rw [HA.out] at this; exact this, by rw [List.length_set]; exact HD.out.2.1, rng_set HD.out.2.2.1 j HRN.out.2.2.2, gd_keep HD.out.2.2.2 HTB.out (by have := HD.out.2.1; omega)⟩
            case measure => simp [intOf]; omega
        · have hd : decide ((j : Int) < (K.ni : Int)) = false := by simpa using hlt
          have dd := HD.out.1.b.cell (j := 8) rfl
          go_upto_region 17 with (fail)
          clear hd dd
          generalize wr = w11 at HD ⊢
          have HT := hide (T4.out.keep HD.out.1.bl)
          have HX2 := hide (X4.out.keep HD.out.1.bl)
          have hcr : CR w11 w11.heap.size ⟨K.A, K.n, K.c, K.f, A1, K.no, c1, K.fA, K.nf, K.fc, A2, K.ni, c2, K.fu⟩ l zsF first ys :=
            ⟨HT.out.r.cl.more HT.out.le, Row.of_own HD.out.1.r1, HT.out.r.fl.more HT.out.le, Row.of_own HD.out.1.r2, HDz.out.2.2.1, HRN.out.2.1, HD.out.2.2.1⟩
          have HCR := hide hcr
          clear hcr
          have hsame := same_vm (f := K.f) (first := first) (x := K.fu) (HDz.out.2.1.trans HL.out.2.1.symm) (HD.out.2.1.trans HL.out.2.2.2.symm) (fun k hk => (HDz.out.2.2.2 k hk).symm) (fun k hk => (HD.out.2.2.2 k hk).symm)
          rw [HV.out] at hsame
          have HV2 := hide hsame.symm
          clear hsame
          have m0 := HD.out.1.b.cell (j := 0) rfl
          have m1 := HD.out.1.b.cell (j := 1) rfl
          have m2 := HD.out.1.b.cell (j := 2) rfl
          have m3 := HD.out.1.b.cell (j := 3) rfl
          have m4 := HD.out.1.b.cell (j := 4) rfl
          have m5 := HD.out.1.b.cell (j := 5) rfl
          have m6 := HD.out.1.b.cell (j := 6) rfl
          have m7 := HD.out.1.b.cell (j := 7) rfl
          have m8 := HD.out.1.b.cell (j := 8) rfl
          have m9 := HD.out.1.b.cell (j := 9) rfl
          have p9 := HT.out.b.cell (j := 9) rfl
          go_wp2_with fail
          refine (lrun_any (K := ⟨K.A, K.n, K.c, K.f, A1, K.no, c1, K.fA, K.nf, K.fc, A2, K.ni, c2, K.fu⟩) K.fu w11 HCR.out (Nat.le_refl _)).mono ?_
          intro e w12 hp
          obtain ⟨Y, y, Y', y', rfl, o1, o2, hb12⟩ := runP_is (er := er) (us := (us : Int)) hp (by rw [HV2.out]) (by rw [HV2.out]) (by rw [HV2.out]) (by rw [HV2.out]) _ _ rfl rfl
          clear m0 m1 m2 m3 m4 m5 m6 m7 m8 m9 p9 hp HD
          have T13 := hide ((HT.out.keep hb12).alloc (.cells #[.slice Y ce.length y, .slice Y' ou.length y', .int .i64 (us : Int)] 33))
          have X13 := hide ((HX2.out.keep hb12).alloc (.cells #[.slice Y ce.length y, .slice Y' ou.length y', .int .i64 (us : Int)] 33))
          have Y13 := hide (TR.start (us := (us : Int)) o1 o2)
          clear o1 o2 hb12 HT HX2
          go_upto_region 18 with (fail)
          generalize w12.alloc (.cells #[.slice Y ce.length y, .slice Y' ou.length y', .int .i64 (us : Int)] 33) = w13 at T13 X13 Y13 ⊢
          generalize w12.heap.size = gy at Y13 ⊢
          have x0 := X13.out.b.cell (j := 0) rfl
          have x1 := X13.out.b.cell (j := 1) rfl
          have x2 := X13.out.b.cell (j := 2) rfl
          have y0 := Y13.out.b.cell (j := 0) rfl
          have y1 := Y13.out.b.cell (j := 1) rfl
          have y2 := Y13.out.b.cell (j := 2) rfl
          go_wp2_with fail
          refine (Ints_same _ _ _ _ _ _ _ _ ce w13 X13.out.r1 Y13.out.r1).mono ?_
          rintro e w14 ⟨k7, rfl, rfl⟩
          have T14 := hide (T13.out.drewN k7)
          have X14 := hide (X13.out.drewN k7)
          have Y14 := hide (Y13.out.drewN k7)
          clear T13 X13 Y13 x0 x1 x2 y0 y1 y2
          generalize w13.drewN k7 = w14 at T14 X14 Y14 ⊢
          have x1 := X14.out.b.cell (j := 1) rfl
          have y1 := Y14.out.b.cell (j := 1) rfl
          go_wp2_with fail
          refine (Ints_same _ _ _ _ _ _ _ _ ou w14 X14.out.r2 Y14.out.r2).mono ?_
          rintro e w15 ⟨k8, rfl, rfl⟩
          have T15 := hide (T14.out.drewN k8)
          have X15 := hide (X14.out.drewN k8)
          clear T14 X14 Y14 x1 y1
          generalize w14.drewN k8 = w15 at T15 X15 ⊢
          by_cases he : er = 0
          · subst he
            have x0 := X15.out.b.cell (j := 0) rfl
            have p7 := T15.out.b.cell (j := 7) rfl
            have hln := HLN.out rfl
            have hb : (ce.length == K.nf) = true := by rw [beq_iff_eq]; exact hln
            have hb' : ((ce.length : Int) == (K.nf : Int)) = true := by rw [beq_iff_eq]; omega
            have hb2 : ((ce.length : Int) != (K.nf : Int)) = false := by rw [bne_eq_false_iff_eq]; omega
            have hb3 : (ce.length != K.nf) = false := by rw [bne_eq_false_iff_eq]; exact hln
            have HLN2 := hide hln
            clear hln
            go_upto_region 24 with (fail)
            clear x0 p7 hb hb' hb2 hb3
            go_wp2_with fail
            go_loopw [12] (fun i wr => ∃ j : Nat, j ≤ ce.length ∧ i = .int .i64 (j : Int) ∧ Hid (TCs w B q K l old first ins wr ∧ TR w2.heap.size gx A A' ce.length c ou.length c' ce ou (us : Int) wr)) (fun i _ => ce.length - (intOf i).toNat)
            case atStart => exact ⟨0, Nat.zero_le _, rfl, T15.out, X15.out⟩
            case round =>
              clear T15 X15
              obtain ⟨j, hj, rfl, HS⟩ := hrel
              have hj100 : j ≤ 1000 := by have := (HO16.out (by trivial)).1; omega
              by_cases hlt : j < ce.length
              · have hd : decide ((j : Int) < (ce.length : Int)) = true := by simpa using hlt
                have c0 := HS.out.1.b.cell (j := 0) rfl
                have p7 := HS.out.1.b.cell (j := 7) rfl
                have x0 := HS.out.2.b.cell (j := 0) rfl
                cases ht : touchB l 5 j with
                | true =>
                  have HTB := hide ht
                  clear ht
                  go_upto_region 27 with (fail)
                  go_quiet ((go_at_call 18; exact Calls.quiet_of_same (touch_d B K.A K.n K.c j 5 l true wr HS.out.1.r.cl hj100 HTB _)))
                  go_wp2
                  go_roundw
                  case rel => exact ⟨j + 1, by omega, by go_num, HS.out.1.drewN _, HS.out.2.drewN _⟩
                  case measure => simp [intOf]; omega
                | false =>
                  have HTB := hide ht
                  clear ht
                  obtain ⟨xb, xo, xu, hA, _, hxu, xc⟩ := HS.out.2.r1.get hlt
                  rw [c32_at hlt] at hxu
                  obtain rfl := Option.some.inj hxu
                  obtain ⟨fb, fo, fu, hfA, _, hfu, fcell⟩ := HS.out.1.r.fl.get (j := j) (by have := HLN2.out; omega)
                  rw [c32_at (by have := HL.out.2.2.1; have := HLN2.out; omega)] at hfu
                  obtain rfl := Option.some.inj hfu
                  rw [hA] at x0
                  rw [hfA] at p7
                  have hval := ((HX.out (by trivial)) j).1 HTB.out
                  rw [hval] at xc
                  obtain ⟨val, hv2⟩ : ∃ val, gd first j = val := ⟨_, rfl⟩
                  rw [hv2] at xc fcell
                  have xcap := own_cap HS.out.2.o1
                  have fcap := HS.out.1.r.fl.cap
                  have hnf : (j : Int) < (K.nf : Int) := by have := HLN2.out; omega
                  have hnf2 : j < K.nf := by have := HLN2.out; omega
                  clear hA hfA hxu hfu hval hv2
                  go_upto_region 27 with (fail)
                  go_quiet ((go_at_call 18; exact Calls.quiet_of_same (touch_d B K.A K.n K.c j 5 l false wr HS.out.1.r.cl hj100 HTB _)))
                  go_wp2
                  go_roundw
                  case rel => exact ⟨j + 1, by omega, by go_num, HS.out.1.drewN _, HS.out.2.drewN _⟩
                  case measure => simp [intOf]; omega
              · have hd : decide ((j : Int) < (ce.length : Int)) = false := by simpa using hlt
                have x0 := HS.out.2.b.cell (j := 0) rfl
                go_wp2_with fail
                clear hd x0
                generalize wr = w20 at HS ⊢
                have HS20 := hide HS.out
                clear HS
                go_loopw [13] (fun i wr => ∃ j : Nat, j ≤ ou.length ∧ i = .int .i64 (j : Int) ∧ Hid (TCs w B q K l old first ins wr ∧ TR w2.heap.size gx A A' ce.length c ou.length c' ce ou (us : Int) wr)) (fun i _ => ou.length - (intOf i).toNat)
                case atStart => exact ⟨0, Nat.zero_le _, rfl, HS20.out⟩
                case round =>
                  clear HS20
                  obtain ⟨j, hj, rfl, HS⟩ := hrel
                  have hj100 : j ≤ 1000 := by have := (HO16.out (by trivial)).2; omega
                  have x1 := HS.out.2.b.cell (j := 1) rfl
                  by_cases hlt : j < ou.length
                  · have hd : decide ((j : Int) < (ou.length : Int)) = true := by simpa using hlt
                    have c0 := HS.out.1.b.cell (j := 0) rfl
                    cases ht : touchB l 7 j with
                    | true =>
                      have HTB := hide ht
                      clear ht
                      go_wp2_with (go_at_call 18; refine (touch_w B K.A K.n K.c j 7 l true wr HS.out.1.r.cl hj100 HTB).mono ?_; rintro e w' ⟨rfl, rfl⟩)
                      go_roundw
                      case rel => exact ⟨j + 1, by omega, by go_num, HS⟩
                      case measure => simp [intOf]; omega
                    | false =>
                      have HTB := hide ht
                      clear ht
                      obtain ⟨xb, xo, xu, hA, _, hxu, xc⟩ := HS.out.2.r2.get hlt
                      rw [c32_at hlt] at hxu
                      obtain rfl := Option.some.inj hxu
                      rw [hA] at x1
                      rw [((HX.out (by trivial)) j).2 HTB.out] at xc
                      have xcap := own_cap HS.out.2.o2
                      clear hA hxu
                      go_wp2_with (go_at_call 18; refine (touch_w B K.A K.n K.c j 7 l false wr HS.out.1.r.cl hj100 HTB).mono ?_; rintro e w' ⟨rfl, rfl⟩)
                      go_roundw
                      case rel => exact ⟨j + 1, by omega, by go_num, HS⟩
                      case measure => simp [intOf]; omega
                  · have hd : decide ((j : Int) < (ou.length : Int)) = false := by simpa using hlt
                    go_wp2_with fail
                    refine (known_any wr).mono ?_
                    rintro e w16 ⟨rfl, hb16⟩
                    have HB := hide (HS.out.1.bl.trans (hb16.mono HS.out.1.bl.size))
                    clear hb16 x1
                    go_wp2
                    go_ret
                    exact ⟨rfl, HB.out⟩
          · have e1 : (er != 0) = true := by simpa using he
            go_wp2_with fail
            refine (known_any w15).mono ?_
            rintro e w16 ⟨rfl, hb16⟩
            have HB := hide (T15.out.bl.trans (hb16.mono T15.out.bl.size))
            clear hb16
            go_wp2
            go_ret
            exact ⟨rfl, HB.out⟩
end Go.Proofs.Ytmjelcoljmefeaa
