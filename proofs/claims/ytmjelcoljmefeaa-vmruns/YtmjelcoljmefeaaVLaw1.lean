/-
  The walk of VmFuel.
-/
import Derived.Test.YtmjelcoljmefeaaVMath2
import Derived.IntWalk
namespace Go.Proofs.Ytmjelcoljmefeaa
open Go.RowKit
set_option maxRecDepth 20000
set_option maxHeartbeats 2000000

/-- A case in its box (block q), its rows, what is below. -/
structure TCs (w0 : World) (B q : Nat) (K : CD) (l : List (Int × Int)) (old first ins : List Int) (w : World) : Prop where
  b : Blk w q 27 (caseC K)
  r : CR w B K l old first ins
  bl : Below w0.heap.size w0 w
  B : B ≤ w0.heap.size
section
variable {w0 w w' : World} {B q : Nat} {K : CD} {l : List (Int × Int)} {old first ins : List Int}
theorem TCs.keep (t : TCs w0 B q K l old first ins w) (hb : Below w.heap.size w w') : TCs w0 B q K l old first ins w' := ⟨t.b.keep hb t.b.lt, t.r.keep hb (Nat.le_trans t.B t.bl.size), t.bl.trans (hb.mono t.bl.size), t.B⟩
theorem TCs.alloc (t : TCs w0 B q K l old first ins w) (o : Obj) : TCs w0 B q K l old first ins (w.alloc o) := t.keep ((Below.refl _ w).alloc (Nat.le_refl _) o)
theorem TCs.drew (t : TCs w0 B q K l old first ins w) : TCs w0 B q K l old first ins w.drew := t.keep (Below.refl _ w).drew
theorem TCs.drewN (t : TCs w0 B q K l old first ins w) (k : Nat) : TCs w0 B q K l old first ins (w.drewN k) := t.keep ⟨rfl, rfl, rfl, Nat.le_refl _, fun _ _ => rfl⟩
theorem TCs.start {w : World} (h : CR w B K l old first ins) (hB : B ≤ w.heap.size) : TCs w B w.heap.size K l old first ins (w.alloc (.cells #[.slice K.A K.n K.c, .int .i64 K.f.s, .int .i64 K.f.o, .int .i64 K.f.n, .int .i64 K.f.i, .int .i64 K.f.u, .slice K.oA K.no K.oc, .slice K.fA K.nf K.fc, .slice K.iA K.ni K.ic, .int .i64 K.fu] 27)) :=
  ⟨Blk.new w _ (caseC K), h.keep ((Below.refl _ w).alloc (Nat.le_refl _) _) hB, (Below.refl _ w).alloc (Nat.le_refl _) _, hB⟩
theorem TCs.le (t : TCs w0 B q K l old first ins w) : B ≤ w.heap.size := Nat.le_trans t.B t.bl.size
end
/-- A result in its variable (block g), its rows. -/
structure TR (base g : Nat) (A A' : Option Addr) (n c n' c' : Nat) (ce ou : List Int) (us : Int) (w : World) : Prop where
  b : Blk w g 33 [.slice A n c, .slice A' n' c', .int .i64 us]
  o1 : w.ownsRow base 21 1 (.slice A n c) n (c32 ce)
  o2 : w.ownsRow base 21 1 (.slice A' n' c') n' (c32 ou)
section
variable {w w' : World} {base g n c n' c' : Nat} {A A' : Option Addr} {ce ou : List Int} {us : Int}
theorem TR.keep (t : TR base g A A' n c n' c' ce ou us w) (hb : Below w.heap.size w w') : TR base g A A' n c n' c' ce ou us w' := ⟨t.b.keep hb t.b.lt, own_below t.o1 hb (Nat.le_refl _), own_below t.o2 hb (Nat.le_refl _)⟩
theorem TR.alloc (t : TR base g A A' n c n' c' ce ou us w) (o : Obj) : TR base g A A' n c n' c' ce ou us (w.alloc o) := t.keep ((Below.refl _ w).alloc (Nat.le_refl _) o)
theorem TR.drew (t : TR base g A A' n c n' c' ce ou us w) : TR base g A A' n c n' c' ce ou us w.drew := t.keep (Below.refl _ w).drew
theorem TR.drewN (t : TR base g A A' n c n' c' ce ou us w) (k : Nat) : TR base g A A' n c n' c' ce ou us (w.drewN k) := t.keep ⟨rfl, rfl, rfl, Nat.le_refl _, fun _ _ => rfl⟩
theorem TR.start {w : World} (o1 : w.ownsRow base 21 1 (.slice A n c) n (c32 ce)) (o2 : w.ownsRow base 21 1 (.slice A' n' c') n' (c32 ou)) : TR base w.heap.size A A' n c n' c' ce ou us (w.alloc (.cells #[.slice A n c, .slice A' n' c', .int .i64 us] 33)) :=
  ⟨Blk.new w _ [.slice A n c, .slice A' n' c', .int .i64 us], o1.alloc _, o2.alloc _⟩
theorem TR.r1 (t : TR base g A A' n c n' c' ce ou us w) : Row w w.heap.size A n c (c32 ce) := Row.of_own t.o1
theorem TR.r2 (t : TR base g A A' n c n' c' ce ou us w) : Row w w.heap.size A' n' c' (c32 ou) := Row.of_own t.o2
end
/-- The cells that are read, in any world. -/
def SCell (q g : Nat) (K : CD) (us : Int) (W : World) : Prop := (W.cell? ⟨q, 0, none⟩ = some (.slice K.A K.n K.c) ∧ W.cell? ⟨q, 1, none⟩ = some (.int .i64 K.f.s) ∧ W.cell? ⟨q, 2, none⟩ = some (.int .i64 K.f.o) ∧ W.cell? ⟨q, 3, none⟩ = some (.int .i64 K.f.n) ∧ W.cell? ⟨q, 4, none⟩ = some (.int .i64 K.f.i) ∧ W.cell? ⟨q, 5, none⟩ = some (.int .i64 K.f.u) ∧ W.cell? ⟨q, 6, none⟩ = some (.slice K.oA K.no K.oc) ∧ W.cell? ⟨q, 7, none⟩ = some (.slice K.fA K.nf K.fc) ∧ W.cell? ⟨q, 8, none⟩ = some (.slice K.iA K.ni K.ic) ∧ W.cell? ⟨q, 9, none⟩ = some (.int .i64 K.fu)) ∧ W.cell? ⟨g, 2, none⟩ = some (.int .i64 us)
theorem scell {w0 w : World} {B q : Nat} {K : CD} {l : List (Int × Int)} {old first ins : List Int} {base g n c n' c' : Nat} {A A' : Option Addr} {ce ou : List Int} {us : Int} (t : TCs w0 B q K l old first ins w) (x : TR base g A A' n c n' c' ce ou us w) : SCell q g K us w :=
  ⟨⟨t.b.cell (j := 0) rfl, t.b.cell (j := 1) rfl, t.b.cell (j := 2) rfl, t.b.cell (j := 3) rfl, t.b.cell (j := 4) rfl, t.b.cell (j := 5) rfl, t.b.cell (j := 6) rfl, t.b.cell (j := 7) rfl, t.b.cell (j := 8) rfl, t.b.cell (j := 9) rfl⟩, x.b.cell (j := 2) rfl⟩
def TrueP (w : World) (e : Ending) (w' : World) : Prop := e = .returned (.bool true) ∧ Below w.heap.size w w'
theorem fuel_dark (K : CD) (more : Int) (w : World) (H : Hid (lightB K = false)) :
    Calls Try.prog 5 #[.agg #[.slice K.A K.n K.c, .int .i64 K.f.s, .int .i64 K.f.o, .int .i64 K.f.n, .int .i64 K.f.i, .int .i64 K.f.u, .slice K.oA K.no K.oc, .slice K.fA K.nf K.fc, .slice K.iA K.ni K.ic, .int .i64 K.fu], .int .u16 more] w (TrueP w) := by
  go_enter Try.func5, Try.ntmps5
  go_wp2_with fail
  refine (light_b K false _ H).mono ?_
  rintro e w1 ⟨rfl, hb1⟩
  go_wp2_with fail
  refine (known_any w1).mono ?_
  rintro e w2 ⟨rfl, hb2⟩
  go_wp2
  go_ret
  exact ⟨rfl, (((Below.refl _ w).alloc (Nat.le_refl _) _).trans (hb1.mono (by simp))).trans (hb2.mono (by have := hb1.size; simp at this; omega))⟩
theorem fuel_walk (K : CD) (more : Int) (hm0 : 0 ≤ more) (hm1 : more ≤ 65535) (B : Nat) (l : List (Int × Int)) (old first ins : List Int) (w : World) (h : CR w B K l old first ins) (hB : B ≤ w.heap.size) (H : Hid (lightB K = true)) :
    Calls Try.prog 5 #[.agg #[.slice K.A K.n K.c, .int .i64 K.f.s, .int .i64 K.f.o, .int .i64 K.f.n, .int .i64 K.f.i, .int .i64 K.f.u, .slice K.oA K.no K.oc, .slice K.fA K.nf K.fc, .slice K.iA K.ni K.ic, .int .i64 K.fu], .int .u16 more] w (TrueP w) := by
  obtain ⟨er, ce, ou, us, hV⟩ : ∃ er ce ou us, vmV K.f l old first ins K.fu = (er, ce, ou, us) := ⟨_, _, _, _, rfl⟩
  have T0 := hide (TCs.start h hB)
  have HZ := hide (And.intro (fun he : er ≠ 0 => by have := vm_zero (f := K.f) (l := l) (old := old) (first := first) (ins := ins) (x := K.fu) (by rw [hV]; exact he); rw [hV] at this; exact this)
    (And.intro (fun he : er = 0 => fuel_vm (f := K.f) (l := l) (old := old) (first := first) (ins := ins) (x := K.fu) (by rw [hV]; exact he))
      (And.intro (fun he : er = 0 => vm_lens (f := K.f) (l := l) (old := old) (first := first) (ins := ins) (x := K.fu) (by rw [hV]; exact he) h.ro h.ri h.rf h.cl.oks) (fun he : er = 0 => vm_used (f := K.f) (l := l) (old := old) (first := first) (ins := ins) (x := K.fu) (by rw [hV]; exact he) h.ro h.ri h.rf h.cl.oks))))
  rw [hV] at HZ
  have HV := hide hV
  clear hV h
  go_enter Try.func5, Try.ntmps5
  go_wp2_with fail
  generalize w.alloc (.cells #[.slice K.A K.n K.c, .int .i64 K.f.s, .int .i64 K.f.o, .int .i64 K.f.n, .int .i64 K.f.i, .int .i64 K.f.u, .slice K.oA K.no K.oc, .slice K.fA K.nf K.fc, .slice K.iA K.ni K.ic, .int .i64 K.fu] 27) = w1 at T0 ⊢
  refine (light_b K true w1 H).mono ?_
  rintro e w2 ⟨rfl, hb2⟩
  have T2 := hide (T0.out.keep hb2)
  clear T0 hb2
  generalize w.heap.size = q at T2 ⊢
  by_cases he : er = 0
  · obtain ⟨hF, ⟨hc1, hc2, hus⟩, h600⟩ := And.intro (HZ.out.2.1 he) (And.intro (HZ.out.2.2.1 he) (HZ.out.2.2.2 he))
    subst he
    have HF := hide hF
    clear hF hc1 hc2 HZ
    have c0 := T2.out.b.cell (j := 0) rfl
    have c1 := T2.out.b.cell (j := 1) rfl
    have c2 := T2.out.b.cell (j := 2) rfl
    have c3 := T2.out.b.cell (j := 3) rfl
    have c4 := T2.out.b.cell (j := 4) rfl
    have c5 := T2.out.b.cell (j := 5) rfl
    have c6 := T2.out.b.cell (j := 6) rfl
    have c7 := T2.out.b.cell (j := 7) rfl
    have c8 := T2.out.b.cell (j := 8) rfl
    have c9 := T2.out.b.cell (j := 9) rfl
    go_wp2_with fail
    refine (lrun_any K.fu w2 T2.out.r T2.out.le).mono ?_
    intro e w3 hp
    obtain ⟨A, c, A', c', rfl, o1, o2, hb3⟩ := runP_is (er := 0) (us := (us : Int)) hp (by rw [HV.out]) (by rw [HV.out]) (by rw [HV.out]) (by rw [HV.out]) _ _ rfl rfl
    clear c0 c1 c2 c3 c4 c5 c6 c7 c8 c9
    have T3 := hide ((T2.out.keep hb3).alloc (.cells #[.slice A ce.length c, .slice A' ou.length c', .int .i64 (us : Int)] 33))
    have X3 := hide (TR.start (us := (us : Int)) o1 o2)
    clear T2 hp o1 o2 hb3
    have d1 : decide ((us : Int) < 0) = false := by simp
    have d2 : decide (K.fu < (us : Int)) = false := by simp; omega
    go_upto_region 4 with (fail)
    generalize w3.alloc (.cells #[.slice A ce.length c, .slice A' ou.length c', .int .i64 (us : Int)] 33) = w4 at T3 X3 ⊢
    generalize w3.heap.size = g at X3 ⊢
    have x0 := X3.out.b.cell (j := 0) rfl
    have x1 := X3.out.b.cell (j := 1) rfl
    have x2 := X3.out.b.cell (j := 2) rfl
    have c0 := T3.out.b.cell (j := 0) rfl
    have c1 := T3.out.b.cell (j := 1) rfl
    have c2 := T3.out.b.cell (j := 2) rfl
    have c3 := T3.out.b.cell (j := 3) rfl
    have c4 := T3.out.b.cell (j := 4) rfl
    have c5 := T3.out.b.cell (j := 5) rfl
    have c6 := T3.out.b.cell (j := 6) rfl
    have c7 := T3.out.b.cell (j := 7) rfl
    have c8 := T3.out.b.cell (j := 8) rfl
    have c9 := T3.out.b.cell (j := 9) rfl
    go_wp2_with fail
    refine (lrun_any _ w4 T3.out.r T3.out.le).mono ?_
    intro e w5 hp
    have HV2 := hide ((HF.out ((us : Int) + more) (by omega)).1 (by omega))
    obtain ⟨D, d, D', d', rfl, o1, o2, hb5⟩ := runP_is (er := 0) (us := (us : Int)) hp (by rw [HV2.out]) (by rw [HV2.out]) (by rw [HV2.out]) (by rw [HV2.out]) _ _ rfl rfl
    clear x0 x1 x2 HV2
    clear c0 c1 c2 c3 c4 c5 c6 c7 c8 c9
    have T5 := hide ((T3.out.keep hb5).alloc (.cells #[.slice D ce.length d, .slice D' ou.length d', .int .i64 (us : Int)] 33))
    have Y5 := hide (TR.start (us := (us : Int)) o1 o2)
    have X5 := hide ((X3.out.keep hb5).alloc (.cells #[.slice D ce.length d, .slice D' ou.length d', .int .i64 (us : Int)] 33))
    clear T3 hp o1 o2 hb5 X3
    go_upto_region 9 with (fail)
    generalize w5.alloc (.cells #[.slice D ce.length d, .slice D' ou.length d', .int .i64 (us : Int)] 33) = w6 at T5 X5 Y5 ⊢
    generalize w5.heap.size = g2 at Y5 ⊢
    have x0 := X5.out.b.cell (j := 0) rfl
    have x1 := X5.out.b.cell (j := 1) rfl
    have x2 := X5.out.b.cell (j := 2) rfl
    have y0 := Y5.out.b.cell (j := 0) rfl
    have y1 := Y5.out.b.cell (j := 1) rfl
    have y2 := Y5.out.b.cell (j := 2) rfl
    go_wp2_with fail
    refine (Ints_same _ _ _ _ _ _ _ _ ce w6 X5.out.r1 Y5.out.r1).mono ?_
    rintro e w7 ⟨k7, rfl, rfl⟩
    have T7 := hide (T5.out.drewN k7)
    have X7 := hide (X5.out.drewN k7)
    have Y7 := hide (Y5.out.drewN k7)
    clear T5 X5 Y5 x0 x1 x2 y0 y1 y2
    generalize w6.drewN k7 = w7 at T7 X7 Y7 ⊢
    have x0 := X7.out.b.cell (j := 0) rfl
    have x1 := X7.out.b.cell (j := 1) rfl
    have x2 := X7.out.b.cell (j := 2) rfl
    have y0 := Y7.out.b.cell (j := 0) rfl
    have y1 := Y7.out.b.cell (j := 1) rfl
    have y2 := Y7.out.b.cell (j := 2) rfl
    go_wp2_with fail
    refine (Ints_same _ _ _ _ _ _ _ _ ou w7 X7.out.r2 Y7.out.r2).mono ?_
    rintro e w8 ⟨k8, rfl, rfl⟩
    have T8 := hide (T7.out.drewN k8)
    have X8 := hide (X7.out.drewN k8)
    clear T7 X7 Y7 x0 x1 x2 y0 y1 y2
    generalize w7.drewN k8 = w8 at T8 X8 ⊢
    have x2 := X8.out.b.cell (j := 2) rfl
    by_cases hp : 0 < us
    · have d3 : decide (0 < us) = true := decide_eq_true hp
      have d3' : decide ((0 : Int) < (us : Int)) = true := by simp; omega
      go_upto_region 12 with (fail)
      have hmod : 0 ≤ more.tmod (us : Int) ∧ more.tmod (us : Int) < (us : Int) := by
        rw [Int.tmod_eq_emod_of_nonneg hm0]
        exact ⟨Int.emod_nonneg _ (by omega), Int.emod_lt_of_pos _ (by omega)⟩
      have HV3 := hide ((HF.out (more.tmod (us : Int)) hmod.1).2 hmod.2)
      have hne : ¬ us = 0 := by omega
      obtain ⟨md, hmd⟩ : ∃ md, more.tmod (us : Int) = md := ⟨_, rfl⟩
      rw [hmd] at HV3 hmod
      have S8 := scell T8.out.drew X8.out.drew
      have T9 := hide T8.out.drew
      have X9 := hide X8.out.drew
      have HMD := hide (And.intro hne hmd)
      have HW := hide (IntWalk.i64_in more (by omega))
      clear T8 X8 x2 hmd
      refine wp_region_held_drew (S := SCell q g K (us : Int)) (by kernel_rfl) S8 (fun hS0 => ?_)
      generalize w8.drew = v0 at T9 X9 hS0 S8 ⊢
      refine wpAnyH_take (i := 0) (v := .agg #[.slice K.A K.n K.c, .int .i64 K.f.s, .int .i64 K.f.o, .int .i64 K.f.n, .int .i64 K.f.i, .int .i64 K.f.u, .slice K.oA K.no K.oc, .slice K.fA K.nf K.fc, .slice K.iA K.ni K.ic, .int .i64 K.fu]) rfl (by kernel_rfl) (by kernel_rfl) (by kernel_rfl) (fun _ _ _ h => h) (Or.inl ⟨by rfl, fun w h => by obtain ⟨⟨h0, h1, h2, h3, h4, h5, h6, h7, h8, h9⟩, _⟩ := h; go_simp⟩) (by assumption) ?_
      simp only [List.getElem_toArray, List.getElem_cons_zero, Act.put, List.setIfInBounds_toArray, List.set_cons_zero, List.set_cons_succ]
      refine wpAnyH_take (i := 1) (v := .int .u16 more) rfl (by kernel_rfl) (by kernel_rfl) (by kernel_rfl) (fun _ _ _ h => h) (Or.inl ⟨by rfl, fun w _ => by go_simp⟩) (by assumption) ?_
      simp only [List.getElem_toArray, List.getElem_cons_zero, List.getElem_cons_succ, Act.put, List.setIfInBounds_toArray, List.set_cons_zero, List.set_cons_succ]
      refine wpAnyH_take (i := 2) (v := .int .i64 more) rfl (by kernel_rfl) (by kernel_rfl) (by kernel_rfl) (fun _ _ _ h => h) (Or.inl ⟨by rfl, fun w h => by have h9 := HW.out; go_simp⟩) (by assumption) ?_
      simp only [List.getElem_toArray, List.getElem_cons_zero, List.getElem_cons_succ, Act.put, List.setIfInBounds_toArray, List.set_cons_zero, List.set_cons_succ]
      refine wpAnyH_take (i := 3) (v := .pointer (some ⟨g, 2, none⟩)) rfl (by kernel_rfl) (by kernel_rfl) (by kernel_rfl) (fun _ _ _ h => h) (Or.inl ⟨by rfl, fun w _ => by go_simp⟩) (by assumption) ?_
      simp only [List.getElem_toArray, List.getElem_cons_zero, List.getElem_cons_succ, Act.put, List.setIfInBounds_toArray, List.set_cons_zero, List.set_cons_succ]
      refine wpAnyH_take (i := 4) (v := .int .i64 (us : Int)) rfl (by kernel_rfl) (by kernel_rfl) (by kernel_rfl) (fun _ _ _ h => h) (Or.inl ⟨by rfl, fun w h => by have h9 := h.2; go_simp⟩) (by assumption) ?_
      simp only [List.getElem_toArray, List.getElem_cons_zero, List.getElem_cons_succ, Act.put, List.setIfInBounds_toArray, List.set_cons_zero, List.set_cons_succ]
      refine wpAnyH_take (i := 5) (v := .int .i64 md) rfl (by kernel_rfl) (by kernel_rfl) (by kernel_rfl) (fun _ _ _ h => h) (Or.inl ⟨by rfl, fun w h => by have h8 := HMD.out.1; have h9 := HMD.out.2; go_simp⟩) (by assumption) ?_
      simp only [List.getElem_toArray, List.getElem_cons_zero, List.getElem_cons_succ, Act.put, List.setIfInBounds_toArray, List.set_cons_zero, List.set_cons_succ]
      refine wpAnyH_ready (rs := [6, 10]) (by kernel_rfl) (by simp) ?_
      refine AllReadyH.cons rfl (fun K hKK => ?_) (AllReadyH.cons rfl (fun K hKK => ?_) AllReadyH.nil)
      · go_simp
        refine (lrun_any md v0 T9.out.r T9.out.le).mono ?_
        intro e v1 hp
        obtain ⟨D2, d2', D3, d3'', rfl, _, _, hb1⟩ := runP_is (er := 14) (us := 0) hp (by rw [HV3.out]) (by rw [HV3.out]) (by rw [HV3.out]) (by rw [HV3.out]; rfl) 0 0 rfl rfl
        clear hp
        refine hKK.out _ _ (scell (T9.out.keep hb1) (X9.out.keep hb1)) (fun hS6 => ?_)
        clear hKK
        refine wpAnyH_take (i := 7) (v := .tuple #[.agg #[.slice D2 0 d2', .slice D3 0 d3'', .int .i64 0], .int .i64 14]) rfl (by kernel_rfl) (by kernel_rfl) (by kernel_rfl) (fun _ _ _ h => h) (Or.inl ⟨by rfl, fun w _ => by go_simp⟩) (by assumption) ?_
        simp only [List.getElem_toArray, List.getElem_cons_zero, List.getElem_cons_succ, Act.put, List.setIfInBounds_toArray, List.set_cons_zero, List.set_cons_succ]
        refine wpAnyH_take (i := 8) (v := .agg #[.slice D2 0 d2', .slice D3 0 d3'', .int .i64 0]) rfl (by kernel_rfl) (by kernel_rfl) (by kernel_rfl) (fun _ _ _ h => h) (Or.inl ⟨by rfl, fun w _ => by go_simp⟩) (by assumption) ?_
        simp only [List.getElem_toArray, List.getElem_cons_zero, List.getElem_cons_succ, Act.put, List.setIfInBounds_toArray, List.set_cons_zero, List.set_cons_succ]
        refine wpAnyH_take (i := 9) (v := .int .i64 14) rfl (by kernel_rfl) (by kernel_rfl) (by kernel_rfl) (fun _ _ _ h => h) (Or.inl ⟨by rfl, fun w _ => by go_simp⟩) (by assumption) ?_
        simp only [List.getElem_toArray, List.getElem_cons_zero, List.getElem_cons_succ, Act.put, List.setIfInBounds_toArray, List.set_cons_zero, List.set_cons_succ]
        refine wpAnyH_ready (rs := [10]) (by kernel_rfl) (by simp) ?_
        refine AllReadyH.cons rfl (fun K hKK => ?_) AllReadyH.nil
        go_simp
        have hb2 := hb1.alloc hb1.size (.cells #[.slice none 0 0, .slice none 0 0, .int .i64 0] 33)
        have bN := Blk.new v1 33 [.slice none 0 0, .slice none 0 0, .int .i64 0]
        have hg9 := hb1.size
        generalize v1.alloc (.cells #[.slice none 0 0, .slice none 0 0, .int .i64 0] 33) = v2 at hb2 bN ⊢
        generalize v1.heap.size = g9 at bN hg9 ⊢
        refine hKK.out _ _ (scell (T9.out.keep hb2) (X9.out.keep hb2)) (fun hS10 => ?_)
        clear hKK
        refine wpAnyH_ready (rs := [11]) (by kernel_rfl) (by simp) ?_
        refine AllReadyH.cons rfl (fun K hKK => ?_) AllReadyH.nil
        have f0 := bN.frozen 0
        have f1 := bN.frozen 1
        have f2 := bN.frozen 2
        have z0 := bN.cell (j := 0) rfl
        have z1 := bN.cell (j := 1) rfl
        have z2 := bN.cell (j := 2) rfl
        go_simp
        have hb3 := below_set (below_set (below_set hb2 (j := 0) hg9 (.slice D2 0 d2')) (j := 1) hg9 (.slice D3 0 d3'')) (j := 2) hg9 (.int .i64 0)
        generalize ((v2.setCell ⟨g9, 0, none⟩ (.slice D2 0 d2')).setCell ⟨g9, 1, none⟩ (.slice D3 0 d3'')).setCell ⟨g9, 2, none⟩ (.int .i64 0) = v3 at hb3 ⊢
        refine hKK.out _ _ (scell (T9.out.keep hb3) (X9.out.keep hb3)) (fun hS11 => ?_)
        clear hKK f0 f1 f2 z0 z1 z2
        refine wpAnyH_take (i := 12) (v := .int .i64 14) rfl (by kernel_rfl) (by kernel_rfl) (by kernel_rfl) (fun _ _ _ h => h) (Or.inl ⟨by rfl, fun w _ => by go_simp⟩) (by assumption) ?_
        simp only [List.getElem_toArray, List.getElem_cons_zero, List.getElem_cons_succ, Act.put, List.setIfInBounds_toArray, List.set_cons_zero, List.set_cons_succ]
        refine wpAnyH_done (by kernel_rfl) ?_ _
        clear S8 hS0 hS6 hS10 hS11
        go_wp2_with fail
        refine (known_any v3).mono ?_
        rintro e v4 ⟨rfl, hb4⟩
        have HB := hide ((T9.out.keep hb3).bl.trans (hb4.mono (T9.out.keep hb3).bl.size))
        clear hb4 hb3 hb2 hb1
        go_wp2
        go_ret
        exact ⟨rfl, HB.out⟩
      · go_simp
        have hb1 := (Below.refl v0.heap.size v0).alloc (Nat.le_refl _) (.cells #[.slice none 0 0, .slice none 0 0, .int .i64 0] 33)
        have bN := Blk.new v0 33 [.slice none 0 0, .slice none 0 0, .int .i64 0]
        have hg9 : v0.heap.size ≤ v0.heap.size := Nat.le_refl _
        have HS := hide (And.intro hb1 (And.intro bN hg9))
        clear hb1 bN hg9
        obtain ⟨v1, hv1⟩ : ∃ v1, v0.alloc (.cells #[.slice none 0 0, .slice none 0 0, .int .i64 0] 33) = v1 := ⟨_, rfl⟩
        obtain ⟨g9, hg9⟩ : ∃ g9, v0.heap.size = g9 := ⟨_, rfl⟩
        rw [hv1] at HS ⊢
        have HK := hide (And.intro (T9.out.keep HS.out.1) (X9.out.keep HS.out.1))
        rw [hg9] at HS ⊢
        clear hv1
        have HZ := hide hg9
        clear hg9
        refine hKK.out _ _ (scell HK.out.1 HK.out.2) (fun hS10 => ?_)
        clear hKK
        refine wpAnyH_ready (rs := [6]) (by kernel_rfl) (by simp) ?_
        refine AllReadyH.cons rfl (fun K hKK => ?_) AllReadyH.nil
        go_simp
        refine (lrun_any md v1 HK.out.1.r HK.out.1.le).mono ?_
        intro e v2 hp
        obtain ⟨D2, d2', D3, d3'', rfl, _, _, hb2⟩ := runP_is (er := 14) (us := 0) hp (by rw [HV3.out]) (by rw [HV3.out]) (by rw [HV3.out]) (by rw [HV3.out]; rfl) 0 0 rfl rfl
        clear hp
        have bN := HS.out.2.1.keep hb2 HS.out.2.1.lt
        have hb2' : Below v0.heap.size v0 v2 := by have := HS.out.1; rw [← HZ.out] at this; exact this.trans (hb2.mono this.size)
        rw [HZ.out] at hb2'
        refine hKK.out _ _ (scell (HK.out.1.keep hb2) (HK.out.2.keep hb2)) (fun hS6 => ?_)
        clear hKK
        refine wpAnyH_take (i := 7) (v := .tuple #[.agg #[.slice D2 0 d2', .slice D3 0 d3'', .int .i64 0], .int .i64 14]) rfl (by kernel_rfl) (by kernel_rfl) (by kernel_rfl) (fun _ _ _ h => h) (Or.inl ⟨by rfl, fun w _ => by go_simp⟩) (by assumption) ?_
        simp only [List.getElem_toArray, List.getElem_cons_zero, List.getElem_cons_succ, Act.put, List.setIfInBounds_toArray, List.set_cons_zero, List.set_cons_succ]
        refine wpAnyH_take (i := 8) (v := .agg #[.slice D2 0 d2', .slice D3 0 d3'', .int .i64 0]) rfl (by kernel_rfl) (by kernel_rfl) (by kernel_rfl) (fun _ _ _ h => h) (Or.inl ⟨by rfl, fun w _ => by go_simp⟩) (by assumption) ?_
        simp only [List.getElem_toArray, List.getElem_cons_zero, List.getElem_cons_succ, Act.put, List.setIfInBounds_toArray, List.set_cons_zero, List.set_cons_succ]
        refine wpAnyH_take (i := 9) (v := .int .i64 14) rfl (by kernel_rfl) (by kernel_rfl) (by kernel_rfl) (fun _ _ _ h => h) (Or.inl ⟨by rfl, fun w _ => by go_simp⟩) (by assumption) ?_
        simp only [List.getElem_toArray, List.getElem_cons_zero, List.getElem_cons_succ, Act.put, List.setIfInBounds_toArray, List.set_cons_zero, List.set_cons_succ]
        refine wpAnyH_ready (rs := [11]) (by kernel_rfl) (by simp) ?_
        refine AllReadyH.cons rfl (fun K hKK => ?_) AllReadyH.nil
        have f0 := bN.frozen 0
        have f1 := bN.frozen 1
        have f2 := bN.frozen 2
        have z0 := bN.cell (j := 0) rfl
        have z1 := bN.cell (j := 1) rfl
        have z2 := bN.cell (j := 2) rfl
        go_simp
        have hb3 := below_set (below_set (below_set hb2' (j := 0) (Nat.le_refl g9) (.slice D2 0 d2')) (j := 1) (Nat.le_refl g9) (.slice D3 0 d3'')) (j := 2) (Nat.le_refl g9) (.int .i64 0)
        generalize ((v2.setCell ⟨g9, 0, none⟩ (.slice D2 0 d2')).setCell ⟨g9, 1, none⟩ (.slice D3 0 d3'')).setCell ⟨g9, 2, none⟩ (.int .i64 0) = v3 at hb3 ⊢
        rw [← HZ.out] at hb3
        refine hKK.out _ _ (scell (T9.out.keep hb3) (X9.out.keep hb3)) (fun hS11 => ?_)
        clear hKK f0 f1 f2 z0 z1 z2
        refine wpAnyH_take (i := 12) (v := .int .i64 14) rfl (by kernel_rfl) (by kernel_rfl) (by kernel_rfl) (fun _ _ _ h => h) (Or.inl ⟨by rfl, fun w _ => by go_simp⟩) (by assumption) ?_
        simp only [List.getElem_toArray, List.getElem_cons_zero, List.getElem_cons_succ, Act.put, List.setIfInBounds_toArray, List.set_cons_zero, List.set_cons_succ]
        refine wpAnyH_done (by kernel_rfl) ?_ _
        clear S8 hS0 hS6 hS10 hS11
        go_wp2_with fail
        refine (known_any v3).mono ?_
        rintro e v4 ⟨rfl, hb4⟩
        have HB := hide ((T9.out.keep hb3).bl.trans (hb4.mono (T9.out.keep hb3).bl.size))
        clear hb4 hb3 hb2 hb2'
        go_wp2
        go_ret
        exact ⟨rfl, HB.out⟩
    · have d3 : decide (0 < us) = false := decide_eq_false hp
      go_wp2_with fail
      refine (known_any w8).mono ?_
      rintro e w9 ⟨rfl, hb9⟩
      have HB := hide (T8.out.bl.trans (hb9.mono T8.out.bl.size))
      clear hb9 x2
      go_wp2
      go_ret
      exact ⟨rfl, HB.out⟩
  · have hz := HZ.out.1 he
    obtain ⟨rfl, rfl, rfl⟩ : ce = [] ∧ ou = [] ∧ us = 0 := by simpa using hz
    have e1 : (er != 0) = true := by simpa using he
    clear HZ hz
    have c0 := T2.out.b.cell (j := 0) rfl
    have c1 := T2.out.b.cell (j := 1) rfl
    have c2 := T2.out.b.cell (j := 2) rfl
    have c3 := T2.out.b.cell (j := 3) rfl
    have c4 := T2.out.b.cell (j := 4) rfl
    have c5 := T2.out.b.cell (j := 5) rfl
    have c6 := T2.out.b.cell (j := 6) rfl
    have c7 := T2.out.b.cell (j := 7) rfl
    have c8 := T2.out.b.cell (j := 8) rfl
    have c9 := T2.out.b.cell (j := 9) rfl
    go_wp2_with fail
    refine (lrun_any K.fu w2 T2.out.r T2.out.le).mono ?_
    intro e w3 hp
    obtain ⟨A, c, A', c', rfl, o1, o2, hb3⟩ := runP_is (er := er) (us := 0) hp (by rw [HV.out]) (by rw [HV.out]) (by rw [HV.out]) (by rw [HV.out]; rfl) 0 0 rfl rfl
    clear c0 c1 c2 c3 c4 c5 c6 c7 c8 c9
    have T3 := hide ((T2.out.keep hb3).alloc (.cells #[.slice A 0 c, .slice A' 0 c', .int .i64 0] 33))
    clear T2 hp o1 o2 hb3
    go_wp2_with fail
    refine (known_any _).mono ?_
    rintro e w4 ⟨rfl, hb4⟩
    have HB := hide (T3.out.bl.trans (hb4.mono T3.out.bl.size))
    clear hb4 T3
    go_wp2
    go_ret
    exact ⟨rfl, HB.out⟩
end Go.Proofs.Ytmjelcoljmefeaa
