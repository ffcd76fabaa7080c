/-
  Contract of package vm: Run as a whole.
-/
import Derived.Test.YtmjelcoljmefeaaVPkg7
namespace Go.Proofs.Ytmjelcoljmefeaa
open Go.RowKit
set_option maxRecDepth 20000
set_option maxHeartbeats 2000000

theorem vm_bad {f : Fr} {l : List (Int × Int)} {old first ins : List Int} {fuel : Int} (h : vbad f old.length first.length ins.length fuel) : vmV f l old first ins fuel = (1, [], [], 0) := if_pos h
theorem vm_big {f : Fr} {l : List (Int × Int)} {old first ins : List Int} {fuel : Int} (h : ¬ vbad f old.length first.length ins.length fuel) (h2 : 600 < l.length) : vmV f l old first ins fuel = (3, [], [], 0) := by unfold vmV; rw [if_neg h, if_pos h2]
theorem vm_run {f : Fr} {l : List (Int × Int)} {old first ins : List Int} {fuel : Int} (h : ¬ vbad f old.length first.length ins.length fuel) (h2 : ¬ 600 < l.length) : vmV f l old first ins fuel = vend (vrun f l old ins fuel.toNat 0 (vini f first)) := by unfold vmV; rw [if_neg h, if_neg h2]
theorem vbad_iff {f : Fr} {no nf ni : Nat} {fuel : Int} : vbad f no nf ni fuel ↔ (fitB f no nf ni = false ∨ (fitB f no nf ni = true ∧ fuel < 0)) := by
  unfold vbad fitB
  by_cases h1 : okF f <;> by_cases h2 : (no : Int) = f.o <;> by_cases h3 : (nf : Int) = f.n <;> by_cases h4 : (ni : Int) = f.i <;> simp [h1, h2, h3, h4]

/-- The frame in its box, the result and the fault in their variables. -/
structure RK (w0 : World) (F : List Value) (w : World) : Prop where
  bF : Blk w w0.heap.size 24 F
  bR : Blk w (w0.heap.size + 1) 33 [.slice none 0 0, .slice none 0 0, .int .i64 0]
  bE : Blk w (w0.heap.size + 1 + 1) 34 [.int .i64 0]
  bl : Below w0.heap.size w0 w
section
variable {w0 w w' : World} {F : List Value}
theorem RK.start (w : World) (F : List Value) : RK w F (((w.alloc (.cells F.toArray 24)).alloc (.cells #[.slice none 0 0, .slice none 0 0, .int .i64 0] 33)).alloc (.cells #[.int .i64 0] 34)) :=
  ⟨((Blk.new w _ F).alloc _).alloc _, (Blk.at (w.alloc _) _ [.slice none 0 0, .slice none 0 0, .int .i64 0] (by simp)).alloc _, Blk.at ((w.alloc _).alloc _) _ [.int .i64 0] (by simp), (((Below.refl _ w).alloc (Nat.le_refl _) _).alloc (by simp) _).alloc (by simp; omega) _⟩
theorem RK.keep (h : RK w0 F w) (hb : Below w.heap.size w w') : RK w0 F w' :=
  ⟨h.bF.keep hb h.bF.lt, h.bR.keep hb h.bR.lt, h.bE.keep hb h.bE.lt, h.bl.trans (hb.mono h.bl.size)⟩
end
abbrev frA (s1 s2 s3 s4 s5 : Int) : List Value := [.int .i64 s1, .int .i64 s2, .int .i64 s3, .int .i64 s4, .int .i64 s5]
theorem Run_bad (s1 s2 s3 s4 s5 : Int) (A oA fA iA : Option Addr) (n cc no oc nf fc ni ic : Nat) (l : List (Int × Int)) (old first ins : List Int) (fuel : Int) (w : World)
    (ho : old.length = no) (hf : first.length = nf) (hi : ins.length = ni) (hbad : vbad ⟨s1, s2, s3, s4, s5⟩ no nf ni fuel) :
    Calls Try.prog 12 #[.slice A n cc, .agg #[.int .i64 s1, .int .i64 s2, .int .i64 s3, .int .i64 s4, .int .i64 s5], .slice oA no oc, .slice fA nf fc, .slice iA ni ic, .int .i64 fuel] w
      (RunP (vmV ⟨s1, s2, s3, s4, s5⟩ l old first ins fuel) w) := by
  have HV := hide (vm_bad (l := l) (old := old) (first := first) (ins := ins) (fuel := fuel) (f := ⟨s1, s2, s3, s4, s5⟩) (by rw [ho, hf, hi]; exact hbad))
  have cs : (∃ b, fitB ⟨s1, s2, s3, s4, s5⟩ no nf ni = b ∧ (b = false ∨ (b = true ∧ fuel < 0))) := ⟨_, rfl, vbad_iff.1 hbad⟩
  obtain ⟨b, hb, cs⟩ := cs
  have HB := hide hb
  clear hbad hb ho hf hi
  rcases cs with rfl | ⟨rfl, hlt⟩
  all_goals
    go_enter_defers Try.func12, Try.ntmps12
    go_wp2_with fail
    have K := RK.start w (frA s1 s2 s3 s4 s5)
    generalize ((w.alloc (.cells #[.int .i64 s1, .int .i64 s2, .int .i64 s3, .int .i64 s4, .int .i64 s5] 24)).alloc (.cells #[.slice none 0 0, .slice none 0 0, .int .i64 0] 33)).alloc (.cells #[.int .i64 0] 34) = w1 at K ⊢
    refine (fits_b _ _ _ _ _ _ _ _ _ _ _ _ _ _ _ w1 HB).mono ?_
    rintro e w2 ⟨rfl, hb2⟩
    have K2 := hide (K.keep hb2)
    clear K hb2
    have r0 := K2.out.bR.frozen 0
    have r1 := K2.out.bR.frozen 1
    have r2 := K2.out.bR.frozen 2
    have e0 := K2.out.bE.frozen 0
    have y0 := K2.out.bR.cell (j := 0) rfl
    have y1 := K2.out.bR.cell (j := 1) rfl
    have y2 := K2.out.bR.cell (j := 2) rfl
    have z0 := K2.out.bE.cell (j := 0) rfl
    go_wp2
    exact ⟨_, run_results _ _ (w.heap.size + 1) (w.heap.size + 1 + 1) _ _ _ _ rfl rfl ((((K2.out.bR.set 0 _).set 1 _).set 2 _).other (by omega) 0 _) ((((K2.out.bE.other (by omega) 0 _).other (by omega) 1 _).other (by omega) 2 _).set 0 _), RunP.fault HV.out (below_set (below_set (below_set (below_set K2.out.bl (by omega) _) (by omega) _) (by omega) _) (by omega) _)⟩
theorem Run_big (s1 s2 s3 s4 s5 : Int) (A oA fA iA : Option Addr) (n cc no oc nf fc ni ic F : Nat) (l : List (Int × Int)) (old first ins : List Int) (w : World)
    (ho : old.length = no) (hf : first.length = nf) (hi : ins.length = ni) (hl : l.length = n) (hbad : ¬ vbad ⟨s1, s2, s3, s4, s5⟩ no nf ni (F : Int)) (h6 : 600 < n) :
    Calls Try.prog 12 #[.slice A n cc, .agg #[.int .i64 s1, .int .i64 s2, .int .i64 s3, .int .i64 s4, .int .i64 s5], .slice oA no oc, .slice fA nf fc, .slice iA ni ic, .int .i64 (F : Int)] w
      (RunP (vmV ⟨s1, s2, s3, s4, s5⟩ l old first ins (F : Int)) w) := by
  have HV := hide (vm_big (l := l) (old := old) (first := first) (ins := ins) (fuel := (F : Int)) (f := ⟨s1, s2, s3, s4, s5⟩) (by rw [ho, hf, hi]; exact hbad) (by omega))
  have hb : fitB ⟨s1, s2, s3, s4, s5⟩ no nf ni = true := by
    cases h : fitB ⟨s1, s2, s3, s4, s5⟩ no nf ni with
    | true => rfl
    | false => exact absurd (vbad_iff.2 (.inl h)) hbad
  have HB := hide hb
  have hd : decide ((600 : Int) < (n : Int)) = true := by simp; omega
  clear hbad hb ho hf hi hl
  go_enter_defers Try.func12, Try.ntmps12
  go_wp2_with fail
  have K := RK.start w (frA s1 s2 s3 s4 s5)
  generalize ((w.alloc (.cells #[.int .i64 s1, .int .i64 s2, .int .i64 s3, .int .i64 s4, .int .i64 s5] 24)).alloc (.cells #[.slice none 0 0, .slice none 0 0, .int .i64 0] 33)).alloc (.cells #[.int .i64 0] 34) = w1 at K ⊢
  refine (fits_b _ _ _ _ _ _ _ _ _ _ _ _ _ _ _ w1 HB).mono ?_
  rintro e w2 ⟨rfl, hb2⟩
  have K2 := hide (K.keep hb2)
  clear K hb2
  have r0 := K2.out.bR.frozen 0
  have r1 := K2.out.bR.frozen 1
  have r2 := K2.out.bR.frozen 2
  have e0 := K2.out.bE.frozen 0
  have y0 := K2.out.bR.cell (j := 0) rfl
  have y1 := K2.out.bR.cell (j := 1) rfl
  have y2 := K2.out.bR.cell (j := 2) rfl
  have z0 := K2.out.bE.cell (j := 0) rfl
  go_wp2
  exact ⟨_, run_results _ _ (w.heap.size + 1) (w.heap.size + 1 + 1) _ _ _ _ rfl rfl ((((K2.out.bR.set 0 _).set 1 _).set 2 _).other (by omega) 0 _) ((((K2.out.bE.other (by omega) 0 _).other (by omega) 1 _).other (by omega) 2 _).set 0 _), RunP.fault HV.out (below_set (below_set (below_set (below_set K2.out.bl (by omega) _) (by omega) _) (by omega) _) (by omega) _)⟩
theorem own_blk {w : World} {g base n : Nat} {t : TypeId} {xs : List Value} (hb : Blk w g t xs) (hg : base ≤ g) (hn : xs.length = n) (hm : n ≤ maxLen) : w.ownsRow base t 1 (.slice (some ⟨g, 0, none⟩) n n) n xs :=
  by subst hn; exact ⟨by omega, .inr ⟨g, xs.length, xs.toArray, rfl, hg, hb, Nat.le_refl _, hm, by simp, by simp⟩⟩
theorem vm_end {R : Int × Nat × VS} (h : R.1 = 0) : vend R = (0, R.2.2.ce, R.2.2.ou, R.2.1) := by unfold vend; rw [if_neg (by omega)]
theorem vm_fault {R : Int × Nat × VS} (h : R.1 ≠ 0) : vend R = (R.1, [], [], 0) := if_pos h
theorem Run_main (na no nb ni nc : Nat) (A oA fA iA : Option Addr) (n cc oc fc ic F B : Nat) (l : List (Int × Int)) (old first ins : List Int) (w : World) (hB : B ≤ w.heap.size)
    (hl : RowI w B A n cc l) (ho : Row w B oA no oc (c32 old)) (hf : Row w B fA nb fc (c32 first)) (hi : Row w B iA ni ic (c32 ins)) (ok : okF ⟨na, no, nb, ni, nc⟩) (hn : n ≤ 600) (gf : rngL first) (go : rngL old) (gi : rngL ins) :
    Calls Try.prog 12 #[.slice A n cc, .agg #[.int .i64 (na : Int), .int .i64 (no : Int), .int .i64 (nb : Int), .int .i64 (ni : Int), .int .i64 (nc : Int)], .slice oA no oc, .slice fA nb fc, .slice iA ni ic, .int .i64 (F : Int)] w
      (RunP (vmV ⟨na, no, nb, ni, nc⟩ l old first ins (F : Int)) w) := by
  have lo : old.length = no := by have := ho.len; rwa [c32_len] at this
  have lf : first.length = nb := by have := hf.len; rwa [c32_len] at this
  have li : ins.length = ni := by have := hi.len; rwa [c32_len] at this
  have hbad : ¬ vbad ⟨na, no, nb, ni, nc⟩ old.length first.length ins.length (F : Int) := by
    unfold vbad; rw [lo, lf, li]; simp [ok]
  obtain ⟨R, hR⟩ : ∃ R, vrun ⟨na, no, nb, ni, nc⟩ l old ins F 0 (vini ⟨na, no, nb, ni, nc⟩ first) = R := ⟨_, rfl⟩
  have hV := vm_run (l := l) (fuel := (F : Int)) hbad (by have := hl.len; omega)
  rw [Int.toNat_natCast, hR] at hV
  have HB := hide (show fitB ⟨na, no, nb, ni, nc⟩ no nb ni = true by unfold fitB; simp [ok])
  have hl6 : l.length = n := hl.len
  have HI := hide (vi_ini (f := ⟨na, no, nb, ni, nc⟩) (n := l.length) (first := first) ok (by rw [lf]) gf)
  have HE := hide (vi_run (f := ⟨na, no, nb, ni, nc⟩) (l := l) go gi (fun i hi => hl.oks i hi) F 0 _ HI.out)
  rw [hR] at HE
  rw [hV]
  have HR := hide hR
  have HG := hide (And.intro ok (And.intro go gi))
  have hd : decide ((600 : Int) < (n : Int)) = false := by simp; omega
  have HROW := hide (And.intro hl (And.intro ho (And.intro hf hi)))
  have hmf : ∀ (fn : Fn) (first cap : Array Value) (w : World), (Instr.makeFunc fn first cap).run Try.prog w = .ok (.func fn first cap) w := fun _ _ _ _ => rfl
  clear hR hV hbad lo lf li hl ho hf hi ok gf go gi hl6
  go_enter_defers Try.func12, Try.ntmps12
  go_wp2_with fail
  have K := RK.start w (frA na no nb ni nc)
  generalize ((w.alloc (.cells #[.int .i64 (na : Int), .int .i64 (no : Int), .int .i64 (nb : Int), .int .i64 (ni : Int), .int .i64 (nc : Int)] 24)).alloc (.cells #[.slice none 0 0, .slice none 0 0, .int .i64 0] 33)).alloc (.cells #[.int .i64 0] 34) = w1 at K ⊢
  refine (fits_b _ _ _ _ _ _ _ _ _ _ _ _ _ _ _ w1 HB).mono ?_
  rintro e w2 ⟨rfl, hb2⟩
  have K2 := hide (K.keep hb2)
  clear K hb2
  have y0 := K2.out.bF.cell (j := 0) rfl
  have y1 := K2.out.bF.cell (j := 1) rfl
  have y2 := K2.out.bF.cell (j := 2) rfl
  have y3 := K2.out.bF.cell (j := 3) rfl
  have y4 := K2.out.bF.cell (j := 4) rfl
  have hd0 : decide ((F : Int) < 0) = false := by simp
  go_wp2_with fail
  have hBs : B ≤ w2.heap.size := Nat.le_trans hB K2.out.bl.size
  have hbB := K2.out.bl
  refine (vbegin_any na no nb ni nc B A oA fA iA n cc oc fc ic l old first ins w2 hBs (HROW.out.1.keep (hbB.mono hB) (Nat.le_refl _)) (HROW.out.2.1.keep (hbB.mono hB) (Nat.le_refl _)) (HROW.out.2.2.1.keep (hbB.mono hB) (Nat.le_refl _)) (HROW.out.2.2.2.keep (hbB.mono hB) (Nat.le_refl _)) HG.out.1 hn).mono ?_
  rintro e w3 ⟨P, rfl, Ft, mac, hb3⟩
  have K3 := hide (K2.out.keep hb3)
  have HM := hide (And.intro Ft mac)
  have HL := hide (And.intro K2.out.bR.lt K2.out.bE.lt)
  clear K2 mac hb3 y0 y1 y2 y3 y4 hbB Ft
  go_wp2_with fail
  refine (run_any (f := ⟨na, no, nb, ni, nc⟩) w3 F R HM.out.1 HI.out HM.out.2 HG.out.2.1 HG.out.2.2 HR).mono ?_
  rintro e w4 (⟨h0, rfl, ⟨tA4, tc4, hm4⟩, hb4⟩ | ⟨h0, rfl, hb4⟩)
  · have bR4 := K3.out.bR.keep hb4 HL.out.1
    have bE4 := K3.out.bE.keep hb4 HL.out.2
    have bl4 := K3.out.bl.trans (hb4.mono (by have := HL.out.1; omega))
    have K4 := hide (And.intro bR4 (And.intro bE4 bl4))
    have HM4 := hide hm4
    clear hm4 hb4 bR4 bE4 bl4 HM K3
    go_upto_region 8 with (fail)
    refine wp_region_still_tail 13 (by kernel_rfl) (by kernel_rfl) ?_
    simp only [List.take_succ_cons, List.take_zero, List.drop_succ_cons, List.drop_zero]
    rw [show ({ heap := w4.heap, tape := w4.tape, drawn := w4.drawn + 1, os := w4.os, output := w4.output } : World) = w4.drew from rfl]
    replace K4 := hide (And.intro K4.out.1.drew (And.intro K4.out.2.1.drew (below_dn K4.out.2.2 1)))
    rw [show w4.drewN 1 = w4.drew from rfl] at K4
    replace HM4 := hide (HM4.out.drewN 1)
    rw [show w4.drewN 1 = w4.drew from rfl] at HM4
    generalize w4.drew = w5 at K4 HM4 ⊢
    have x4 := HM4.out.m.cell (j := 4) rfl
    have x5 := HM4.out.m.cell (j := 5) rfl
    have x8 := HM4.out.m.cell (j := 8) rfl
    repeat still_step
    refine wpStill_nil ?_
    clear x4 x5 x8
    have r0 := K4.out.1.frozen 0
    have r1 := K4.out.1.frozen 1
    have r2 := K4.out.1.frozen 2
    have e0 := K4.out.2.1.frozen 0
    have y0 := K4.out.1.cell (j := 0) rfl
    have y1 := K4.out.1.cell (j := 1) rfl
    have y2 := K4.out.1.cell (j := 2) rfl
    have z0 := K4.out.2.1.cell (j := 0) rfl
    go_wp2
    have hl1 := HL.out.1
    have hl2 := HL.out.2
    have hlo := HM4.out.lo
    have sb := (((HM4.out.sb.other (h := w.heap.size + 1) (by omega) 0 (.slice (some ⟨P.b, 0, none⟩) P.nb P.nb)).other (h := w.heap.size + 1) (by omega) 1 (.slice (some ⟨P.c, 0, none⟩) P.nc P.nc)).other (h := w.heap.size + 1) (by omega) 2 (.int .i64 (R.2.1 : Int))).other (h := w.heap.size + 1 + 1) (by omega) 0 (.int .i64 0)
    have sc := (((HM4.out.sc.other (h := w.heap.size + 1) (by omega) 0 (.slice (some ⟨P.b, 0, none⟩) P.nb P.nb)).other (h := w.heap.size + 1) (by omega) 1 (.slice (some ⟨P.c, 0, none⟩) P.nc P.nc)).other (h := w.heap.size + 1) (by omega) 2 (.int .i64 (R.2.1 : Int))).other (h := w.heap.size + 1 + 1) (by omega) 0 (.int .i64 0)
    have br := (((K4.out.1.set 0 (.slice (some ⟨P.b, 0, none⟩) P.nb P.nb)).set 1 (.slice (some ⟨P.c, 0, none⟩) P.nc P.nc)).set 2 (.int .i64 (R.2.1 : Int))).other (h := w.heap.size + 1 + 1) (by omega) 0 (.int .i64 0)
    have be := (((K4.out.2.1.other (h := w.heap.size + 1) (by omega) 0 (.slice (some ⟨P.b, 0, none⟩) P.nb P.nb)).other (h := w.heap.size + 1) (by omega) 1 (.slice (some ⟨P.c, 0, none⟩) P.nc P.nc)).other (h := w.heap.size + 1) (by omega) 2 (.int .i64 (R.2.1 : Int))).set 0 (.int .i64 0)
    have bl := below_set (below_set (below_set (below_set K4.out.2.2 (g := w.heap.size + 1) (j := 0) (by omega) (.slice (some ⟨P.b, 0, none⟩) P.nb P.nb)) (g := w.heap.size + 1) (j := 1) (by omega) (.slice (some ⟨P.c, 0, none⟩) P.nc P.nc)) (g := w.heap.size + 1) (j := 2) (by omega) (.int .i64 (R.2.1 : Int))) (g := w.heap.size + 1 + 1) (j := 0) (by omega) (.int .i64 0)
    have hX := vm_end h0
    have lb := HM4.out.lb
    have lc := HM4.out.lc
    have h16 : P.nb ≤ 16 ∧ P.nc ≤ 8 := by
      have h1 := HE.out.lc
      have h2 := HE.out.lo
      have h3 := HG.out.1.2.2.1
      have h4 := HG.out.1.2.2.2.2
      simp only at h1 h2 h3 h4
      omega
    refine leaves_cons (f := 21) (args := #[.pointer (some ⟨w.heap.size + 1, 0, none⟩), .pointer (some ⟨w.heap.size + 1 + 1, 0, none⟩)]) (by simp) (by simp [go_sem]) ?_
    refine (catch_idle _ _ _).mono ?_
    rintro e u' w6 ⟨rfl, rfl, rfl⟩
    refine ⟨_, run_results _ _ (w.heap.size + 1) (w.heap.size + 1 + 1) _ _ _ _ rfl rfl br be, ?_⟩
    rw [hX]
    refine ⟨some ⟨P.b, 0, none⟩, P.nb, some ⟨P.c, 0, none⟩, P.nc, ?_, ?_, ?_, bl⟩
    · simp only [lb, lc]
    · simp only [lb]
      exact own_blk sb (by omega) (by rw [c32_len, lb]) (by unfold maxLen; omega)
    · simp only [lc]
      exact own_blk sc (by omega) (by rw [c32_len, lc]) (by unfold maxLen; omega)
  · have bR4 := K3.out.bR.keep hb4 HL.out.1
    have bE4 := K3.out.bE.keep hb4 HL.out.2
    have bl4 := K3.out.bl.trans (hb4.mono (by have := HL.out.1; omega))
    have HX := hide (vm_fault h0)
    refine leaves_cons (f := 21) (args := #[.pointer (some ⟨w.heap.size + 1, 0, none⟩), .pointer (some ⟨w.heap.size + 1 + 1, 0, none⟩)]) (by simp) (by simp [go_sem]) ?_
    refine (catch_panic w.heap.size _ _ _ _ _ _ _ [] w4 bR4 bE4 (by omega) (by omega) (by omega)).mono ?_
    rintro e u' w5 ⟨rfl, rfl, c1, c2, hb5⟩
    exact ⟨_, run_results _ _ (w.heap.size + 1) (w.heap.size + 1 + 1) _ _ _ _ rfl rfl c1 c2, RunP.fault HX.out (bl4.trans hb5)⟩
theorem Run_any (f : Fr) (A oA fA iA : Option Addr) (n cc no oc nf fc ni ic B : Nat) (fuel : Int) (l : List (Int × Int)) (old first ins : List Int) (w : World) (hB : B ≤ w.heap.size)
    (hl : RowI w B A n cc l) (ho : Row w B oA no oc (c32 old)) (hf : Row w B fA nf fc (c32 first)) (hi : Row w B iA ni ic (c32 ins)) (gf : rngL first) (go : rngL old) (gi : rngL ins) :
    Calls Try.prog 12 #[.slice A n cc, .agg #[.int .i64 f.s, .int .i64 f.o, .int .i64 f.n, .int .i64 f.i, .int .i64 f.u], .slice oA no oc, .slice fA nf fc, .slice iA ni ic, .int .i64 fuel] w
      (RunP (vmV f l old first ins fuel) w) := by
  have lo : old.length = no := by have := ho.len; rwa [c32_len] at this
  have lf : first.length = nf := by have := hf.len; rwa [c32_len] at this
  have li : ins.length = ni := by have := hi.len; rwa [c32_len] at this
  by_cases hbad : vbad f no nf ni fuel
  · exact Run_bad f.s f.o f.n f.i f.u A oA fA iA n cc no oc nf fc ni ic l old first ins fuel w lo lf li hbad
  · obtain ⟨F, rfl⟩ : ∃ F : Nat, fuel = (F : Int) := ⟨fuel.toNat, by have : ¬ fuel < 0 := fun h => hbad (.inr (.inr (.inr (.inr h)))); omega⟩
    by_cases h6 : 600 < n
    · exact Run_big f.s f.o f.n f.i f.u A oA fA iA n cc no oc nf fc ni ic F l old first ins w lo lf li hl.len hbad h6
    · have ok : okF f := Decidable.byContradiction fun h => hbad (.inl h)
      have h1 : (no : Int) = f.o := Decidable.byContradiction fun h => hbad (.inr (.inl h))
      have h2 : (nf : Int) = f.n := Decidable.byContradiction fun h => hbad (.inr (.inr (.inl h)))
      have h3 : (ni : Int) = f.i := Decidable.byContradiction fun h => hbad (.inr (.inr (.inr (.inl h))))
      obtain ⟨s, o, n', i, u⟩ := f
      simp only at h1 h2 h3
      subst h1
      subst h2
      subst h3
      obtain ⟨na, rfl⟩ : ∃ na : Nat, s = (na : Int) := ⟨s.toNat, by have := ok.1; simp only at this; omega⟩
      obtain ⟨nc, rfl⟩ : ∃ nc : Nat, u = (nc : Int) := ⟨u.toNat, by have := ok.2.2.2.2; simp only at this; omega⟩
      exact Run_main na no nf ni nc A oA fA iA n cc oc fc ic F B l old first ins w hB hl ho hf hi ok (by omega) gf go gi
end Go.Proofs.Ytmjelcoljmefeaa
