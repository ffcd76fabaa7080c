/-
  Contract of package vm: the run of a machine.
-/
import Derived.Test.YtmjelcoljmefeaaVPkg4
namespace Go.Proofs.Ytmjelcoljmefeaa
open Go.RowKit
set_option maxRecDepth 20000
set_option maxHeartbeats 2000000

def atW (w : World) (g : Nat) : Nat := match w.cell? ⟨g, 7, none⟩ with
  | some (.int _ p) => p.toNat
  | _ => 0
/-- What a run comes to. -/
def Ran (R : Int × Nat × VS) (B : Nat) (P : MP) (l : List (Int × Int)) (old ins : List Int) (w : World) (e : Ending) (w' : World) : Prop :=
  (R.1 = 0 ∧ Goes B P l old ins R.2.2 R.2.1 w e w') ∨ (R.1 ≠ 0 ∧ Fails B R.1 w e w')
section
variable {B : Nat} {P : MP} {l : List (Int × Int)} {old ins : List Int} {tA : Option Addr} {tn tc : Nat} {s : VS} {u : Nat} {f : Fr}
theorem atW_is {w : World} (h : Mac w B P l old ins tA tn tc s u) : atW w P.g = s.p := by
  unfold atW
  rw [h.m.cell (j := 7) rfl]
  simp
theorem run_any (w : World) (F : Nat) (R : Int × Nat × VS) (Ft : Fits f P) (I0 : VI f l.length s) (h : Mac w B P l old ins tA tn tc s 0) (ho : rngL old) (hi : rngL ins) (hR : Hid (vrun f l old ins F 0 s = R)) :
    Calls Try.prog 23 #[.pointer (some ⟨P.g, 0, none⟩), .int .i64 (F : Int)] w (Ran R B P l old ins w) := by
  have H0 := hide h
  have HF := hide Ft
  have HO := hide (And.intro ho hi)
  have hcn : P.cn ≤ 600 := Ft.n
  clear h Ft ho hi
  go_enter Try.func23, Try.ntmps23
  go_wp2_with fail
  go_loopw [] (fun wr => ∃ (tA : Option Addr) (tc : Nat) (s : VS) (u : Nat), Hid (Mac wr B P l old ins tA s.st.length tc s u ∧ VI f l.length s ∧ vrun f l old ins (F - u) u s = R ∧ Below B w wr) ∧ u ≤ F ∧ u ≤ s.p) (fun wr => P.cn - atW wr P.g)
  case atStart =>
    refine ⟨tA, tc, s, 0, ⟨?_, I0, hR.out, Below.refl _ _⟩, Nat.zero_le _, Nat.zero_le _⟩
    have := H0.out.lt
    rw [this]
    exact H0.out
  case round =>
    clear H0 I0 hR
    obtain ⟨tA, tc, s, u, HM, huF, hup⟩ := hrel
    have c7 := HM.out.1.m.cell (j := 7) rfl
    have c0 := HM.out.1.m.cell (j := 0) rfl
    have c8 := HM.out.1.m.cell (j := 8) rfl
    have c6 := HM.out.1.m.cell (j := 6) rfl
    have hl : l.length = P.cn := HM.out.1.cl.len
    have hpl : s.p ≤ P.cn := by have := HM.out.2.1.p; omega
    have HL := hide hl
    clear hl
    by_cases hlt : s.p < P.cn
    · have hd : decide ((s.p : Int) < (P.cn : Int)) = true := by simpa using hlt
      by_cases hf : u = F
      · have he : ((u : Int) == (F : Int)) = true := by rw [beq_iff_eq]; omega
        have HE := hide (show R.1 = 14 by rw [← HM.out.2.2.1, hf, Nat.sub_self, vrun_fuel (by have := HL.out; omega)])
        clear hf
        go_wp2_with fail
        go_quiet (fail)
        go_wp2
        exact post_raise rfl (.inr ⟨by rw [HE.out]; omega, by rw [HE.out], below_dn HM.out.2.2.2 _⟩)
      · have he : ((u : Int) == (F : Int)) = false := by rw [beq_eq_false_iff_ne]; omega
        go_wp2_with fail
        go_quiet (fail)
        go_upto_region 3 with (fail)
        have HA := hide (atW_is HM.out.1)
        replace HM := hide (And.intro (HM.out.1.drewN nq) (And.intro HM.out.2.1 (And.intro HM.out.2.2.1 (below_dn HM.out.2.2.2 nq))))
        clear c7 c0 c8 c6
        generalize wr.drewN nq = w2 at HM ⊢
        refine wp_region_still_tail 11 (by kernel_rfl) (by kernel_rfl) ?_
        simp only [List.take_succ_cons, List.take_zero, List.drop_succ_cons, List.drop_zero]
        rw [show ({ heap := w2.heap, tape := w2.tape, drawn := w2.drawn + 1, os := w2.os, output := w2.output } : World) = w2.drew from rfl]
        replace HM := hide (And.intro (HM.out.1.drewN 1) (And.intro HM.out.2.1 (And.intro HM.out.2.2.1 (below_dn HM.out.2.2.2 1))))
        rw [show w2.drewN 1 = w2.drew from rfl] at HM
        generalize w2.drew = w3 at HM ⊢
        have c7 := HM.out.1.m.cell (j := 7) rfl
        have c0 := HM.out.1.m.cell (j := 0) rfl
        obtain ⟨b, o, y, x, hA, _, hu, ci0, ci1, hx⟩ := HM.out.1.cl.get hlt
        rw [hA] at c0
        have HU := hide hu
        clear hu hA
        repeat still_step
        refine wpStill_nil ?_
        clear c7 c0 ci0 ci1
        go_wp2_with fail
        refine (step_any (f := f) w3 y x HF.out HM.out.2.1 HM.out.1 (by have := HL.out; omega) hx).mono ?_
        rintro e w4 (⟨h0, rfl, ⟨tA4, tc4, hm4⟩, hb4⟩ | ⟨h0, rfl, hb4⟩)
        · have HV := hide (And.intro (vi_step HM.out.2.1 (by have := HL.out; omega) h0 HO.out.1 HO.out.2 hx) (And.intro (by rw [← HM.out.2.2.1, show F - u = (F - (u + 1)) + 1 by omega, vrun_go HU.out h0] : vrun f l old ins (F - (u + 1)) (u + 1) (vstep old ins y x s) = R) (HM.out.2.2.2.trans hb4)))
          have c8 := hm4.m.cell (j := 8) rfl
          have f8 := hm4.m.frozen 8
          have HM4 := hide (And.intro (hm4.used (u + 1)) (below_set (Below.refl B w4) hm4.lo.1 (j := 8) (.int .i64 ((u + 1 : Nat) : Int))))
          rw [show ((u + 1 : Nat) : Int) = (u : Int) + 1 by omega] at HM4
          have hpp := vstep_p (s := s) (old := old) (ins := ins) (o := y) (x := x)
          clear hm4 hb4 h0
          go_wp2_with fail
          go_roundw
          case rel => exact ⟨tA4, tc4, vstep old ins y x s, u + 1, ⟨HM4.out.1, HV.out.1, HV.out.2.1, HV.out.2.2.trans HM4.out.2⟩, by omega, by omega⟩
          case measure => rw [HA.out, atW_is HM4.out.1]; omega
        · have HE := hide (show R.1 = vfault f l.length y x s by rw [← HM.out.2.2.1, show F - u = (F - (u + 1)) + 1 by omega, vrun_bad HU.out h0])
          exact post_raise (fn := Try.f23) rfl (.inr ⟨by rw [HE.out]; exact h0, by rw [HE.out], HM.out.2.2.2.trans hb4⟩)
    · have hd : decide ((s.p : Int) < (P.cn : Int)) = false := by simpa using hlt
      by_cases hz : s.st.length = 0
      · have hz2 : decide (0 < s.st.length) = false := by simp; exact List.eq_nil_of_length_eq_zero hz
        have HE := hide (show R = (0, u, s) by rw [← HM.out.2.2.1, vrun_end (by have := HL.out; omega), if_pos hz])
        clear hz
        go_wp2_with fail
        go_quiet (fail)
        go_wp2
        go_end0
        rw [HE.out]
        exact .inl ⟨rfl, rfl, ⟨tA, tc, HM.out.1.drewN nq⟩, below_dn HM.out.2.2.2 nq⟩
      · have hz2 : decide (0 < s.st.length) = true := decide_eq_true (by omega)
        have HE := hide (show R = (12, u, s) by rw [← HM.out.2.2.1, vrun_end (by have := HL.out; omega), if_neg hz])
        clear hz
        go_wp2_with fail
        go_quiet (fail)
        go_wp2
        rw [HE.out]
        exact post_raise (fn := Try.f23) rfl (.inr ⟨by simp, rfl, below_dn HM.out.2.2.2 nq⟩)
end
end Go.Proofs.Ytmjelcoljmefeaa
