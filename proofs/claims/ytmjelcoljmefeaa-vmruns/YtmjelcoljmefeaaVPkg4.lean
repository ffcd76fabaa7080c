/-
  Contracts of package vm: step as a whole, the run.
-/
import Derived.Test.YtmjelcoljmefeaaVPkg3
namespace Go.Proofs.Ytmjelcoljmefeaa
open Go.RowKit
set_option maxRecDepth 20000
set_option maxHeartbeats 2000000

-- the step of each instruction, spelled out
section
variable {old ins : List Int} {s : VS} {x : Int} {k m : Nat}
theorem vs1 : vstep old ins 1 x s = ⟨s.p + 1, s.st ++ [x], s.sl, s.ce, s.ou⟩ := by
  simp [vstep, vjmp, vrest, tak, giv, vval]
theorem vs2 : vstep old ins 2 (k : Int) s = ⟨s.p + 1, s.st ++ [gd s.sl k], s.sl, s.ce, s.ou⟩ := by
  simp [vstep, vjmp, vrest, tak, giv, vval]
theorem vs4 : vstep old ins 4 (k : Int) s = ⟨s.p + 1, s.st ++ [gd old k], s.sl, s.ce, s.ou⟩ := by
  simp [vstep, vjmp, vrest, tak, giv, vval]
theorem vs6 : vstep old ins 6 (k : Int) s = ⟨s.p + 1, s.st ++ [gd ins k], s.sl, s.ce, s.ou⟩ := by
  simp [vstep, vjmp, vrest, tak, giv, vval]
theorem vs3 (h : s.st.length = m + 1) : vstep old ins 3 (k : Int) s = ⟨s.p + 1, s.st.take m, s.sl.set k (gd s.st m), s.ce, s.ou⟩ := by
  simp [vstep, vjmp, vrest, tak, giv, topV, h]
theorem vs5 (h : s.st.length = m + 1) : vstep old ins 5 (k : Int) s = ⟨s.p + 1, s.st.take m, s.sl, s.ce.set k (gd s.st m), s.ou⟩ := by
  simp [vstep, vjmp, vrest, tak, giv, topV, h]
theorem vs7 (h : s.st.length = m + 1) : vstep old ins 7 (k : Int) s = ⟨s.p + 1, s.st.take m, s.sl, s.ce, s.ou.set k (gd s.st m)⟩ := by
  simp [vstep, vjmp, vrest, tak, giv, topV, h]
theorem vs8 (h : s.st.length = m + 1) : vstep old ins 8 x s = ⟨s.p + 1, s.st.take m ++ [unV x (gd s.st m)], s.sl, s.ce, s.ou⟩ := by
  simp [vstep, vjmp, vrest, tak, giv, topV, vval, h]
theorem vs9 (h : s.st.length = m + 2) : vstep old ins 9 x s = ⟨s.p + 1, s.st.take m ++ [binV x (gd s.st m) (gd s.st (m + 1))], s.sl, s.ce, s.ou⟩ := by
  simp [vstep, vjmp, vrest, tak, giv, topV, vval, h]
theorem vs10 : vstep old ins 10 (k : Int) s = ⟨s.p + 1 + k, s.st, s.sl, s.ce, s.ou⟩ := by
  simp [vstep, vjmp, vrest, tak, giv]
theorem vs11 (h : s.st.length = m + 1) (h0 : gd s.st m = 0) : vstep old ins 11 (k : Int) s = ⟨s.p + 1 + k, s.st.take m, s.sl, s.ce, s.ou⟩ := by
  simp [vstep, vjmp, vrest, tak, giv, topV, h, h0]
theorem vs11n (h : s.st.length = m + 1) (h0 : gd s.st m ≠ 0) : vstep old ins 11 (k : Int) s = ⟨s.p + 1, s.st.take m, s.sl, s.ce, s.ou⟩ := by
  simp [vstep, vjmp, vrest, tak, giv, topV, h, h0]
end
-- the faults
theorem vf_right {f : Fr} {n : Nat} {o x : Int} {s : VS} (h : rgtE o x ≠ 0) : vfault f n o x s = rgtE o x := if_pos h
theorem vf_range {f : Fr} {n : Nat} {o x : Int} {s : VS} (h : rgtE o x = 0) (h1 : ¬ insd f o x) : vfault f n o x s = 10 := by
  unfold vfault; rw [if_neg (by omega), if_pos h1]
theorem vf_stack {f : Fr} {n : Nat} {o x : Int} {s : VS} (h : rgtE o x = 0) (h1 : insd f o x) (h2 : (s.st.length : Int) < tak o ∨ 16 < (s.st.length : Int) - tak o + giv o) : vfault f n o x s = 12 := by
  unfold vfault; rw [if_neg (by omega), if_neg (fun hn => hn h1), if_pos h2]
theorem vf_jump {f : Fr} {n : Nat} {o x : Int} {s : VS} (h : rgtE o x = 0) (h1 : insd f o x) (h2 : ¬ ((s.st.length : Int) < tak o ∨ 16 < (s.st.length : Int) - tak o + giv o)) (h3 : vjmp o s.st) (h4 : n < s.p + 1 + x.toNat) : vfault f n o x s = 11 := by
  unfold vfault; rw [if_neg (by omega), if_neg (fun hn => hn h1), if_neg h2, if_pos ⟨h3, h4⟩]

/-- What a step comes to. -/
def Stepped (f : Fr) (B : Nat) (P : MP) (l : List (Int × Int)) (old ins : List Int) (o x : Int) (s : VS) (u : Nat) (w : World) (e : Ending) (w' : World) : Prop :=
  (vfault f l.length o x s = 0 ∧ Goes B P l old ins (vstep old ins o x s) u w e w') ∨ (vfault f l.length o x s ≠ 0 ∧ Fails B (vfault f l.length o x s) w e w')
section
variable {B : Nat} {P : MP} {l : List (Int × Int)} {old ins : List Int} {tA : Option Addr} {tn tc : Nat} {s : VS} {u : Nat} {f : Fr} {w : World} {e : Ending} {w' : World} {o x : Int}
theorem Stepped.good {s' : VS} (h : Goes B P l old ins s' u w e w') (hs : vstep old ins o x s = s') (h0 : vfault f l.length o x s = 0) : Stepped f B P l old ins o x s u w e w' := .inl ⟨h0, hs ▸ h⟩
theorem Stepped.bad {er : Int} (h : Fails B er w e w') (h0 : vfault f l.length o x s = er) (hn : er ≠ 0) : Stepped f B P l old ins o x s u w e w' := .inr ⟨by rw [h0]; exact hn, by rw [h0]; exact h⟩
/-- The frame is the one of the machine. -/
structure Fits (f : Fr) (P : MP) : Prop where
  a : (P.na : Int) = f.s
  b : (P.nb : Int) = f.n
  c : (P.nc : Int) = f.u
  o : (P.on : Int) = f.o
  i : (P.ik : Int) = f.i
  ok : okF f
  n : P.cn ≤ 600
theorem step_any (w : World) (o x : Int) (F : Fits f P) (I : VI f l.length s) (h : Mac w B P l old ins tA tn tc s u) (hp : s.p < l.length) (hx : rng x) :
    Calls Try.prog 35 #[.pointer (some ⟨P.g, 0, none⟩), .agg #[.int .i64 o, .int .i32 x]] w (Stepped f B P l old ins o x s u w) := by
  by_cases hr : rgtE o x = 0
  · have ho := rgt_op hr
    have hcn : l.length = P.cn := h.cl.len
    have hno : old.length = P.on := by have := h.ol.len; rwa [c32_len] at this
    have hni : ins.length = P.ik := by have := h.il.len; rwa [c32_len] at this
    have h16 := I.lt
    obtain ⟨fa, fb, fc, fo, fi, ⟨ok1, ok2, ok3, ok4, ok5⟩, fn⟩ := F
    have hla := h.la
    have hlb := h.lb
    have hlc := h.lc
    have hp6 : s.p < 600 := by omega
    unfold rng at hx
    have nonneg : (o ≠ 1 → o ≠ 8 → o ≠ 9 → 0 ≤ x) := by
      intro h1 h2 h3
      unfold rgtE at hr
      rw [if_neg h1, if_neg h2, if_neg h3] at hr
      by_cases h4 : o = 10 ∨ o = 11
      · rw [if_pos h4] at hr; by_cases h5 : 0 ≤ x ∧ x ≤ 65535
        · exact h5.1
        · rw [if_neg h5] at hr; omega
      · rw [if_neg h4, if_pos (by omega)] at hr
        by_cases h5 : 0 ≤ x ∧ x ≤ 255
        · exact h5.1
        · rw [if_neg h5] at hr; omega
    have hm : s.st.length = 0 ∨ ∃ m, s.st.length = m + 1 ∧ m ≤ 15 := by
      by_cases h0 : s.st.length = 0
      · exact .inl h0
      · exact .inr ⟨s.st.length - 1, by omega, by omega⟩
    rcases (show o = 1 ∨ o = 2 ∨ o = 3 ∨ o = 4 ∨ o = 5 ∨ o = 6 ∨ o = 7 ∨ o = 8 ∨ o = 9 ∨ o = 10 ∨ o = 11 by omega) with rfl | rfl | rfl | rfl | rfl | rfl | rfl | rfl | rfl | rfl | rfl
    · have hi : insd f 1 x := .inl (by simp [roomV])
      by_cases hf : s.st.length = 16
      · exact (step1_bad w x h hr hp6 hf).mono fun _ _ q => Stepped.bad q (vf_stack hr hi (by simp [tak, giv]; omega)) (by omega)
      · exact (step1_ok w x h hr hp6 (by omega)).mono fun _ _ q => Stepped.good q vs1 (vfault_mk hr hi (by simp [tak]) (by simp [tak, giv]; omega) (by simp [vjmp]))
    · obtain ⟨k, rfl⟩ : ∃ k : Nat, x = (k : Int) := ⟨x.toNat, by have := nonneg (by omega) (by omega) (by omega); omega⟩
      by_cases hi : insd f 2 (k : Int)
      · have hk : (k : Int) < f.s := by simpa [insd, roomV, show ¬ f.s < 0 by omega] using hi
        by_cases hf : s.st.length = 16
        · exact (step2_full w k h hr hp6 (by omega) (by omega) hf).mono fun _ _ q => Stepped.bad q (vf_stack hr hi (by simp [tak, giv]; omega)) (by omega)
        · exact (step2_ok w k h hr hp6 (by omega) (by omega) (by omega)).mono fun _ _ q => Stepped.good q vs2 (vfault_mk hr hi (by simp [tak]) (by simp [tak, giv]; omega) (by simp [vjmp]))
      · have hk : f.s ≤ (k : Int) := by simpa [insd, roomV, show ¬ f.s < 0 by omega] using hi
        exact (step2_bad w k h hr hp6 (by omega) (by omega)).mono fun _ _ q => Stepped.bad q (vf_range hr hi) (by omega)
    · obtain ⟨k, rfl⟩ : ∃ k : Nat, x = (k : Int) := ⟨x.toNat, by have := nonneg (by omega) (by omega) (by omega); omega⟩
      by_cases hi : insd f 3 (k : Int)
      · have hk : (k : Int) < f.s := by simpa [insd, roomV, show ¬ f.s < 0 by omega] using hi
        rcases hm with hf | ⟨m, hn, hm⟩
        · exact (step3_empty w k h hr hp6 (by omega) (by omega) hf).mono fun _ _ q => Stepped.bad q (vf_stack hr hi (by simp [tak, giv]; omega)) (by omega)
        · exact (step3_ok w k h hr hp6 (by omega) (by omega) m hn hm).mono fun _ _ q => Stepped.good q (vs3 hn) (vfault_mk hr hi (by simp [tak]; omega) (by simp [tak, giv]; omega) (by simp [vjmp]))
      · have hk : f.s ≤ (k : Int) := by simpa [insd, roomV, show ¬ f.s < 0 by omega] using hi
        exact (step3_bad w k h hr hp6 (by omega) (by omega)).mono fun _ _ q => Stepped.bad q (vf_range hr hi) (by omega)
    · obtain ⟨k, rfl⟩ : ∃ k : Nat, x = (k : Int) := ⟨x.toNat, by have := nonneg (by omega) (by omega) (by omega); omega⟩
      by_cases hi : insd f 4 (k : Int)
      · have hk : (k : Int) < f.o := by simpa [insd, roomV, show ¬ f.o < 0 by omega] using hi
        by_cases hf : s.st.length = 16
        · exact (step4_full w k h hr hp6 (by omega) (by omega) hf).mono fun _ _ q => Stepped.bad q (vf_stack hr hi (by simp [tak, giv]; omega)) (by omega)
        · exact (step4_ok w k h hr hp6 (by omega) (by omega) (by omega)).mono fun _ _ q => Stepped.good q vs4 (vfault_mk hr hi (by simp [tak]) (by simp [tak, giv]; omega) (by simp [vjmp]))
      · have hk : f.o ≤ (k : Int) := by simpa [insd, roomV, show ¬ f.o < 0 by omega] using hi
        exact (step4_bad w k h hr hp6 (by omega) (by omega)).mono fun _ _ q => Stepped.bad q (vf_range hr hi) (by omega)
    · obtain ⟨k, rfl⟩ : ∃ k : Nat, x = (k : Int) := ⟨x.toNat, by have := nonneg (by omega) (by omega) (by omega); omega⟩
      by_cases hi : insd f 5 (k : Int)
      · have hk : (k : Int) < f.n := by simpa [insd, roomV, show ¬ f.n < 0 by omega] using hi
        rcases hm with hf | ⟨m, hn, hm⟩
        · exact (step5_empty w k h hr hp6 (by omega) (by omega) hf).mono fun _ _ q => Stepped.bad q (vf_stack hr hi (by simp [tak, giv]; omega)) (by omega)
        · exact (step5_ok w k h hr hp6 (by omega) (by omega) m hn hm).mono fun _ _ q => Stepped.good q (vs5 hn) (vfault_mk hr hi (by simp [tak]; omega) (by simp [tak, giv]; omega) (by simp [vjmp]))
      · have hk : f.n ≤ (k : Int) := by simpa [insd, roomV, show ¬ f.n < 0 by omega] using hi
        exact (step5_bad w k h hr hp6 (by omega) (by omega)).mono fun _ _ q => Stepped.bad q (vf_range hr hi) (by omega)
    · obtain ⟨k, rfl⟩ : ∃ k : Nat, x = (k : Int) := ⟨x.toNat, by have := nonneg (by omega) (by omega) (by omega); omega⟩
      by_cases hi : insd f 6 (k : Int)
      · have hk : (k : Int) < f.i := by simpa [insd, roomV, show ¬ f.i < 0 by omega] using hi
        by_cases hf : s.st.length = 16
        · exact (step6_full w k h hr hp6 (by omega) (by omega) hf).mono fun _ _ q => Stepped.bad q (vf_stack hr hi (by simp [tak, giv]; omega)) (by omega)
        · exact (step6_ok w k h hr hp6 (by omega) (by omega) (by omega)).mono fun _ _ q => Stepped.good q vs6 (vfault_mk hr hi (by simp [tak]) (by simp [tak, giv]; omega) (by simp [vjmp]))
      · have hk : f.i ≤ (k : Int) := by simpa [insd, roomV, show ¬ f.i < 0 by omega] using hi
        exact (step6_bad w k h hr hp6 (by omega) (by omega)).mono fun _ _ q => Stepped.bad q (vf_range hr hi) (by omega)
    · obtain ⟨k, rfl⟩ : ∃ k : Nat, x = (k : Int) := ⟨x.toNat, by have := nonneg (by omega) (by omega) (by omega); omega⟩
      by_cases hi : insd f 7 (k : Int)
      · have hk : (k : Int) < f.u := by simpa [insd, roomV, show ¬ f.u < 0 by omega] using hi
        rcases hm with hf | ⟨m, hn, hm⟩
        · exact (step7_empty w k h hr hp6 (by omega) (by omega) hf).mono fun _ _ q => Stepped.bad q (vf_stack hr hi (by simp [tak, giv]; omega)) (by omega)
        · exact (step7_ok w k h hr hp6 (by omega) (by omega) m hn hm).mono fun _ _ q => Stepped.good q (vs7 hn) (vfault_mk hr hi (by simp [tak]; omega) (by simp [tak, giv]; omega) (by simp [vjmp]))
      · have hk : f.u ≤ (k : Int) := by simpa [insd, roomV, show ¬ f.u < 0 by omega] using hi
        exact (step7_bad w k h hr hp6 (by omega) (by omega)).mono fun _ _ q => Stepped.bad q (vf_range hr hi) (by omega)
    · have hi : insd f 8 x := .inl (by simp [roomV])
      rcases hm with hf | ⟨m, hn, hm⟩
      · exact (step8_bad w x hx.1 hx.2 h hr hp6 hf).mono fun _ _ q => Stepped.bad q (vf_stack hr hi (by simp [tak, giv]; omega)) (by omega)
      · exact (step8_ok w x hx.1 hx.2 h hr hp6 m hn hm).mono fun _ _ q => Stepped.good q (vs8 hn) (vfault_mk hr hi (by simp [tak]; omega) (by simp [tak, giv]; omega) (by simp [vjmp]))
    · have hi : insd f 9 x := .inl (by simp [roomV])
      rcases hm with hf | ⟨m, hn, hm⟩
      · exact (step9_bad0 w x hx.1 hx.2 h hr hp6 hf).mono fun _ _ q => Stepped.bad q (vf_stack hr hi (by simp [tak, giv]; omega)) (by omega)
      · by_cases h1 : m = 0
        · subst h1
          exact (step9_bad1 w x hx.1 hx.2 h hr hp6 hn).mono fun _ _ q => Stepped.bad q (vf_stack hr hi (by simp [tak, giv]; omega)) (by omega)
        · obtain ⟨m, rfl⟩ : ∃ j, m = j + 1 := ⟨m - 1, by omega⟩
          exact (step9_ok w x hx.1 hx.2 h hr hp6 m hn (by omega)).mono fun _ _ q => Stepped.good q (vs9 hn) (vfault_mk hr hi (by simp [tak]; omega) (by simp [tak, giv]; omega) (by simp [vjmp]))
    · obtain ⟨k, rfl⟩ : ∃ k : Nat, x = (k : Int) := ⟨x.toNat, by have := nonneg (by omega) (by omega) (by omega); omega⟩
      have hi : insd f 10 (k : Int) := .inl (by simp [roomV])
      by_cases hj : P.cn < s.p + 1 + k
      · exact (step10_bad w k (by omega) h hr hp6 fn (by omega) hj).mono fun _ _ q => Stepped.bad q (vf_jump hr hi (by simp [tak, giv]; omega) (.inl rfl) (by simp; omega)) (by omega)
      · exact (step10_ok w k h hr hp6 fn (by omega) (by omega)).mono fun _ _ q => Stepped.good q vs10 (vfault_mk hr hi (by simp [tak]) (by simp [tak, giv]; omega) (by simp; omega))
    · obtain ⟨k, rfl⟩ : ∃ k : Nat, x = (k : Int) := ⟨x.toNat, by have := nonneg (by omega) (by omega) (by omega); omega⟩
      have hi : insd f 11 (k : Int) := .inl (by simp [roomV])
      rcases hm with hf | ⟨m, hn, hm⟩
      · exact (step11_empty w k h hr hp6 hf).mono fun _ _ q => Stepped.bad q (vf_stack hr hi (by simp [tak, giv]; omega)) (by omega)
      · have ht : topV s.st = gd s.st m := by unfold topV; rw [hn]; rfl
        by_cases h0 : gd s.st m = 0
        · have hb : (gd s.st m == 0) = true := by simpa using h0
          by_cases hj : P.cn < s.p + 1 + k
          · exact (step11_bad w k (by omega) h hr hp6 m hn hm fn (by omega) hb hj).mono fun _ _ q => Stepped.bad q (vf_jump hr hi (by simp [tak, giv]; omega) (.inr ⟨rfl, ht.trans h0⟩) (by simp; omega)) (by omega)
          · exact (step11_ok w k h hr hp6 m hn hm fn (by omega) hb (by omega)).mono fun _ _ q => Stepped.good q (vs11 hn h0) (vfault_mk hr hi (by simp [tak]; omega) (by simp [tak, giv]; omega) (by simp; omega))
        · have hb : (gd s.st m == 0) = false := by simpa using h0
          exact (step11_next w k h hr hp6 m hn hm fn (by omega) hb).mono fun _ _ q => Stepped.good q (vs11n hn h0) (vfault_mk hr hi (by simp [tak]; omega) (by simp [tak, giv]; omega) (by rintro (h9 | ⟨_, h9⟩); omega; exact absurd (ht.symm.trans h9) h0))
  · exact (step_right w o x h hr).mono fun _ _ q => Stepped.bad q (vf_right hr) hr
end
end Go.Proofs.Ytmjelcoljmefeaa
