/-
  Contract of the reference of layer 10: step as a whole; what Run answers.
-/
import Derived.Test.YtmjelcoljmefeaaVRef3
namespace Go.Proofs.Ytmjelcoljmefeaa
open Go.RowKit
set_option maxRecDepth 20000
set_option maxHeartbeats 2000000

theorem stated_eq {s s' : VS} {w w' : World} {e : Ending} (h : Stated s w e w') (hs : s' = s) : Stated s' w e w' := hs ▸ h
theorem rstep_any (f : Fr) (n : Nat) (o x : Int) (tA sA cA uA oA iA : Option Addr) (tn tc sn sc cn cc un uc on oc ik ic B : Nat) (s : VS) (old ins : List Int) (w : World) (hB : B ≤ w.heap.size) (hp : s.p ≤ 600) (hR : RS w B tA sA cA uA oA iA tn tc sn sc cn cc un uc on oc ik ic s old ins) (I : VI f n s) (hok : okF f) (ho : (on : Int) = f.o) (hik : (ik : Int) = f.i) (hx : rng x) (hf : vfault f n o x s = 0) :
    Calls Try.prog 27 #[.agg #[.int .i64 o, .int .i32 x], .agg #[.int .i64 (s.p : Int), .slice tA tn tc, .slice sA sn sc, .slice cA cn cc, .slice uA un uc], .slice oA on oc, .slice iA ik ic] w (Stated (vstep old ins o x s) w) := by
  obtain ⟨h1, h2, h3, h4, h5⟩ := vfault_zero hf
  have hop := rgt_op h1
  have htn : s.st.length = tn := c32_row hR.rt
  have hsn : s.sl.length = sn := c32_row hR.rs
  have hcn : s.ce.length = cn := c32_row hR.rc
  have hun : s.ou.length = un := c32_row hR.ru
  have h16 := I.lt
  have l1 := I.ls
  have l2 := I.lc
  have l3 := I.lo
  obtain ⟨k1, k2, k3, k4, k5⟩ := hok
  have lim : (o = 2 ∨ o = 3 ∨ o = 4 ∨ o = 5 ∨ o = 6 ∨ o = 7 ∨ o = 10 ∨ o = 11) → ∃ k : Nat, x = (k : Int) ∧ k ≤ 65535 := by
    intro h
    have h0 := nonneg_of h1 (by omega) (by omega) (by omega)
    refine ⟨x.toNat, by omega, ?_⟩
    unfold rgtE at h1
    rw [if_neg (by omega), if_neg (by omega), if_neg (by omega)] at h1
    by_cases h4 : o = 10 ∨ o = 11
    · rw [if_pos h4] at h1; by_cases h5 : 0 ≤ x ∧ x ≤ 65535
      · omega
      · rw [if_neg h5] at h1; omega
    · rw [if_neg h4, if_pos (by omega)] at h1
      by_cases h5 : 0 ≤ x ∧ x ≤ 255
      · omega
      · rw [if_neg h5] at h1; omega
  have tk : ∀ k, s.st.length ≤ k → List.take k s.st = s.st := fun k hk => List.take_of_length_le hk
  rcases (show o = 1 ∨ o = 2 ∨ o = 3 ∨ o = 4 ∨ o = 5 ∨ o = 6 ∨ o = 7 ∨ o = 8 ∨ o = 9 ∨ o = 10 ∨ o = 11 by omega) with rfl | rfl | rfl | rfl | rfl | rfl | rfl | rfl | rfl | rfl | rfl
  · cases tn with
    | zero => exact (rs1_E x hx tA sA cA uA oA iA tc sn sc cn cc un uc on oc ik ic B s old ins w hB hp hR I.rt).mono fun _ _ q => stated_eq q (by rw [tk 0 (by omega)]; exact vs1)
    | succ m => exact (rs1_P m (by omega) x hx tA sA cA uA oA iA tc sn sc cn cc un uc on oc ik ic B s old ins w hB hp hR I.rt).mono fun _ _ q => stated_eq q (by rw [tk (m + 1) (by omega)]; exact vs1)
  · obtain ⟨k, rfl, hk⟩ := lim (by omega)
    have hi : (k : Int) < f.s := by simpa [insd, roomV, show ¬ f.s < 0 by omega] using h2
    cases tn with
    | zero => exact (rs2_E k hk tA sA cA uA oA iA tc sn sc cn cc un uc on oc ik ic B s old ins w hB hp hR I.rt (by omega)).mono fun _ _ q => stated_eq q (by rw [tk 0 (by omega)]; exact vs2)
    | succ m => exact (rs2_P m (by omega) k hk tA sA cA uA oA iA tc sn sc cn cc un uc on oc ik ic B s old ins w hB hp hR I.rt (by omega)).mono fun _ _ q => stated_eq q (by rw [tk (m + 1) (by omega)]; exact vs2)
  · obtain ⟨k, rfl, hk⟩ := lim (by omega)
    have hi : (k : Int) < f.s := by simpa [insd, roomV, show ¬ f.s < 0 by omega] using h2
    have ht : tak 3 = 1 := rfl
    obtain ⟨m, rfl⟩ : ∃ m, tn = m + 1 := ⟨tn - 1, by omega⟩
    exact (rs3 m (by omega) k hk tA sA cA uA oA iA tc sn sc cn cc un uc on oc ik ic B s old ins w hB hp hR I.rt (by omega) (by omega)).mono fun _ _ q => stated_eq q (vs3 htn)
  · obtain ⟨k, rfl, hk⟩ := lim (by omega)
    have hi : (k : Int) < f.o := by simpa [insd, roomV, show ¬ f.o < 0 by omega] using h2
    cases tn with
    | zero => exact (rs4_E k hk tA sA cA uA oA iA tc sn sc cn cc un uc on oc ik ic B s old ins w hB hp hR I.rt (by omega)).mono fun _ _ q => stated_eq q (by rw [tk 0 (by omega)]; exact vs4)
    | succ m => exact (rs4_P m (by omega) k hk tA sA cA uA oA iA tc sn sc cn cc un uc on oc ik ic B s old ins w hB hp hR I.rt (by omega)).mono fun _ _ q => stated_eq q (by rw [tk (m + 1) (by omega)]; exact vs4)
  · obtain ⟨k, rfl, hk⟩ := lim (by omega)
    have hi : (k : Int) < f.n := by simpa [insd, roomV, show ¬ f.n < 0 by omega] using h2
    have ht : tak 5 = 1 := rfl
    obtain ⟨m, rfl⟩ : ∃ m, tn = m + 1 := ⟨tn - 1, by omega⟩
    exact (rs5 m (by omega) k hk tA sA cA uA oA iA tc sn sc cn cc un uc on oc ik ic B s old ins w hB hp hR I.rt (by omega) (by omega)).mono fun _ _ q => stated_eq q (vs5 htn)
  · obtain ⟨k, rfl, hk⟩ := lim (by omega)
    have hi : (k : Int) < f.i := by simpa [insd, roomV, show ¬ f.i < 0 by omega] using h2
    cases tn with
    | zero => exact (rs6_E k hk tA sA cA uA oA iA tc sn sc cn cc un uc on oc ik ic B s old ins w hB hp hR I.rt (by omega)).mono fun _ _ q => stated_eq q (by rw [tk 0 (by omega)]; exact vs6)
    | succ m => exact (rs6_P m (by omega) k hk tA sA cA uA oA iA tc sn sc cn cc un uc on oc ik ic B s old ins w hB hp hR I.rt (by omega)).mono fun _ _ q => stated_eq q (by rw [tk (m + 1) (by omega)]; exact vs6)
  · obtain ⟨k, rfl, hk⟩ := lim (by omega)
    have hi : (k : Int) < f.u := by simpa [insd, roomV, show ¬ f.u < 0 by omega] using h2
    have ht : tak 7 = 1 := rfl
    obtain ⟨m, rfl⟩ : ∃ m, tn = m + 1 := ⟨tn - 1, by omega⟩
    exact (rs7 m (by omega) k hk tA sA cA uA oA iA tc sn sc cn cc un uc on oc ik ic B s old ins w hB hp hR I.rt (by omega) (by omega)).mono fun _ _ q => stated_eq q (vs7 htn)
  · have ht : tak 8 = 1 := rfl
    obtain ⟨m, rfl⟩ : ∃ m, tn = m + 1 := ⟨tn - 1, by omega⟩
    exact (rs8 m (by omega) x hx tA sA cA uA oA iA tc sn sc cn cc un uc on oc ik ic B s old ins w hB hp hR I.rt).mono fun _ _ q => stated_eq q (vs8 htn)
  · have ht : tak 9 = 2 := rfl
    obtain ⟨m, rfl⟩ : ∃ m, tn = m + 2 := ⟨tn - 2, by omega⟩
    exact (rs9 m (by omega) x hx tA sA cA uA oA iA tc sn sc cn cc un uc on oc ik ic B s old ins w hB hp hR I.rt).mono fun _ _ q => stated_eq q (vs9 htn)
  · obtain ⟨k, rfl, hk⟩ := lim (by omega)
    cases tn with
    | zero => exact (rs10_E k hk tA sA cA uA oA iA tc sn sc cn cc un uc on oc ik ic B s old ins w hB hp hR I.rt).mono fun _ _ q => stated_eq q (by rw [tk 0 (by omega)]; exact vs10)
    | succ m => exact (rs10_P m (by omega) k hk tA sA cA uA oA iA tc sn sc cn cc un uc on oc ik ic B s old ins w hB hp hR I.rt).mono fun _ _ q => stated_eq q (by rw [tk (m + 1) (by omega)]; exact vs10)
  · obtain ⟨k, rfl, hk⟩ := lim (by omega)
    have ht : tak 11 = 1 := rfl
    obtain ⟨m, rfl⟩ : ∃ m, tn = m + 1 := ⟨tn - 1, by omega⟩
    by_cases hv : gd s.st m = 0
    · exact (rs11_z m (by omega) k hk tA sA cA uA oA iA tc sn sc cn cc un uc on oc ik ic B s old ins w hB hp hR I.rt (by simpa using hv)).mono fun _ _ q => stated_eq q (vs11 htn hv)
    · exact (rs11_n m (by omega) k hk tA sA cA uA oA iA tc sn sc cn cc un uc on oc ik ic B s old ins w hB hp hR I.rt (by simpa using hv)).mono fun _ _ q => stated_eq q (vs11n htn hv)
/-- What the reference's Run answers. -/
def RunQ (V : Int × List Int × List Int × Nat) (w : World) (e : Ending) (w' : World) : Prop :=
  ∃ A c A' c', e = .returned (.tuple #[.agg #[.slice A V.2.1.length c, .slice A' V.2.2.1.length c', .int .i64 (V.2.2.2 : Int)], .int .i64 V.1]) ∧
    Row w' w'.heap.size A V.2.1.length c (c32 V.2.1) ∧ Row w' w'.heap.size A' V.2.2.1.length c' (c32 V.2.2.1) ∧ Below w.heap.size w w'
theorem RunQ.fault {w w' : World} {er : Int} {V : Int × List Int × List Int × Nat} (hV : V = (er, [], [], 0)) (hb : Below w.heap.size w w') : RunQ V w (.returned (.tuple #[.agg #[.slice none 0 0, .slice none 0 0, .int .i64 0], .int .i64 er])) w' := by
  subst hV
  exact ⟨none, 0, none, 0, rfl, Row.none_, Row.none_, hb⟩
theorem sizeQ : (Try.prog.info? 37).map (·.size) = some 3 := by kernel_rfl
theorem ret_q {fn : Func} {R : Ending → World → Prop} {a : Act} {w : World} {p u : Tmp} {g : Nat} {x0 x1 x2 : Value} {er : Int} (h : fn.results = #[.cell p 37, .tmp u])
    (hp : a.tmps.getD p undef = .pointer (some ⟨g, 0, none⟩)) (hu : a.tmps.getD u undef = .int .i64 er) (hb : Blk w g 37 [x0, x1, x2]) (hd : a.defers = [])
    (hR : R (.returned (.tuple #[.agg #[x0, x1, x2], .int .i64 er])) w) : bodyPost Try.prog fn R .ret a w := by
  refine bodyPost_ret_by (v := .tuple #[.agg #[x0, x1, x2], .int .i64 er]) ?_ hd hR
  have := run_loadVar_row (P := Try.prog) w g _ 37 #[x0, x1, x2] (0, 0) _ hb Try.underlying37 rfl (by exact sizeQ)
  rw [results_cell_one' h]
  simp only [hp, hu, asAddr]
  simp [this, Result.andThen]
/-- The frame in its box and the result in its variable. -/
structure QK (w0 : World) (q : Nat) (F : List Value) (w : World) : Prop where
  bF : Blk w q 24 F
  bR : Blk w (q + 1) 37 [.slice none 0 0, .slice none 0 0, .int .i64 0]
  bl : Below w0.heap.size w0 w
  q0 : w0.heap.size ≤ q
section
variable {w0 w w' : World} {q : Nat} {F : List Value}
theorem QK.start (w : World) (F : List Value) : QK w w.heap.size F ((w.alloc (.cells F.toArray 24)).alloc (.cells #[.slice none 0 0, .slice none 0 0, .int .i64 0] 37)) :=
  ⟨(Blk.new w _ F).alloc _, Blk.at (w.alloc _) _ [.slice none 0 0, .slice none 0 0, .int .i64 0] (by simp), ((Below.refl _ w).alloc (Nat.le_refl _) _).alloc (by simp) _, Nat.le_refl _⟩
theorem QK.keep (h : QK w0 q F w) (hb : Below w.heap.size w w') : QK w0 q F w' := ⟨h.bF.keep hb h.bF.lt, h.bR.keep hb h.bR.lt, h.bl.trans (hb.mono h.bl.size), h.q0⟩
theorem QK.drewN (h : QK w0 q F w) (k : Nat) : QK w0 q F (w.drewN k) := h.keep ⟨rfl, rfl, rfl, Nat.le_refl _, fun _ _ => rfl⟩
end
theorem qk_fault {w0 w : World} {q : Nat} {F : List Value} {V : Int × List Int × List Int × Nat} {er : Int} {a : Act} {fn : Func} (K : QK w0 q F w) (h : fn.results = #[.cell 12 37, .tmp 13]) (hp : a.tmps.getD 12 undef = .pointer (some ⟨q + 1, 0, none⟩)) (hu : a.tmps.getD 13 undef = .int .i64 er) (hd : a.defers = []) (hV : V = (er, [], [], 0)) :
    bodyPost Try.prog fn (RunQ V w0) .ret a (((w.setCell ⟨q + 1, 0, none⟩ (.slice none 0 0)).setCell ⟨q + 1, 1, none⟩ (.slice none 0 0)).setCell ⟨q + 1, 2, none⟩ (.int .i64 0)) :=
  ret_q h hp hu (((K.bR.set 0 _).set 1 _).set 2 _) hd (RunQ.fault hV (below_set (below_set (below_set K.bl (by have := K.q0; omega) _) (by have := K.q0; omega) _) (by have := K.q0; omega) _))
end Go.Proofs.Ytmjelcoljmefeaa
