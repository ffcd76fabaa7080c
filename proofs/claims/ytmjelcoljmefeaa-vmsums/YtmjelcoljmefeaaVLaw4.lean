/-
  The walk of VmSums.
-/
import Derived.Test.YtmjelcoljmefeaaVMath3
import Derived.Test.YtmjelcoljmefeaaVLaw1
namespace Go.Proofs.Ytmjelcoljmefeaa
open Go.RowKit
set_option maxRecDepth 20000
set_option maxHeartbeats 2000000

theorem rowI_new {w w' : World} {l : List (Int × Int)} {n B : Nat} {cs : Array Value} (hw : w.alloc (.cells cs 52) = w') (hn : l.length = n) (hm : n ≤ maxLen) (hc : cs.toList = csI l) (hok : ∀ i ∈ l, okI i) (hB : w.heap.size + 1 ≤ B) : RowI w' B (some ⟨w.heap.size, 0, none⟩) n n l := by
  subst hw
  exact (rowI_lit w l n hn hm cs hc hok).more hB
theorem sums_bad (op a b : Int) (ha : rng a) (hb : rng b) (w : World) (hop : op < 1 ∨ 16 < op) :
    Calls Try.prog 7 #[.int .i64 op, .int .i32 a, .int .i32 b] w (TrueP w) := by
  have HV := hide (bad_S a b)
  have HO := hide (show ∀ i ∈ badS a b, okI i by
    intro i hi
    unfold rng at ha hb
    simp [badS] at hi
    rcases hi with rfl | rfl | rfl | rfl <;> simp [okI] <;> assumption)
  rcases (show op < 1 ∨ (¬ op < 1 ∧ 16 < op) by omega) with h1 | ⟨h1, h2⟩
  all_goals
    clear hop
    go_enter Try.func7, Try.ntmps7
    go_wp2_with fail
    have hR := rowI_new (w := w.alloc (.cells #[.int .i64 0, .int .i64 0, .int .i64 0, .int .i64 0, .int .i64 2] 24)) (l := badS a b) (n := 4) (B := w.heap.size + 2) (cs := #[.int .i64 1, .int .i32 a, .int .i64 1, .int .i32 b, .int .i64 9, .int .i32 0, .int .i64 7, .int .i32 0]) rfl rfl (by unfold maxLen; omega) rfl HO.out (by simp)
    rw [show (w.alloc (.cells #[.int .i64 0, .int .i64 0, .int .i64 0, .int .i64 0, .int .i64 2] 24)).heap.size = w.heap.size + 1 by simp] at hR
    have hb1 := ((Below.refl _ w).alloc (Nat.le_refl _) (.cells #[.int .i64 0, .int .i64 0, .int .i64 0, .int .i64 0, .int .i64 2] 24)).alloc (by simp) (.cells #[.int .i64 1, .int .i32 a, .int .i64 1, .int .i32 b, .int .i64 9, .int .i32 0, .int .i64 7, .int .i32 0] 52)
    have hsz : ((w.alloc (.cells #[.int .i64 0, .int .i64 0, .int .i64 0, .int .i64 0, .int .i64 2] 24)).alloc (.cells #[.int .i64 1, .int .i32 a, .int .i64 1, .int .i32 b, .int .i64 9, .int .i32 0, .int .i64 7, .int .i32 0] 52)).heap.size = w.heap.size + 2 := by simp
    generalize (w.alloc (.cells #[.int .i64 0, .int .i64 0, .int .i64 0, .int .i64 0, .int .i64 2] 24)).alloc (.cells #[.int .i64 1, .int .i32 a, .int .i64 1, .int .i32 b, .int .i64 9, .int .i32 0, .int .i64 7, .int .i32 0] 52) = w1 at hR hb1 hsz ⊢
    refine (Run_any fS _ _ _ _ 4 4 0 0 0 0 0 0 (w.heap.size + 2) 9 (badS a b) [] [] [] w1 (by omega) hR Row.none_ Row.none_ Row.none_ rng_nil rng_nil rng_nil).mono ?_
    intro e w2 hp
    obtain ⟨A, c, A', c', rfl, _, _, hb2⟩ := runP_is (er := 9) (us := 0) hp (by rw [HV.out]) (by rw [HV.out]) (by rw [HV.out]) (by rw [HV.out]; rfl) 0 0 rfl rfl
    clear hp hR
    have hb02 := hb1.trans (hb2.mono (by omega))
    clear hb1 hb2
    go_wp2_with fail
    have hb3 := hb02.alloc hb02.size (.cells #[.slice A 0 c, .slice A' 0 c', .int .i64 0] 33)
    refine (known_any _).mono ?_
    rintro e w4 ⟨rfl, hb4⟩
    have HB := hide (hb3.trans (hb4.mono hb3.size))
    clear hb3 hb4 hb02
    go_wp2
    go_ret
    exact ⟨rfl, HB.out⟩
theorem sums_walk (op a b : Int) (ha : rng a) (hb : rng b) (w : World) (hop : 1 ≤ op ∧ op ≤ 16) :
    Calls Try.prog 7 #[.int .i64 op, .int .i32 a, .int .i32 b] w (TrueP w) := by
  have hV := sum_S op a b hop
  have hwr : rng (binV op a b) := rng_binV ha
  obtain ⟨wv, hw⟩ : ∃ wv, binV op a b = wv := ⟨_, rfl⟩
  rw [hw] at hV hwr
  have HW := hide hw
  have HO := hide (show ∀ i ∈ sumS op a b wv, okI i by
    intro i hi
    unfold rng at ha hb hwr
    simp [sumS] at hi
    rcases hi with rfl | rfl | rfl | rfl | rfl | rfl | rfl | rfl | rfl | rfl <;> simp [okI] <;> omega)
  have HRA := hide (And.intro ha (And.intro hb hwr))
  obtain ⟨h1, h2⟩ := hop
  have d1 : decide (op < 1) = false := by simp; omega
  have d2 : decide (16 < op) = false := by simp; omega
  clear hw ha hb hwr
  by_cases h0 : wv = 0
  · rw [if_pos h0, if_pos h0] at hV
    have HV := hide hV
    have e0 : (wv == 0) = true := by simpa using h0
    clear hV h0
    go_enter Try.func7, Try.ntmps7
    go_wp2_with fail
    refine (Bin_any _ _ _ _).mono ?_
    rw [HW.out]
    rintro e w' ⟨rfl, rfl⟩
    go_wp2_with fail
    have hR := rowI_new (w := w.alloc (.cells #[.int .i64 0, .int .i64 0, .int .i64 0, .int .i64 0, .int .i64 2] 24)) (l := sumS op a b wv) (n := 10) (B := w.heap.size + 2) (cs := #[.int .i64 1, .int .i32 a, .int .i64 1, .int .i32 b, .int .i64 9, .int .i32 op, .int .i64 7, .int .i32 0, .int .i64 1, .int .i32 wv, .int .i64 11, .int .i32 2, .int .i64 1, .int .i32 a, .int .i64 10, .int .i32 1, .int .i64 1, .int .i32 b, .int .i64 7, .int .i32 1]) rfl rfl (by unfold maxLen; omega) rfl HO.out (by simp)
    rw [show (w.alloc (.cells #[.int .i64 0, .int .i64 0, .int .i64 0, .int .i64 0, .int .i64 2] 24)).heap.size = w.heap.size + 1 by simp] at hR
    have hb1 := ((Below.refl _ w).alloc (Nat.le_refl _) (.cells #[.int .i64 0, .int .i64 0, .int .i64 0, .int .i64 0, .int .i64 2] 24)).alloc (by simp) (.cells #[.int .i64 1, .int .i32 a, .int .i64 1, .int .i32 b, .int .i64 9, .int .i32 op, .int .i64 7, .int .i32 0, .int .i64 1, .int .i32 wv, .int .i64 11, .int .i32 2, .int .i64 1, .int .i32 a, .int .i64 10, .int .i32 1, .int .i64 1, .int .i32 b, .int .i64 7, .int .i32 1] 52)
    have hsz : ((w.alloc (.cells #[.int .i64 0, .int .i64 0, .int .i64 0, .int .i64 0, .int .i64 2] 24)).alloc (.cells #[.int .i64 1, .int .i32 a, .int .i64 1, .int .i32 b, .int .i64 9, .int .i32 op, .int .i64 7, .int .i32 0, .int .i64 1, .int .i32 wv, .int .i64 11, .int .i32 2, .int .i64 1, .int .i32 a, .int .i64 10, .int .i32 1, .int .i64 1, .int .i32 b, .int .i64 7, .int .i32 1] 52)).heap.size = w.heap.size + 2 := by simp
    generalize (w.alloc (.cells #[.int .i64 0, .int .i64 0, .int .i64 0, .int .i64 0, .int .i64 2] 24)).alloc (.cells #[.int .i64 1, .int .i32 a, .int .i64 1, .int .i32 b, .int .i64 9, .int .i32 op, .int .i64 7, .int .i32 0, .int .i64 1, .int .i32 wv, .int .i64 11, .int .i32 2, .int .i64 1, .int .i32 a, .int .i64 10, .int .i32 1, .int .i64 1, .int .i32 b, .int .i64 7, .int .i32 1] 52) = w1 at hR hb1 hsz ⊢
    refine (Run_any fS _ _ _ _ 10 10 0 0 0 0 0 0 (w.heap.size + 2) 10 (sumS op a b wv) [] [] [] w1 (by omega) hR Row.none_ Row.none_ Row.none_ rng_nil rng_nil rng_nil).mono ?_
    intro e w2 hp
    obtain ⟨A, c, A', c', rfl, _, o2, hb2⟩ := runP_is (er := 0) (us := 8) hp (by rw [HV.out]) (by rw [HV.out]) (by rw [HV.out]) (by rw [HV.out]; rfl) 0 2 rfl rfl
    clear hp hR
    have hb02 := hb1.trans (hb2.mono (by omega))
    clear hb1 hb2
    obtain ⟨q, rfl⟩ := own_some o2 (by omega)
    have t0 := o2.cellAt 0 (by omega)
    have t1 := o2.cellAt 1 (by omega)
    replace t0 : w2.cell? ⟨q, 0, none⟩ = some (.int .i32 wv) := by simpa [c32] using t0
    replace t1 : w2.cell? ⟨q, 1, none⟩ = some (.int .i32 b) := by simpa [c32] using t1
    have lq := (o2.lt q rfl).2
    have hcap := own_cap o2
    clear o2 hsz
    have HB2 := hide hb02
    clear hb02
    go_wp2_with fail
    have hb3 := HB2.out.alloc HB2.out.size (.cells #[.slice A 0 c, .slice (some ⟨q, 0, none⟩) 2 c', .int .i64 8] 33)
    refine (known_any _).mono ?_
    rintro e w4 ⟨rfl, hb4⟩
    have HB := hide (hb3.trans (hb4.mono hb3.size))
    clear hb3 hb4
    go_wp2
    go_ret
    exact ⟨rfl, HB.out⟩
  · rw [if_neg h0, if_neg h0] at hV
    have HV := hide hV
    have e0 : (wv == 0) = false := by simpa using h0
    clear hV h0
    go_enter Try.func7, Try.ntmps7
    go_wp2_with fail
    refine (Bin_any _ _ _ _).mono ?_
    rw [HW.out]
    rintro e w' ⟨rfl, rfl⟩
    go_wp2_with fail
    have hR := rowI_new (w := w.alloc (.cells #[.int .i64 0, .int .i64 0, .int .i64 0, .int .i64 0, .int .i64 2] 24)) (l := sumS op a b wv) (n := 10) (B := w.heap.size + 2) (cs := #[.int .i64 1, .int .i32 a, .int .i64 1, .int .i32 b, .int .i64 9, .int .i32 op, .int .i64 7, .int .i32 0, .int .i64 1, .int .i32 wv, .int .i64 11, .int .i32 2, .int .i64 1, .int .i32 a, .int .i64 10, .int .i32 1, .int .i64 1, .int .i32 b, .int .i64 7, .int .i32 1]) rfl rfl (by unfold maxLen; omega) rfl HO.out (by simp)
    rw [show (w.alloc (.cells #[.int .i64 0, .int .i64 0, .int .i64 0, .int .i64 0, .int .i64 2] 24)).heap.size = w.heap.size + 1 by simp] at hR
    have hb1 := ((Below.refl _ w).alloc (Nat.le_refl _) (.cells #[.int .i64 0, .int .i64 0, .int .i64 0, .int .i64 0, .int .i64 2] 24)).alloc (by simp) (.cells #[.int .i64 1, .int .i32 a, .int .i64 1, .int .i32 b, .int .i64 9, .int .i32 op, .int .i64 7, .int .i32 0, .int .i64 1, .int .i32 wv, .int .i64 11, .int .i32 2, .int .i64 1, .int .i32 a, .int .i64 10, .int .i32 1, .int .i64 1, .int .i32 b, .int .i64 7, .int .i32 1] 52)
    have hsz : ((w.alloc (.cells #[.int .i64 0, .int .i64 0, .int .i64 0, .int .i64 0, .int .i64 2] 24)).alloc (.cells #[.int .i64 1, .int .i32 a, .int .i64 1, .int .i32 b, .int .i64 9, .int .i32 op, .int .i64 7, .int .i32 0, .int .i64 1, .int .i32 wv, .int .i64 11, .int .i32 2, .int .i64 1, .int .i32 a, .int .i64 10, .int .i32 1, .int .i64 1, .int .i32 b, .int .i64 7, .int .i32 1] 52)).heap.size = w.heap.size + 2 := by simp
    generalize (w.alloc (.cells #[.int .i64 0, .int .i64 0, .int .i64 0, .int .i64 0, .int .i64 2] 24)).alloc (.cells #[.int .i64 1, .int .i32 a, .int .i64 1, .int .i32 b, .int .i64 9, .int .i32 op, .int .i64 7, .int .i32 0, .int .i64 1, .int .i32 wv, .int .i64 11, .int .i32 2, .int .i64 1, .int .i32 a, .int .i64 10, .int .i32 1, .int .i64 1, .int .i32 b, .int .i64 7, .int .i32 1] 52) = w1 at hR hb1 hsz ⊢
    refine (Run_any fS _ _ _ _ 10 10 0 0 0 0 0 0 (w.heap.size + 2) 10 (sumS op a b wv) [] [] [] w1 (by omega) hR Row.none_ Row.none_ Row.none_ rng_nil rng_nil rng_nil).mono ?_
    intro e w2 hp
    obtain ⟨A, c, A', c', rfl, _, o2, hb2⟩ := runP_is (er := 0) (us := 9) hp (by rw [HV.out]) (by rw [HV.out]) (by rw [HV.out]) (by rw [HV.out]; rfl) 0 2 rfl rfl
    clear hp hR
    have hb02 := hb1.trans (hb2.mono (by omega))
    clear hb1 hb2
    obtain ⟨q, rfl⟩ := own_some o2 (by omega)
    have t0 := o2.cellAt 0 (by omega)
    have t1 := o2.cellAt 1 (by omega)
    replace t0 : w2.cell? ⟨q, 0, none⟩ = some (.int .i32 wv) := by simpa [c32] using t0
    replace t1 : w2.cell? ⟨q, 1, none⟩ = some (.int .i32 a) := by simpa [c32] using t1
    have lq := (o2.lt q rfl).2
    have hcap := own_cap o2
    clear o2 hsz
    have HB2 := hide hb02
    clear hb02
    go_wp2_with fail
    have hb3 := HB2.out.alloc HB2.out.size (.cells #[.slice A 0 c, .slice (some ⟨q, 0, none⟩) 2 c', .int .i64 9] 33)
    refine (known_any _).mono ?_
    rintro e w4 ⟨rfl, hb4⟩
    have HB := hide (hb3.trans (hb4.mono hb3.size))
    clear hb3 hb4
    go_wp2
    go_ret
    exact ⟨rfl, HB.out⟩
end Go.Proofs.Ytmjelcoljmefeaa
