/-
  What must come of fixed calls (known); the laws' own helpers: light, run, fitted, touches; the reference's Ints.
-/
import Derived.Test.YtmjelcoljmefeaaVPkg8
namespace Go.Proofs.Ytmjelcoljmefeaa
open Go.RowKit
set_option maxRecDepth 20000
set_option maxHeartbeats 2000000

theorem runP_is {w w' : World} {e : Ending} {V : Int × List Int × List Int × Nat} {er us : Int} {ce ou : List Int} (h : RunP V w e w') (h0 : V.1 = er) (h1 : V.2.1 = ce) (h2 : V.2.2.1 = ou) (h3 : (V.2.2.2 : Int) = us) (n1 n2 : Nat) (l1 : ce.length = n1) (l2 : ou.length = n2) :
    ∃ A c A' c', e = .returned (.tuple #[.agg #[.slice A n1 c, .slice A' n2 c', .int .i64 us], .int .i64 er]) ∧
    w'.ownsRow w.heap.size 21 1 (.slice A n1 c) n1 (c32 ce) ∧ w'.ownsRow w.heap.size 21 1 (.slice A' n2 c') n2 (c32 ou) ∧ Below w.heap.size w w' := by
  subst h0; subst h1; subst h2; subst h3; subst l1; subst l2; exact h
theorem rowI_lit (w : World) (l : List (Int × Int)) (n : Nat) (hn : l.length = n) (hm : n ≤ maxLen) (cs : Array Value) (hc : cs.toList = csI l) (hok : ∀ i ∈ l, okI i) : RowI (w.alloc (.cells cs 52)) (w.heap.size + 1) (some ⟨w.heap.size, 0, none⟩) n n l :=
  ⟨hn, Nat.le_refl _, hm, (fun h => by cases h), (fun _ => ⟨w.heap.size, 0, rfl, by omega, fun j v hv => by
    have e : (w.alloc (.cells cs 52)).heap[w.heap.size]? = some (.cells cs 52) := heap_alloc_new w _
    rw [Nat.zero_add, cell_of_row _ _ _ _ _ _ e]
    rw [← hc] at hv
    simpa using hv⟩), hok⟩
theorem known_one : vmV ⟨0, 0, 0, 1, 1⟩ [(6, 0), (1, 3), (9, 3), (7, 0)] [] [] [5] 4 = (0, [], [15], 4) := by decide +kernel
theorem known_two : (vmV ⟨0, 0, 0, 1, 1⟩ [(6, 0), (1, 3), (9, 3), (7, 0)] [] [] [5] 3) = (14, [], [], 0) := by decide +kernel
theorem known_any (w : World) : Calls Try.prog 9 #[] w fun e w' => e = .returned (.bool true) ∧ Below w.heap.size w w' := by
  go_enter Try.func9, Try.ntmps9
  go_wp2_with fail
  have hb1 := ((Below.refl _ w).alloc (Nat.le_refl _) (.cells #[.int .i64 6, .int .i32 0, .int .i64 1, .int .i32 3, .int .i64 9, .int .i32 3, .int .i64 7, .int .i32 0] 52)).alloc (by simp) (.cells #[.int .i64 0, .int .i64 0, .int .i64 0, .int .i64 1, .int .i64 1] 24)
  have hR := (rowI_lit w [(6, 0), (1, 3), (9, 3), (7, 0)] 4 rfl (by unfold maxLen; omega) #[.int .i64 6, .int .i32 0, .int .i64 1, .int .i32 3, .int .i64 9, .int .i32 3, .int .i64 7, .int .i32 0] rfl (by simp [okI])).keep ((Below.refl (w.heap.size + 1) _).alloc (by simp) (.cells #[.int .i64 0, .int .i64 0, .int .i64 0, .int .i64 1, .int .i64 1] 24)) (Nat.le_refl _)
  have bF := Blk.at (w.alloc (.cells #[.int .i64 6, .int .i32 0, .int .i64 1, .int .i32 3, .int .i64 9, .int .i32 3, .int .i64 7, .int .i32 0] 52)) 24 [.int .i64 0, .int .i64 0, .int .i64 0, .int .i64 1, .int .i64 1] (g := w.heap.size + 1) (by simp)
  have hsz : ((w.alloc (.cells #[.int .i64 6, .int .i32 0, .int .i64 1, .int .i32 3, .int .i64 9, .int .i32 3, .int .i64 7, .int .i32 0] 52)).alloc (.cells #[.int .i64 0, .int .i64 0, .int .i64 0, .int .i64 1, .int .i64 1] 24)).heap.size = w.heap.size + 1 + 1 := by simp
  generalize (w.alloc (.cells #[.int .i64 6, .int .i32 0, .int .i64 1, .int .i32 3, .int .i64 9, .int .i32 3, .int .i64 7, .int .i32 0] 52)).alloc (.cells #[.int .i64 0, .int .i64 0, .int .i64 0, .int .i64 1, .int .i64 1] 24) = w1 at hb1 hR bF hsz ⊢
  have hI := Row.one w1 (.int .i32 5) 21
  rw [hsz] at hI
  have hw := (Below.refl (w.heap.size + 1 + 1) w1).alloc (by omega) (.cells #[.int .i32 5] 21)
  have hb1' := hb1.alloc (by omega) (.cells #[.int .i32 5] 21)
  have bF' := bF.alloc (.cells #[.int .i32 5] 21)
  have hR' := hR.keep hw (by omega)
  have hsz2 : (w1.alloc (.cells #[.int .i32 5] 21)).heap.size = w.heap.size + 1 + 1 + 1 := by simp; omega
  generalize w1.alloc (.cells #[.int .i32 5] 21) = w2 at hI hb1' bF' hR' hsz2 ⊢
  clear hw hb1 hR bF hsz
  refine (Run_any ⟨0, 0, 0, 1, 1⟩ _ _ _ _ 4 4 0 0 0 0 1 1 (w.heap.size + 1 + 1 + 1) 4 [(6, 0), (1, 3), (9, 3), (7, 0)] [] [] [5] w2 (by omega) (hR'.more (by omega)) Row.none_ Row.none_ hI rng_nil rng_nil (rng_one (by unfold rng; omega))).mono ?_
  intro e w3 hp
  obtain ⟨A, c, A', c', rfl, _, o2, hb3⟩ := runP_is (us := 4) hp (congrArg (·.1) known_one) (congrArg (·.2.1) known_one) (congrArg (·.2.2.1) known_one) (by rw [known_one]; rfl) 0 1 rfl rfl
  clear hp hI
  have hb03 := hb1'.trans (hb3.mono (by omega))
  have bF3 := bF'.keep hb3 bF'.lt
  have hR3 := hR'.keep hb3 (by omega)
  have s3 := hb3.size
  clear hb1' hR' bF' hb3
  have cf0 := bF3.cell (j := 0) rfl
  have cf1 := bF3.cell (j := 1) rfl
  have cf2 := bF3.cell (j := 2) rfl
  have cf3 := bF3.cell (j := 3) rfl
  have cf4 := bF3.cell (j := 4) rfl
  have lF := bF3.lt
  go_wp2_with fail
  have bX := (Blk.new w3 33 [.slice A 0 c, .slice A' 1 c', .int .i64 4]).alloc (.cells #[.int .i32 5] 21)
  have hI := Row.one (w3.alloc (.cells #[.slice A 0 c, .slice A' 1 c', .int .i64 4] 33)) (.int .i32 5) 21
  have hsz : (w3.alloc (.cells #[.slice A 0 c, .slice A' 1 c', .int .i64 4] 33)).heap.size = w3.heap.size + 1 := by simp
  rw [hsz] at hI
  have o4 := (o2.alloc (.cells #[.slice A 0 c, .slice A' 1 c', .int .i64 4] 33)).alloc (.cells #[.int .i32 5] 21)
  have hb04 := (hb03.alloc hb03.size (.cells #[.slice A 0 c, .slice A' 1 c', .int .i64 4] 33)).alloc (by have := hb03.size; simp; omega) (.cells #[.int .i32 5] 21)
  have hR4 := (hR3.keep (((Below.refl (w.heap.size + 1) w3).alloc (by omega) (.cells #[.slice A 0 c, .slice A' 1 c', .int .i64 4] 33)).alloc (by simp; omega) (.cells #[.int .i32 5] 21)) (Nat.le_refl _))
  have hsz4 : ((w3.alloc (.cells #[.slice A 0 c, .slice A' 1 c', .int .i64 4] 33)).alloc (.cells #[.int .i32 5] 21)).heap.size = w3.heap.size + 1 + 1 := by simp
  generalize (w3.alloc (.cells #[.slice A 0 c, .slice A' 1 c', .int .i64 4] 33)).alloc (.cells #[.int .i32 5] 21) = w4 at bX hI o4 hb04 hR4 hsz4 ⊢
  clear cf0 cf1 cf2 cf3 cf4 hsz o2 hb03 bF3 hR3
  refine (Run_any ⟨0, 0, 0, 1, 1⟩ _ _ _ _ 4 4 0 0 0 0 1 1 (w3.heap.size + 1 + 1) 3 [(6, 0), (1, 3), (9, 3), (7, 0)] [] [] [5] w4 (by omega) (hR4.more (by omega)) Row.none_ Row.none_ hI rng_nil rng_nil (rng_one (by unfold rng; omega))).mono ?_
  intro e w5 hp
  obtain ⟨D, d, D', d', rfl, _, _, hb5⟩ := runP_is (us := 0) hp (congrArg (·.1) known_two) (congrArg (·.2.1) known_two) (congrArg (·.2.2.1) known_two) (by rw [known_two]; rfl) 0 0 rfl rfl
  clear hp hI
  have hb05 := hb04.trans (hb5.mono (by omega))
  have bX5 := bX.keep hb5 bX.lt
  have o5 := own_below o4 hb5 (Nat.le_refl _)
  obtain ⟨q, rfl⟩ := own_some o5 (by omega)
  have ct := o5.cellAt 0 (by omega)
  have lq := (o5.lt q rfl).2
  have cx1 := bX5.cell (j := 1) rfl
  have cx2 := bX5.cell (j := 2) rfl
  have lX := bX5.lt
  replace ct : w5.cell? ⟨q, 0, none⟩ = some (.int .i32 15) := by simpa [c32] using ct
  have hcap := own_cap o5
  clear o5 o4 bX bX5 hR4 hb04 hb5
  go_wp2
  go_ret
  exact ⟨rfl, hb05.alloc hb05.size _⟩
end Go.Proofs.Ytmjelcoljmefeaa
