/-
  Contracts: the closure of image.decoded that reads a run; image.withCodes.
-/
import Derived.Test.YtdikiabjkmigdaaYPkg6
namespace Go.Proofs.Ytdikiabjkmigdaa
open Go.RowKit
set_option maxRecDepth 20000
set_option maxHeartbeats 2000000

theorem int_no {z : Int} : ∀ u ∈ [Value.int .i64 z], ∀ v, u ≠ Value.int .u8 v := by
  intro u hu v; rw [List.mem_singleton] at hu; subst hu; intro hn; injection hn with h1 _; exact absurd h1 (by decide)
theorem size_set (w : World) (p : Addr) (v : Value) : (w.setCell p v).heap.size = w.heap.size := by simp [World.setCell]
/-- The closure that reads a run. -/
theorem getRun_any (B gb ge ga n c : Nat) (A : Option Addr) (l : List UInt8) (s : Int × Int) (w : World) (h : DS B gb ge ga A n c l s w) (hn : n ≤ 1099511627776) :
    Calls Try.prog 49 #[.pointer (some ⟨ge, 0, none⟩), .pointer (some ⟨gb, 0, none⟩), .pointer (some ⟨ga, 0, none⟩)] w fun e w' => (∃ A' n' c', e = .returned (.slice A' n' c') ∧ Row w' w'.heap.size A' n' c' (cs8 (valr l s))) ∧ DS B gb ge ga A n c l (nxr l s) w' ∧ Keeps [ge, ga] w w' := by
  obtain ⟨a, er⟩ := s
  have ce := h.e.cell (j := 0) rfl
  have ca := h.a.cell (j := 0) rfl
  have cb := h.b.cell (j := 0) rfl
  have le_ := h.e.lt
  have la := h.a.lt
  have hne := h.ne.2.2
  simp only at ce ca cb
  have HH := hide h
  clear h
  by_cases h0 : er = 0
  · subst h0
    have HV := hide (show valr l (a, 0) = grL l a from if_pos rfl)
    have HN := hide (show nxr l (a, 0) = (grT l a, grE l a) by unfold nxr; rw [if_pos rfl, if_pos rfl])
    obtain ⟨x, hx⟩ : ∃ x, grL l a = x := ⟨_, rfl⟩
    obtain ⟨t, ht⟩ : ∃ t, grT l a = t := ⟨_, rfl⟩
    obtain ⟨z, hz⟩ : ∃ z, grE l a = z := ⟨_, rfl⟩
    have HX := hide hx
    have HT := hide ht
    have HZ := hide hz
    clear hx ht hz
    go_enter Try.func49, Try.ntmps49
    go_wp2_with fail
    refine (GetRun_any B A n c l a w HH.out.row (by have := HH.out.out.1; have := HH.out.b.lt; omega) hn).mono ?_
    rw [HX.out, HT.out, HZ.out]
    rintro e w2 ⟨A2, n2, c2, rfl, o2, hb2⟩
    have h2 := HH.out.keep hb2
    have H2 := hide h2
    have R2 := hide (Row.of_own o2)
    have fe := h2.e.frozen 0
    have fa := h2.a.frozen 0
    have fce := h2.e.cell (j := 0) rfl
    have fca := h2.a.cell (j := 0) rfl
    have le2 := h2.e.lt
    have la2 := h2.a.lt
    simp only at fce fca
    clear h2 o2 ce ca cb
    go_wp2
    go_ret
    have k1 : DS B gb ge ga A n c l (t, 0) (w2.setCell ⟨ga, 0, none⟩ (.int .i64 t)) := H2.out.setA
    refine ⟨⟨A2, n2, c2, rfl, ?_⟩, ?_, ?_⟩
    · rw [HV.out, HX.out, size_set, size_set]
      exact Row.off8 k1.e int_no (Row.off8 H2.out.a int_no R2.out fun k hk => heap_setCell_other w2 ⟨ga, 0, none⟩ k _ hk) fun k hk => heap_setCell_other _ ⟨ge, 0, none⟩ k _ hk
    · rw [HN.out, HT.out, HZ.out]
      exact k1.setE
    · exact ((Keeps.of_below hb2).set (.inl (by simp)) _).set (.inl (by simp)) _
  · have HV := hide (show valr l (a, er) = [] from if_neg h0)
    have HN := hide (show nxr l (a, er) = (a, er) by unfold nxr; rw [if_neg h0, if_neg h0])
    have g0 : (er == 0) = false := beq_eq_false_iff_ne.2 h0
    clear h0
    go_enter Try.func49, Try.ntmps49
    go_wp2
    go_ret
    exact ⟨⟨none, 0, 0, rfl, by rw [HV.out]; exact Row.none_⟩, by rw [HN.out]; exact HH.out, Keeps.refl _ w⟩

end Go.Proofs.Ytdikiabjkmigdaa
