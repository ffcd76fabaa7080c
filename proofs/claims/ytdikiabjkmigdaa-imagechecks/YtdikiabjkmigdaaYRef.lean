/-
  Contracts of midstreamref11: Move, Check.
-/
import Derived.Test.YtdikiabjkmigdaaYPkg2
import Derived.Test.YtdikiabjkmigdaaURef2
namespace Go.Proofs.Ytdikiabjkmigdaa
open Go.RowKit
set_option maxRecDepth 20000
set_option maxHeartbeats 4000000

theorem rMove_any (K : IV) (w : World) :
    Calls Try.prog 24 #[.agg #[.int .u32 K.v, .int .u32 K.f, .int .i64 K.e, .int .i64 K.s, .int .i64 K.o, .int .i64 K.n, .int .i64 K.i, .int .i64 K.u, .slice K.fA K.fn K.fc, .slice K.sA K.sn K.sc, .slice K.mA K.mn K.mc, .int .i64 K.x, .int .i64 K.y]] w fun e w' => e = .returned (.agg #[.int .i64 0, .int .i64 K.e, .int .i64 K.n, .int .i64 0, .int .i64 0]) ∧ Below w.heap.size w w' := by
  obtain ⟨v, f, e, s, o, n, i, u, x, y, fs, st, mv, fA, fn, fc, sA, sn, sc, mA, mn, mc⟩ := K
  simp only
  go_enter Try.func24, Try.ntmps24
  go_wp2_with fail
  refine ret_frame (g := w.heap.size + 1) rfl rfl (Blk.at _ _ _ (by simp)) rfl ⟨rfl, two_below w _ _⟩
theorem ragr_ways (v f e o n : Int) (k q : Nat) (_hf : 0 ≤ f) (h : ¬ (f < v ∧ 0 ≤ e ∧ e ≤ 16 ∧ o = n ∧ (k : Int) = n ∧ (f ≠ 0 ∨ (e = 0 ∧ q = 0)))) :
    v = 0 ∨ ((v == 0) = false ∧ v ≤ f) ∨ ((v == 0) = false ∧ f < v ∧ e < 0) ∨ ((v == 0) = false ∧ f < v ∧ 0 ≤ e ∧ 16 < e) ∨ ((v == 0) = false ∧ f < v ∧ 0 ≤ e ∧ e ≤ 16 ∧ (o == n) = false) ∨
    ((v == 0) = false ∧ f < v ∧ 0 ≤ e ∧ e ≤ 16 ∧ o = n ∧ ((k : Int) == n) = false) ∨
    ((v == 0) = false ∧ f < v ∧ 0 ≤ e ∧ e ≤ 16 ∧ o = n ∧ n = (k : Int) ∧ f = 0 ∧ (e == 0) = false) ∨
    ((v == 0) = false ∧ f < v ∧ 0 ≤ e ∧ e ≤ 16 ∧ o = n ∧ n = (k : Int) ∧ f = 0 ∧ e = 0 ∧ (q == 0) = false) := by
  by_cases h0 : v = 0
  · exact .inl h0
  · have g0 : (v == 0) = false := beq_eq_false_iff_ne.2 h0
    by_cases h1 : f < v
    · by_cases h2 : 0 ≤ e
      · by_cases h3 : e ≤ 16
        · by_cases h4 : o = n
          · by_cases h5 : n = (k : Int)
            · by_cases h6 : f = 0
              · by_cases h7 : e = 0
                · by_cases h8 : q = 0
                  · exact absurd ⟨h1, h2, h3, h4, h5.symm, .inr ⟨h7, h8⟩⟩ h
                  · exact .inr (.inr (.inr (.inr (.inr (.inr (.inr ⟨g0, h1, h2, h3, h4, h5, h6, h7, beq_eq_false_iff_ne.2 h8⟩))))))
                · exact .inr (.inr (.inr (.inr (.inr (.inr (.inl ⟨g0, h1, h2, h3, h4, h5, h6, beq_eq_false_iff_ne.2 h7⟩))))))
              · exact absurd ⟨h1, h2, h3, h4, h5.symm, .inl h6⟩ h
            · exact .inr (.inr (.inr (.inr (.inr (.inl ⟨g0, h1, h2, h3, h4, beq_eq_false_iff_ne.2 fun z => h5 z.symm⟩)))))
          · exact .inr (.inr (.inr (.inr (.inl ⟨g0, h1, h2, h3, beq_eq_false_iff_ne.2 h4⟩))))
        · exact .inr (.inr (.inr (.inl ⟨g0, h1, h2, by omega⟩)))
      · exact .inr (.inr (.inl ⟨g0, h1, by omega⟩))
    · exact .inr (.inl ⟨g0, by omega⟩)
theorem nat_bne {q : Nat} (h : (q == 0) = false) : ((q : Int) == 0) = false := by
  rw [beq_eq_false_iff_ne] at h ⊢; omega
/-- Its parts do not agree. -/
theorem rChk_bad (K : IV) (w : World) (hK : Held w w.heap.size K) (h : ¬ agr K.m) :
    Calls Try.prog 11 #[.agg #[.int .u32 K.v, .int .u32 K.f, .int .i64 K.e, .int .i64 K.s, .int .i64 K.o, .int .i64 K.n, .int .i64 K.i, .int .i64 K.u, .slice K.fA K.fn K.fc, .slice K.sA K.sn K.sc, .slice K.mA K.mn K.mc, .int .i64 K.x, .int .i64 K.y]] w (Tells w 1) := by
  have hl := row_len hK.fs
  have hm := hK.mv.count
  have hf := hK.wf.frm.1
  obtain ⟨v, f, e, s, o, n, i, u, x, y, fs, st, mv, fA, fn, fc, sA, sn, sc, mA, mn, mc⟩ := K
  simp only [IV.m] at hl hm h hf ⊢
  unfold agr at h
  simp only [hl, hm] at h
  have cs := ragr_ways v f e o n fn mn hf h
  clear hl hm hK h hf
  rcases cs with rfl | ⟨h0, h1⟩ | ⟨h0, h1, h2⟩ | ⟨h0, h1, h2, h3⟩ | ⟨h0, h1, h2, h3, h4⟩ | ⟨h0, h1, h2, h3, rfl, h5⟩ | ⟨h0, h1, h2, h3, rfl, rfl, rfl, h7⟩ | ⟨h0, h1, h2, h3, rfl, rfl, rfl, rfl, h8⟩
  all_goals
    try have g4 := bne_of h4
    try have g5 := bne_of h5
    try have g7 := bne_of h7
    try have n8 := nat_bne h8
    try have g8 := bne_of n8
    try have g9 := bne_of h8
    go_enter Try.func11, Try.ntmps11
    go_wp2
    all_goals
      go_ret
      exact ⟨rfl, below_box w _⟩

end Go.Proofs.Ytdikiabjkmigdaa
