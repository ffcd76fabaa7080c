/-
  Contracts of package image: agrees, runsWithin, moveFrame, Check.
-/
import Derived.Test.YtdikiabjkmigdaaYMem
import Derived.Test.YtdikiabjkmigdaaUPkg5
import Derived.Deep.Cut
import Derived.Deep.DeepCutAuto
namespace Go.Proofs.Ytdikiabjkmigdaa
open Go.RowKit
set_option maxRecDepth 20000
set_option maxHeartbeats 2000000

def agrB (m : Im) : Bool := decide (agr m)
theorem agr_ways (v f e o n : Int) (k q : Nat) (b : Bool) (h : decide (f < v ∧ 0 ≤ e ∧ e ≤ 16 ∧ o = n ∧ (k : Int) = n ∧ (f ≠ 0 ∨ (e = 0 ∧ q = 0))) = b) :
    (¬ f < v ∧ b = false) ∨ (f < v ∧ ¬ 0 ≤ e ∧ b = false) ∨ (f < v ∧ 0 ≤ e ∧ ¬ e ≤ 16 ∧ b = false) ∨ (f < v ∧ 0 ≤ e ∧ e ≤ 16 ∧ (o == n) = false ∧ b = false) ∨
    (f < v ∧ 0 ≤ e ∧ e ≤ 16 ∧ o = n ∧ ((k : Int) == n) = false ∧ b = false) ∨ (f < v ∧ 0 ≤ e ∧ e ≤ 16 ∧ o = n ∧ n = (k : Int) ∧ (f == 0) = false ∧ b = true) ∨
    (f < v ∧ 0 ≤ e ∧ e ≤ 16 ∧ o = n ∧ n = (k : Int) ∧ f = 0 ∧ (e == 0) = false ∧ b = false) ∨
    (f < v ∧ 0 ≤ e ∧ e ≤ 16 ∧ o = n ∧ n = (k : Int) ∧ f = 0 ∧ e = 0 ∧ 0 < q ∧ b = false) ∨
    (f < v ∧ 0 ≤ e ∧ e ≤ 16 ∧ o = n ∧ n = (k : Int) ∧ f = 0 ∧ e = 0 ∧ q = 0 ∧ b = true) := by
  by_cases h1 : f < v
  · by_cases h2 : 0 ≤ e
    · by_cases h3 : e ≤ 16
      · by_cases h4 : o = n
        · by_cases h5 : n = (k : Int)
          · by_cases h6 : f = 0
            · by_cases h7 : e = 0
              · by_cases h8 : q = 0
                · exact .inr (.inr (.inr (.inr (.inr (.inr (.inr (.inr ⟨h1, h2, h3, h4, h5, h6, h7, h8, by rw [← h]; exact decide_eq_true ⟨h1, h2, h3, h4, h5.symm, .inr ⟨h7, h8⟩⟩⟩)))))))
                · exact .inr (.inr (.inr (.inr (.inr (.inr (.inr (.inl ⟨h1, h2, h3, h4, h5, h6, h7, by omega, by rw [← h]; exact decide_eq_false fun hn => hn.2.2.2.2.2.elim (fun z => z h6) fun z => h8 z.2⟩)))))))
              · exact .inr (.inr (.inr (.inr (.inr (.inr (.inl ⟨h1, h2, h3, h4, h5, h6, beq_eq_false_iff_ne.2 h7, by rw [← h]; exact decide_eq_false fun hn => hn.2.2.2.2.2.elim (fun z => z h6) fun z => h7 z.1⟩))))))
            · exact .inr (.inr (.inr (.inr (.inr (.inl ⟨h1, h2, h3, h4, h5, beq_eq_false_iff_ne.2 h6, by rw [← h]; exact decide_eq_true ⟨h1, h2, h3, h4, h5.symm, .inl h6⟩⟩)))))
          · exact .inr (.inr (.inr (.inr (.inl ⟨h1, h2, h3, h4, beq_eq_false_iff_ne.2 fun z => h5 z.symm, by rw [← h]; exact decide_eq_false fun hn => h5 hn.2.2.2.2.1.symm⟩))))
        · exact .inr (.inr (.inr (.inl ⟨h1, h2, h3, beq_eq_false_iff_ne.2 h4, by rw [← h]; exact decide_eq_false fun hn => h4 hn.2.2.2.1⟩)))
      · exact .inr (.inr (.inl ⟨h1, h2, h3, by rw [← h]; exact decide_eq_false fun hn => h3 hn.2.2.1⟩))
    · exact .inr (.inl ⟨h1, h2, by rw [← h]; exact decide_eq_false fun hn => h2 hn.2.1⟩)
  · exact .inl ⟨h1, by rw [← h]; exact decide_eq_false fun hn => h1 hn.1⟩
theorem bne_of {a b : Int} {c : Bool} (h : (a == b) = c) : (a != b) = !c := by rw [← h]; rfl
theorem agrees_b (K : IV) (b : Bool) (w : World) (hK : Held w w.heap.size K) (H : Hid (agrB K.m = b)) :
    Calls Try.prog 20 #[.agg #[.int .u32 K.v, .int .u32 K.f, .int .i64 K.e, .int .i64 K.s, .int .i64 K.o, .int .i64 K.n, .int .i64 K.i, .int .i64 K.u, .slice K.fA K.fn K.fc, .slice K.sA K.sn K.sc, .slice K.mA K.mn K.mc, .int .i64 K.x, .int .i64 K.y]] w (TellsB w b) := by
  have hl := row_len hK.fs
  have hm := hK.mv.count
  obtain ⟨v, f, e, s, o, n, i, u, x, y, fs, st, mv, fA, fn, fc, sA, sn, sc, mA, mn, mc⟩ := K
  simp only at hl hm ⊢
  have cs : decide (f < v ∧ 0 ≤ e ∧ e ≤ 16 ∧ o = n ∧ (fn : Int) = n ∧ (f ≠ 0 ∨ (e = 0 ∧ mn = 0))) = b := by
    rw [← H.out]; unfold agrB agr IV.m; simp only [hl, hm]
  clear H hl hm hK
  rcases agr_ways v f e o n fn mn b cs with ⟨h1, rfl⟩ | ⟨h1, h2, rfl⟩ | ⟨h1, h2, h3, rfl⟩ | ⟨h1, h2, h3, h4, rfl⟩ | ⟨h1, h2, h3, rfl, h5, rfl⟩ | ⟨h1, h2, h3, rfl, rfl, h6, rfl⟩ | ⟨h1, h2, h3, rfl, rfl, rfl, h7, rfl⟩ | ⟨h1, h2, h3, rfl, rfl, rfl, rfl, h8, rfl⟩ | ⟨h1, h2, h3, rfl, rfl, rfl, rfl, rfl, rfl⟩
  all_goals
    clear cs
    try have g6 := bne_of h6
    try have g7 := bne_of h7
    go_enter Try.func20, Try.ntmps20
    go_wp2
    all_goals
      go_ret
      exact ⟨rfl, below_box w _⟩

theorem two_below (w : World) (a b : Obj) : Below w.heap.size w ((w.alloc a).alloc b) := ((Below.refl _ w).alloc (Nat.le_refl _) a).alloc (by simp) b
theorem moveFrame_any (K : IV) (w : World) :
    Calls Try.prog 22 #[.agg #[.int .u32 K.v, .int .u32 K.f, .int .i64 K.e, .int .i64 K.s, .int .i64 K.o, .int .i64 K.n, .int .i64 K.i, .int .i64 K.u, .slice K.fA K.fn K.fc, .slice K.sA K.sn K.sc, .slice K.mA K.mn K.mc, .int .i64 K.x, .int .i64 K.y]] w fun e w' => e = .returned (.agg #[.int .i64 0, .int .i64 K.e, .int .i64 K.n, .int .i64 0, .int .i64 0]) ∧ Below w.heap.size w w' := by
  obtain ⟨v, f, e, s, o, n, i, u, x, y, fs, st, mv, fA, fn, fc, sA, sn, sc, mA, mn, mc⟩ := K
  simp only
  go_enter Try.func22, Try.ntmps22
  go_wp2_with fail
  refine ret_frame (g := w.heap.size + 1) rfl rfl (Blk.at _ _ _ (by simp)) rfl ⟨rfl, two_below w _ _⟩
theorem box_then {w w2 : World} {o : Obj} (hb : Below (w.alloc o).heap.size (w.alloc o) w2) : Below w.heap.size w w2 := (below_box w o).trans (hb.mono (below_box w o).size)
theorem ret_e {a b : Int} (h : a = b) : Ending.returned (.int .i64 a) = .returned (.int .i64 b) := by rw [h]
theorem runsWithin_any (f : Fr) (z : Int) (A : Option Addr) (n c : Nat) (l : List (Int × Int)) (x : Int) (w : World) (hr : RowI w w.heap.size A n c l) (H : Hid (runE f l x = z)) :
    Calls Try.prog 21 #[.slice A n c, .agg #[.int .i64 f.s, .int .i64 f.o, .int .i64 f.n, .int .i64 f.i, .int .i64 f.u], .int .i64 x] w (Tells w z) := by
  obtain ⟨s1, s2, s3, s4, s5⟩ := f
  simp only
  obtain ⟨⟨D, F, er, at_⟩, hD⟩ : ∃ r, checkM ⟨s1, s2, s3, s4, s5⟩ l = r := ⟨_, rfl⟩
  have cs : ((er == 0) = false ∧ er = z) ∨ (er = 0 ∧ (F == x) = false ∧ 14 = z) ∨ (er = 0 ∧ F = x ∧ 0 = z) := by
    have h := H.out
    unfold runE at h
    rw [hD] at h
    by_cases h1 : er = 0
    · rw [if_neg (fun hn => hn h1)] at h
      by_cases h2 : F = x
      · rw [if_neg (fun hn => hn h2)] at h; exact .inr (.inr ⟨h1, h2, h⟩)
      · rw [if_pos h2] at h; exact .inr (.inl ⟨h1, beq_eq_false_iff_ne.2 h2, h⟩)
    · rw [if_pos h1] at h; exact .inl ⟨beq_eq_false_iff_ne.2 h1, h⟩
  have HD := hide hD
  clear hD H
  rcases cs with ⟨h1, rfl⟩ | ⟨rfl, h2, rfl⟩ | ⟨rfl, rfl, rfl⟩
  all_goals
    try have g1 := bne_of h1
    try have g2 := bne_of h2
    go_enter Try.func21, Try.ntmps21
    go_wp2_with fail
    refine (Check_any ⟨s1, s2, s3, s4, s5⟩ w.heap.size A n c l _ (hr.keep (below_box w _) (Nat.le_refl _)) (below_box w _).size).mono ?_
    intro e w2 hk
    unfold Checked at hk
    rw [HD.out] at hk
    obtain ⟨rfl, hb⟩ := hk
    go_wp2
    go_ret
    exact ⟨rfl, (box_then hb).alloc (box_then hb).size _⟩

end Go.Proofs.Ytdikiabjkmigdaa
