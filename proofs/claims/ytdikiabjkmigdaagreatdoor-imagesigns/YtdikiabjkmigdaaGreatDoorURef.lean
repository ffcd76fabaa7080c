/-
  The reference's Check: its memory, the refusals, and its building loop.
-/
import Derived.Test.YtdikiabjkmigdaaGreatDoorUPkg5
namespace Go.Proofs.YtdikiabjkmigdaaGreatDoor
open Go.RowKit
set_option maxHeartbeats 2000000

theorem sizeRR : (Tryz.prog.info? 82).map (·.size) = some 2 := by kernel_rfl
theorem ret_repR {fn : Func} {w0 : World} {r : Int × Int × Int × Int} {a : Act} {w : World} {p u v : Tmp} {g : Nat} {D F er at_ : Int} (h : fn.results = #[.cell p 82, .tmp u, .tmp v])
    (hp : a.tmps.getD p undef = .pointer (some ⟨g, 0, none⟩)) (hu : a.tmps.getD u undef = .int .i64 er) (hv : a.tmps.getD v undef = .int .i64 at_) (hb : Blk w g 82 [.int .i64 D, .int .i64 F]) (hd : a.defers = [])
    (hR : r = (D, F, er, at_)) (hbl : Below w0.heap.size w0 w) : bodyPost Tryz.prog fn (Checked w0 r) .ret a w := by
  refine bodyPost_ret_by (v := .tuple #[.agg #[.int .i64 D, .int .i64 F], .int .i64 er, .int .i64 at_]) ?_ hd ⟨by rw [hR], hbl⟩
  have := run_loadVar_row (P := Tryz.prog) w g _ 82 #[.int .i64 D, .int .i64 F] (0, 0) _ hb Tryz.underlying82 rfl (by exact sizeRR)
  rw [results_cell_two h]
  simp only [hp, hu, hv, asAddr]
  simp [this, Result.andThen]
/-- The frame, the report and the two rows of the reference's check. -/
structure TF (w0 : World) (s1 s2 s3 s4 s5 : Int) (g h n c1 c2 : Nat) (d gs : List Int) (w : World) : Prop where
  bF : Blk w w0.heap.size 24 [.int .i64 s1, .int .i64 s2, .int .i64 s3, .int .i64 s4, .int .i64 s5]
  bR : Blk w (w0.heap.size + 1) 82 [.int .i64 0, .int .i64 0]
  ne : g ≠ h
  hg : w0.heap.size + 2 ≤ g ∧ w0.heap.size + 2 ≤ h
  d : w.ownsRow (w0.heap.size + 2) 3 1 (.slice (some ⟨g, 0, none⟩) (n + 1) c1) (n + 1) (csG d)
  f : w.ownsRow (w0.heap.size + 2) 3 1 (.slice (some ⟨h, 0, none⟩) (n + 1) c2) (n + 1) (csG gs)
  bl : Below w0.heap.size w0 w
section
variable {w0 w w' : World} {s1 s2 s3 s4 s5 : Int} {g h n c1 c2 : Nat} {d gs : List Int}
theorem TF.keep (t : TF w0 s1 s2 s3 s4 s5 g h n c1 c2 d gs w) (hb : Below w.heap.size w w') : TF w0 s1 s2 s3 s4 s5 g h n c1 c2 d gs w' :=
  ⟨t.bF.keep hb t.bF.lt, t.bR.keep hb t.bR.lt, t.ne, t.hg, own_keep t.d hb, own_keep t.f hb, t.bl.trans (hb.mono t.bl.size)⟩
theorem TF.alloc (t : TF w0 s1 s2 s3 s4 s5 g h n c1 c2 d gs w) (o : Obj) : TF w0 s1 s2 s3 s4 s5 g h n c1 c2 d gs (w.alloc o) := t.keep (below_box w o)
theorem TF.drewN (t : TF w0 s1 s2 s3 s4 s5 g h n c1 c2 d gs w) (k : Nat) : TF w0 s1 s2 s3 s4 s5 g h n c1 c2 d gs (w.drewN k) := t.keep (below_drewN _ _ _)
theorem own_ne {w : World} {base g n c : Nat} {xs : List Value} (h : w.ownsRow base 3 1 (.slice (some ⟨g, 0, none⟩) n c) n xs) {w' : World} {k : Nat} (hg : w.grownBy w' (some k)) (hk : g ≠ k) : w'.ownsRow base 3 1 (.slice (some ⟨g, 0, none⟩) n c) n xs :=
  h.kept hg (.inr (by simpa [Value.ownBlock] using hk))
theorem Blk.grown {w w' : World} {g k : Nat} {t : TypeId} {cs : List Value} (hb : Blk w g t cs) (hg : w.grownBy w' (some k)) (hk : g ≠ k) : Blk w' g t cs := (hg.block g hb.lt (by intro e; injection e with e; exact hk e)).trans hb
theorem below_grown {w0 w w' : World} {k : Nat} (hb : Below w0.heap.size w0 w) (hg : w.grownBy w' (some k)) (hk : w0.heap.size ≤ k) : Below w0.heap.size w0 w' := hb.grown hg hb.size (fun j e => by injection e with e; omega)
theorem TF.setD (T : TF w0 s1 s2 s3 s4 s5 g h n c1 c2 d gs w) (t : Nat) (v : Int) : TF w0 s1 s2 s3 s4 s5 g h n c1 c2 (d.set t v) gs (w.setCell ⟨g, t, none⟩ (.int .i64 v)) := by
  have hg := T.hg
  obtain ⟨h1, h2⟩ := T.d.stored t (.int .i64 v)
  rw [csG_set] at h1
  exact ⟨T.bF.grown h2 (by omega), T.bR.grown h2 (by omega), T.ne, T.hg, h1, own_ne T.f h2 T.ne.symm, below_grown T.bl h2 (by omega)⟩
theorem TF.setF (T : TF w0 s1 s2 s3 s4 s5 g h n c1 c2 d gs w) (t : Nat) (v : Int) : TF w0 s1 s2 s3 s4 s5 g h n c1 c2 d (gs.set t v) (w.setCell ⟨h, t, none⟩ (.int .i64 v)) := by
  have hg := T.hg
  obtain ⟨h1, h2⟩ := T.f.stored t (.int .i64 v)
  rw [csG_set] at h1
  exact ⟨T.bF.grown h2 (by omega), T.bR.grown h2 (by omega), T.ne, T.hg, own_ne T.d h2 T.ne, h1, below_grown T.bl h2 (by omega)⟩
end
set_option maxRecDepth 10000 in
theorem rCheck_bad (s1 s2 s3 s4 s5 : Int) (A : Option Addr) (n c : Nat) (l : List (Int × Int)) (w : World) (hf : ¬ okF ⟨s1, s2, s3, s4, s5⟩) :
    Calls Tryz.prog 54 #[.slice A n c, .agg #[.int .i64 s1, .int .i64 s2, .int .i64 s3, .int .i64 s4, .int .i64 s5]] w (Checked w (checkM ⟨s1, s2, s3, s4, s5⟩ l)) := by
  have HE := hide (check_frame (l := l) hf)
  have HF := hide (frm_one hf)
  clear hf
  go_enter Tryz.func54, Tryz.ntmps54
  go_wp2_with fail
  have bR := Blk.at (w.alloc (.cells #[.int .i64 s1, .int .i64 s2, .int .i64 s3, .int .i64 s4, .int .i64 s5] 24)) 82 [.int .i64 0, .int .i64 0] (g := w.heap.size + 1) (by simp)
  have hb1 := ((Below.refl _ w).alloc (Nat.le_refl _) (.cells #[.int .i64 s1, .int .i64 s2, .int .i64 s3, .int .i64 s4, .int .i64 s5] 24)).alloc (by simp) (.cells #[.int .i64 0, .int .i64 0] 82)
  generalize (w.alloc (.cells #[.int .i64 s1, .int .i64 s2, .int .i64 s3, .int .i64 s4, .int .i64 s5] 24)).alloc (.cells #[.int .i64 0, .int .i64 0] 82) = w1 at bR hb1 ⊢
  refine (rFrame_any ⟨s1, s2, s3, s4, s5⟩ w1).mono ?_
  rw [HF.out]
  rintro e w2 ⟨rfl, hb2⟩
  have bR2 := bR.keep hb2 bR.lt
  have hb02 := hb1.trans (hb2.mono hb1.size)
  have f0 := bR2.frozen 0
  have f1 := bR2.frozen 1
  have c0 := bR2.cell (j := 0) rfl
  have c1 := bR2.cell (j := 1) rfl
  clear bR hb1 hb2
  go_wp2
  exact ret_repR (g := w.heap.size + 1) rfl rfl rfl rfl ((bR2.set 0 (.int .i64 0)).set 1 (.int .i64 0)) rfl HE.out (below_set (below_set hb02 (by omega) _) (by omega) _)
set_option maxRecDepth 10000 in
theorem rCheck_big (s1 s2 s3 s4 s5 : Int) (A : Option Addr) (n c : Nat) (l : List (Int × Int)) (w : World) (hf : okF ⟨s1, s2, s3, s4, s5⟩) (hn : l.length = n) (h6 : 600 < n) :
    Calls Tryz.prog 54 #[.slice A n c, .agg #[.int .i64 s1, .int .i64 s2, .int .i64 s3, .int .i64 s4, .int .i64 s5]] w (Checked w (checkM ⟨s1, s2, s3, s4, s5⟩ l)) := by
  have HE := hide (check_big (l := l) hf (by omega))
  have HF := hide (frm_zero hf)
  have hd6 : decide ((600 : Int) < (n : Int)) = true := by simp; omega
  clear hf hn
  go_enter Tryz.func54, Tryz.ntmps54
  go_wp2_with fail
  have bR := Blk.at (w.alloc (.cells #[.int .i64 s1, .int .i64 s2, .int .i64 s3, .int .i64 s4, .int .i64 s5] 24)) 82 [.int .i64 0, .int .i64 0] (g := w.heap.size + 1) (by simp)
  have hb1 := ((Below.refl _ w).alloc (Nat.le_refl _) (.cells #[.int .i64 s1, .int .i64 s2, .int .i64 s3, .int .i64 s4, .int .i64 s5] 24)).alloc (by simp) (.cells #[.int .i64 0, .int .i64 0] 82)
  generalize (w.alloc (.cells #[.int .i64 s1, .int .i64 s2, .int .i64 s3, .int .i64 s4, .int .i64 s5] 24)).alloc (.cells #[.int .i64 0, .int .i64 0] 82) = w1 at bR hb1 ⊢
  refine (rFrame_any ⟨s1, s2, s3, s4, s5⟩ w1).mono ?_
  rw [HF.out]
  rintro e w2 ⟨rfl, hb2⟩
  have bR2 := bR.keep hb2 bR.lt
  have hb02 := hb1.trans (hb2.mono hb1.size)
  have f0 := bR2.frozen 0
  have f1 := bR2.frozen 1
  have c0 := bR2.cell (j := 0) rfl
  have c1 := bR2.cell (j := 1) rfl
  clear bR hb1 hb2
  go_wp2
  exact ret_repR (g := w.heap.size + 1) rfl rfl rfl rfl ((bR2.set 0 (.int .i64 0)).set 1 (.int .i64 0)) rfl HE.out (below_set (below_set hb02 (by omega) _) (by omega) _)
/-- Two rows do not lie in one block. -/
def Apt (v u : Value) : Prop := ∀ g, v.ownBlock = some g → u.ownBlock = some g → False
theorem Apt.symm {v u : Value} (h : Apt v u) : Apt u v := fun g a b => h g b a
theorem Apt.or {v u : Value} (h : Apt v u) : v.ownBlock = none ∨ v.ownBlock ≠ u.ownBlock := by
  cases hv : v.ownBlock with
  | none => exact .inl rfl
  | some g => exact .inr fun e => h g hv e.symm
theorem Apt.next {w : World} {base g n n' c : Nat} {e : TypeId} {v u : Value} {xs : List Value} (h : Apt v u) (ho : w.ownsRow base e 1 u n' xs) (hat : v.ownBlock = some g ∨ g = w.heap.size) : Apt (.slice (some ⟨g, 0, none⟩) n c) u := by
  intro k h1 h2
  obtain rfl : g = k := by simpa [Value.ownBlock] using h1
  rcases hat with hat | hat
  · exact h g hat h2
  · have := (ho.lt g h2).2
    omega
theorem one_int (v : Int) : ∀ u ∈ [Value.int .i64 v], u.oneCell' = true := by
  intro u hu; simp at hu; subst hu; rfl
theorem rep_snoc (j : Nat) (v : Int) : csG (List.replicate j v) ++ [.int .i64 v] = csG (List.replicate (j + 1) v) := by
  rw [List.replicate_succ']; simp [csG]
theorem info_int : ∃ i, Tryz.prog.info? 3 = some i ∧ i.zero = some (.int .i64 0) ∧ i.size = 1 ∧ i.bytes = 8 := by
  obtain ⟨i, hi, h1⟩ := Option.map_eq_some_iff.1 infoInt
  simp at h1
  exact ⟨i, hi, h1.1, h1.2.1, h1.2.2⟩
end Go.Proofs.YtdikiabjkmigdaaGreatDoor
