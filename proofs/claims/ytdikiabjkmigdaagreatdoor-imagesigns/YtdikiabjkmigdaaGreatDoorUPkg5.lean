/-
  Contract of package judge: Check.
-/
import Derived.Test.YtdikiabjkmigdaaGreatDoorUPkg4
namespace Go.Proofs.YtdikiabjkmigdaaGreatDoor
open Go.RowKit
set_option maxRecDepth 20000
set_option maxHeartbeats 2000000

theorem inv_hi {f : Fr} {l : List (Int × Int)} {k : Nat} {d g : List Int} (I : Inv f l k d g) (t : Nat) : gd d t ≤ 16 := by
  by_cases h0 : t = 0
  · subst h0; rw [I.d0]; omega
  · by_cases hn : t ≤ l.length
    · rcases I.src t (by omega) hn with ⟨e1, _⟩ | ⟨j, hj, j1, j2, j3, _⟩
      · omega
      · obtain ⟨_, _, _, _, s5, s6⟩ := I.step j hj j2
        rw [(s6 t j3).2.1]; exact s5
    · rw [gd_out (by rw [I.ld]; omega)]; omega
theorem inv_gle {f : Fr} {l : List (Int × Int)} {k : Nat} {d g : List Int} (I : Inv f l k d g) : ∀ t, gd g t ≤ t := by
  intro t
  induction t using Nat.strongRecOn with
  | ind t ih =>
    by_cases h0 : t = 0
    · subst h0; rw [I.g0]; omega
    · by_cases hn : t ≤ l.length
      · rcases I.src t (by omega) hn with ⟨_, e1⟩ | ⟨j, _, j1, _, _, j4⟩
        · omega
        · have := ih j j1; omega
      · rw [gd_out (by rw [I.lg]; omega)]; omega
theorem run_end {f : Fr} {k : Nat} {d g : List Int} : runM f [] k d g = (0, k, d, g) := rfl
theorem get_of {l : List (Int × Int)} {k : Nat} {i : Int × Int} (hu : l[k]? = some i) : ∃ h : k < l.length, l[k] = i := List.getElem?_eq_some_iff.1 hu
theorem run_bad {f : Fr} {l : List (Int × Int)} {k : Nat} {d g : List Int} {y x : Int} (hu : l[k]? = some (y, x)) (h : (stepM f k y x d g).1 ≠ 0) : runM f (l.drop k) k d g = ((stepM f k y x d g).1, k, d, g) := by
  obtain ⟨hk, e⟩ := get_of hu
  rw [drop_cons l k hk, e]; exact if_pos h
theorem run_go {f : Fr} {l : List (Int × Int)} {k : Nat} {d g : List Int} {y x : Int} (hu : l[k]? = some (y, x)) (h : (stepM f k y x d g).1 = 0) : runM f (l.drop k) k d g = runM f (l.drop (k + 1)) (k + 1) (stepM f k y x d g).2.1 (stepM f k y x d g).2.2 := by
  obtain ⟨hk, e⟩ := get_of hu
  rw [drop_cons l k hk, e]; exact if_neg (fun hn => hn h)
theorem inv_go {f : Fr} {l : List (Int × Int)} {k : Nat} {d g : List Int} {y x : Int} (I : Inv f l k d g) (hu : l[k]? = some (y, x)) (h : (stepM f k y x d g).1 = 0) : Inv f l (k + 1) (stepM f k y x d g).2.1 (stepM f k y x d g).2.2 := by
  obtain ⟨hk, e⟩ := get_of hu
  have e1 : l[k].1 = y := by rw [e]
  have e2 : l[k].2 = x := by rw [e]
  have := inv_step I hk (by rw [e1, e2]; exact h)
  rwa [e1, e2] at this
theorem check_frame {f : Fr} {l : List (Int × Int)} (h : ¬ okF f) : checkM f l = (0, 0, 1, 0) := if_pos h
theorem check_big {f : Fr} {l : List (Int × Int)} (h : okF f) (h2 : 600 < l.length) : checkM f l = (0, 0, 3, 0) := by unfold checkM; rw [if_neg (fun hn => hn h), if_pos h2]
theorem check_run {f : Fr} {l : List (Int × Int)} (h : okF f) (h2 : ¬ 600 < l.length) {e : Int} {k : Nat} {d g : List Int} (hr : runM f l 0 (ini l.length) (zer l.length) = (e, k, d, g)) (he : e ≠ 0) : checkM f l = (0, 0, e, (k : Int)) := by
  unfold checkM; rw [if_neg (fun hn => hn h), if_neg h2, hr]; exact if_pos he
theorem check_deep {f : Fr} {l : List (Int × Int)} (h : okF f) (h2 : ¬ 600 < l.length) {k : Nat} {d g : List Int} (hr : runM f l 0 (ini l.length) (zer l.length) = (0, k, d, g)) (he : gd d l.length ≠ 0) : checkM f l = (0, 0, 12, (l.length : Int)) := by
  unfold checkM; rw [if_neg (fun hn => hn h), if_neg h2, hr]; simp only; rw [if_neg (by omega), if_pos he]
theorem check_fine {f : Fr} {l : List (Int × Int)} (h : okF f) (h2 : ¬ 600 < l.length) {k : Nat} {d g : List Int} (hr : runM f l 0 (ini l.length) (zer l.length) = (0, k, d, g)) (he : gd d l.length = 0) : checkM f l = (deepL d, gd g l.length, 0, 0) := by
  unfold checkM; rw [if_neg (fun hn => hn h), if_neg h2, hr]; simp only; rw [if_neg (by omega), if_neg (by omega)]

/-- What Check answers. -/
def Checked (w : World) (r : Int × Int × Int × Int) (e : Ending) (w' : World) : Prop := e = .returned (.tuple #[.agg #[.int .i64 r.1, .int .i64 r.2.1], .int .i64 r.2.2.1, .int .i64 r.2.2.2]) ∧ Below w.heap.size w w'
theorem sizeR : (Tryz.prog.info? 73).map (·.size) = some 2 := by kernel_rfl
theorem ret_rep {fn : Func} {w0 : World} {r : Int × Int × Int × Int} {a : Act} {w : World} {p u v : Tmp} {g : Nat} {D F er at_ : Int} (h : fn.results = #[.cell p 73, .tmp u, .tmp v])
    (hp : a.tmps.getD p undef = .pointer (some ⟨g, 0, none⟩)) (hu : a.tmps.getD u undef = .int .i64 er) (hv : a.tmps.getD v undef = .int .i64 at_) (hb : Blk w g 73 [.int .i64 D, .int .i64 F]) (hd : a.defers = [])
    (hR : r = (D, F, er, at_)) (hbl : Below w0.heap.size w0 w) : bodyPost Tryz.prog fn (Checked w0 r) .ret a w := by
  refine bodyPost_ret_by (v := .tuple #[.agg #[.int .i64 D, .int .i64 F], .int .i64 er, .int .i64 at_]) ?_ hd ⟨by rw [hR], hbl⟩
  have := run_loadVar_row (P := Tryz.prog) w g _ 73 #[.int .i64 D, .int .i64 F] (0, 0) _ hb Tryz.underlying73 rfl (by exact sizeR)
  rw [results_cell_two h]
  simp only [hp, hu, hv, asAddr]
  simp [this, Result.andThen]
theorem Check_bad (s1 s2 s3 s4 s5 : Int) (A : Option Addr) (n c : Nat) (l : List (Int × Int)) (w : World) (hf : ¬ okF ⟨s1, s2, s3, s4, s5⟩) :
    Calls Tryz.prog 49 #[.slice A n c, .agg #[.int .i64 s1, .int .i64 s2, .int .i64 s3, .int .i64 s4, .int .i64 s5]] w (Checked w (checkM ⟨s1, s2, s3, s4, s5⟩ l)) := by
  have HE := hide (check_frame (l := l) hf)
  have HF := hide (frm_one hf)
  clear hf
  go_enter Tryz.func49, Tryz.ntmps49
  go_wp2_with fail
  have bR := Blk.at (w.alloc (.cells #[.int .i64 s1, .int .i64 s2, .int .i64 s3, .int .i64 s4, .int .i64 s5] 24)) 73 [.int .i64 0, .int .i64 0] (g := w.heap.size + 1) (by simp)
  have hb1 := ((Below.refl _ w).alloc (Nat.le_refl _) (.cells #[.int .i64 s1, .int .i64 s2, .int .i64 s3, .int .i64 s4, .int .i64 s5] 24)).alloc (by simp) (.cells #[.int .i64 0, .int .i64 0] 73)
  generalize (w.alloc (.cells #[.int .i64 s1, .int .i64 s2, .int .i64 s3, .int .i64 s4, .int .i64 s5] 24)).alloc (.cells #[.int .i64 0, .int .i64 0] 73) = w1 at bR hb1 ⊢
  refine (Frame_any ⟨s1, s2, s3, s4, s5⟩ w1).mono ?_
  rw [HF.out]
  rintro e w2 ⟨rfl, hb2⟩
  have bR2 := bR.keep hb2 bR.lt
  have hb02 := hb1.trans (hb2.mono hb1.size)
  have f0 := bR2.frozen 0
  have f1 := bR2.frozen 1
  have c0 := bR2.cell (j := 0) rfl
  have c1 := bR2.cell (j := 1) rfl
  clear bR hb1 hb2
  go_wp2
  exact ret_rep (g := w.heap.size + 1) rfl rfl rfl rfl ((bR2.set 0 (.int .i64 0)).set 1 (.int .i64 0)) rfl HE.out (below_set (below_set hb02 (by omega) _) (by omega) _)
theorem Check_big (s1 s2 s3 s4 s5 : Int) (A : Option Addr) (n c : Nat) (l : List (Int × Int)) (w : World) (hf : okF ⟨s1, s2, s3, s4, s5⟩) (hn : l.length = n) (h6 : 600 < n) :
    Calls Tryz.prog 49 #[.slice A n c, .agg #[.int .i64 s1, .int .i64 s2, .int .i64 s3, .int .i64 s4, .int .i64 s5]] w (Checked w (checkM ⟨s1, s2, s3, s4, s5⟩ l)) := by
  have HE := hide (check_big (l := l) hf (by omega))
  have HF := hide (frm_zero hf)
  have hd6 : decide ((600 : Int) < (n : Int)) = true := by simp; omega
  clear hf hn
  go_enter Tryz.func49, Tryz.ntmps49
  go_wp2_with fail
  have bR := Blk.at (w.alloc (.cells #[.int .i64 s1, .int .i64 s2, .int .i64 s3, .int .i64 s4, .int .i64 s5] 24)) 73 [.int .i64 0, .int .i64 0] (g := w.heap.size + 1) (by simp)
  have hb1 := ((Below.refl _ w).alloc (Nat.le_refl _) (.cells #[.int .i64 s1, .int .i64 s2, .int .i64 s3, .int .i64 s4, .int .i64 s5] 24)).alloc (by simp) (.cells #[.int .i64 0, .int .i64 0] 73)
  generalize (w.alloc (.cells #[.int .i64 s1, .int .i64 s2, .int .i64 s3, .int .i64 s4, .int .i64 s5] 24)).alloc (.cells #[.int .i64 0, .int .i64 0] 73) = w1 at bR hb1 ⊢
  refine (Frame_any ⟨s1, s2, s3, s4, s5⟩ w1).mono ?_
  rw [HF.out]
  rintro e w2 ⟨rfl, hb2⟩
  have bR2 := bR.keep hb2 bR.lt
  have hb02 := hb1.trans (hb2.mono hb1.size)
  have f0 := bR2.frozen 0
  have f1 := bR2.frozen 1
  have c0 := bR2.cell (j := 0) rfl
  have c1 := bR2.cell (j := 1) rfl
  clear bR hb1 hb2
  go_wp2
  exact ret_rep (g := w.heap.size + 1) rfl rfl rfl rfl ((bR2.set 0 (.int .i64 0)).set 1 (.int .i64 0)) rfl HE.out (below_set (below_set hb02 (by omega) _) (by omega) _)
structure TC (w0 : World) (s1 s2 s3 s4 s5 : Int) (g h n q9 qR : Nat) (d gs : List Int) (w : World) : Prop where
  b9 : Blk w q9 104 [.int .i64 s1, .int .i64 s2, .int .i64 s3, .int .i64 s4, .int .i64 s5, .slice (some ⟨g, 0, none⟩) (n + 1) (n + 1), .slice (some ⟨h, 0, none⟩) (n + 1) (n + 1)]
  bR : Blk w qR 73 [.int .i64 0, .int .i64 0]
  st : St w g h d gs
  bl : Below w0.heap.size w0 w
section
variable {w0 w w' : World} {s1 s2 s3 s4 s5 : Int} {g h n q9 qR : Nat} {d gs : List Int}
theorem TC.alloc (t : TC w0 s1 s2 s3 s4 s5 g h n q9 qR d gs w) (o : Obj) : TC w0 s1 s2 s3 s4 s5 g h n q9 qR d gs (w.alloc o) :=
  ⟨t.b9.alloc o, t.bR.alloc o, ⟨t.st.ne, t.st.s.alloc o, t.st.l.alloc o⟩, t.bl.alloc t.bl.size o⟩
theorem TC.took (t : TC w0 s1 s2 s3 s4 s5 g h n q9 qR d gs w) {d' gs' : List Int} (k : Keeps [g, h] w w') (st : St w' g h d' gs') (h1 : q9 ≠ g ∧ q9 ≠ h ∧ qR ≠ g ∧ qR ≠ h) (hg : w0.heap.size ≤ g ∧ w0.heap.size ≤ h) : TC w0 s1 s2 s3 s4 s5 g h n q9 qR d' gs' w' :=
  ⟨k.blk t.b9 (by simp; omega), k.blk t.bR (by simp; omega), st, Keeps.below t.bl k (by simp; omega) (Nat.le_refl _)⟩
end
theorem cell_ne2 (w : World) (g r i : Nat) (x y : Value) (h : g ≠ r) : ((w.setCell ⟨r, 0, none⟩ x).setCell ⟨r, 1, none⟩ y).cell? ⟨g, i, none⟩ = w.cell? ⟨g, i, none⟩ := by
  rw [World.cell?_setCell_other, World.cell?_setCell_other] <;> (intro e; injection e with e; exact h e.symm)
theorem Check_main (s1 s2 s3 s4 s5 : Int) (B : Nat) (A : Option Addr) (n c : Nat) (l : List (Int × Int)) (w : World) (hr : RowI w B A n c l) (hB : B ≤ w.heap.size) (hf : okF ⟨s1, s2, s3, s4, s5⟩) (h6 : n ≤ 600) :
    Calls Tryz.prog 49 #[.slice A n c, .agg #[.int .i64 s1, .int .i64 s2, .int .i64 s3, .int .i64 s4, .int .i64 s5]] w (Checked w (checkM ⟨s1, s2, s3, s4, s5⟩ l)) := by
  have HF := hide (frm_zero hf)
  have hd6 : decide ((600 : Int) < (n : Int)) = false := by simp; omega
  have HL := hide hr.len
  go_enter Tryz.func49, Tryz.ntmps49
  go_wp2_with fail
  have bR := Blk.at (w.alloc (.cells #[.int .i64 s1, .int .i64 s2, .int .i64 s3, .int .i64 s4, .int .i64 s5] 24)) 73 [.int .i64 0, .int .i64 0] (g := w.heap.size + 1) (by simp)
  have hb1 := ((Below.refl _ w).alloc (Nat.le_refl _) (.cells #[.int .i64 s1, .int .i64 s2, .int .i64 s3, .int .i64 s4, .int .i64 s5] 24)).alloc (by simp) (.cells #[.int .i64 0, .int .i64 0] 73)
  have bF := (Blk.new w 24 [.int .i64 s1, .int .i64 s2, .int .i64 s3, .int .i64 s4, .int .i64 s5]).alloc (.cells #[.int .i64 0, .int .i64 0] 73)
  generalize (w.alloc (.cells #[.int .i64 s1, .int .i64 s2, .int .i64 s3, .int .i64 s4, .int .i64 s5] 24)).alloc (.cells #[.int .i64 0, .int .i64 0] 73) = w1 at bR hb1 bF ⊢
  refine (Frame_any ⟨s1, s2, s3, s4, s5⟩ w1).mono ?_
  rw [HF.out]
  rintro e w2 ⟨rfl, hb2⟩
  have bR2 := bR.keep hb2 bR.lt
  have hb02 := hb1.trans (hb2.mono hb1.size)
  have f0 := bR2.frozen 0
  have f1 := bR2.frozen 1
  have c0 := bR2.cell (j := 0) rfl
  have c1 := bR2.cell (j := 1) rfl
  have bF2 := bF.keep hb2 bF.lt
  have cf0 := bF2.cell (j := 0) rfl
  have cf1 := bF2.cell (j := 1) rfl
  have cf2 := bF2.cell (j := 2) rfl
  have cf3 := bF2.cell (j := 3) rfl
  have cf4 := bF2.cell (j := 4) rfl
  clear bR hb1 hb2 bF bF2
  go_wp2_with fail
  refine (begin_any s1 s2 s3 s4 s5 n w2 h6).mono ?_
  rintro e w3 ⟨g, h, rfl, hg, hh, st, hb3⟩
  have hs2 := hb02.size
  have hs3 := hb3.size
  have TC3 : TC w s1 s2 s3 s4 s5 g h n w3.heap.size (w.heap.size + 1) (ini n) (zer n) (w3.alloc (.cells #[.int .i64 s1, .int .i64 s2, .int .i64 s3, .int .i64 s4, .int .i64 s5, .slice (some ⟨g, 0, none⟩) (n + 1) (n + 1), .slice (some ⟨h, 0, none⟩) (n + 1) (n + 1)] 104)) :=
    ⟨Blk.new w3 _ _, (bR2.keep hb3 bR2.lt).alloc _, ⟨st.ne, st.s.alloc _, st.l.alloc _⟩, (hb02.trans (hb3.mono hs2)).alloc (by omega) _⟩
  have hgl := st.s.lt
  have hhl := st.l.lt
  have hRl := bR2.lt
  clear st bR2 f0 f1 c0 c1 hb02 hb3 cf0 cf1 cf2 cf3 cf4
  go_wp2
  generalize w3.alloc (.cells #[.int .i64 s1, .int .i64 s2, .int .i64 s3, .int .i64 s4, .int .i64 s5, .slice (some ⟨g, 0, none⟩) (n + 1) (n + 1), .slice (some ⟨h, 0, none⟩) (n + 1) (n + 1)] 104) = w4 at TC3 ⊢
  go_loopw [29] (fun i wr => ∃ (j : Nat) (d gs : List Int), j ≤ n ∧ i = .int .i64 (j : Int) ∧ TC w s1 s2 s3 s4 s5 g h n w3.heap.size (w.heap.size + 1) d gs wr ∧ Hid (runM ⟨s1, s2, s3, s4, s5⟩ l 0 (ini n) (zer n) = runM ⟨s1, s2, s3, s4, s5⟩ (l.drop j) j d gs ∧ Inv ⟨s1, s2, s3, s4, s5⟩ l j d gs)) (fun i _ => n - (intOf i).toNat)
  case atStart => exact ⟨0, _, _, Nat.zero_le _, rfl, TC3, hide ⟨rfl, by have := inv_ini ⟨s1, s2, s3, s4, s5⟩ l; rwa [HL.out] at this⟩⟩
  case round =>
    clear TC3
    obtain ⟨j, d, gs, hj, rfl, T, HQ⟩ := hrel
    by_cases hlt : j < n
    · have hjl : j < l.length := by have := HL.out; omega
      obtain ⟨b, o, y, x, rfl, hbB, hu, hc0, hc1, hx⟩ := (hr.keep T.bl hB).get hlt
      have HU := hide hu
      clear hu hjl
      have c90 := T.b9.cell (j := 0) rfl
      have c91 := T.b9.cell (j := 1) rfl
      have c92 := T.b9.cell (j := 2) rfl
      have c93 := T.b9.cell (j := 3) rfl
      have c94 := T.b9.cell (j := 4) rfl
      have c95 := T.b9.cell (j := 5) rfl
      have c96 := T.b9.cell (j := 6) rfl
      have l9 := T.b9.lt
      go_wp2_with fail
      have T2 := T.alloc (.cells #[.int .i64 y, .int .i32 x] 56)
      generalize wr.alloc (.cells #[.int .i64 y, .int .i32 x] 56) = w5 at T2 ⊢
      clear c90 c91 c92 c93 c94 c95 c96 l9 T hc0 hc1
      refine (take_any s1 s2 s3 s4 s5 j n g h y x d gs w5 T2.st hf hx (by have h1 := HQ.out.2.ld; have h2 := HL.out; omega) (by have h1 := HQ.out.2.lg; have h2 := HL.out; omega) hlt h6 (inv_hi HQ.out.2 j) ⟨HQ.out.2.go j, by have := inv_gle HQ.out.2 j; omega⟩).mono ?_
      rintro e w6 ⟨rfl, hst, hkp⟩
      obtain ⟨z, hz⟩ : ∃ z, (stepM ⟨s1, s2, s3, s4, s5⟩ j y x d gs).1 = z := ⟨_, rfl⟩
      rw [hz] at hst ⊢
      by_cases h0 : z = 0
      · subst h0
        have T3 := T2.took hkp (hst rfl) (by omega) (by omega)
        have HN := hide (And.intro (run_go HU.out hz) (inv_go HQ.out.2 HU.out hz))
        clear hst hkp T2 hz
        go_wp2
        go_roundw
        case rel => exact ⟨j + 1, _, _, by omega, by go_num, T3, hide ⟨HQ.out.1.trans HN.out.1, HN.out.2⟩⟩
        case measure => simp [intOf]; omega
      · have HE := hide (check_run (l := l) hf (by have := HL.out; omega) (e := z) (k := j) (d := d) (g := gs) (by rw [HL.out, HQ.out.1, run_bad HU.out (by rw [hz]; exact h0), hz]) h0)
        have bR := hkp.blk T2.bR (by simp; omega)
        have hbl := Keeps.below T2.bl hkp (by simp; omega) (Nat.le_refl _)
        have f0 := bR.frozen 0
        have f1 := bR.frozen 1
        have c0 := bR.cell (j := 0) rfl
        have c1 := bR.cell (j := 1) rfl
        have h0' : (z != 0) = true := by simpa using h0
        clear hst hkp T2 hz h0
        go_wp2
        exact ret_rep (g := w.heap.size + 1) rfl rfl rfl rfl ((bR.set 0 (.int .i64 0)).set 1 (.int .i64 0)) rfl HE.out (below_set (below_set hbl (by omega) _) (by omega) _)
    · obtain rfl : n = j := by omega
      have hend := inv_end (l := l) (by have := HQ.out.2; rwa [← HL.out] at this)
      rw [HL.out] at hend
      obtain ⟨dn, hdn⟩ : ∃ dn, gd d n = dn := ⟨_, rfl⟩
      obtain ⟨gn, hgn⟩ : ∃ gn, gd gs n = gn := ⟨_, rfl⟩
      obtain ⟨cs0, cs1⟩ := csS_at (d := d) (t := n) (by have h1 := HQ.out.2.ld; have h2 := HL.out; omega)
      replace cs0 := T.st.s.cell cs0
      replace cs1 := T.st.s.cell cs1
      rw [hdn] at cs0 cs1 hend
      rw [dv_pos hend] at cs1
      rw [show decide (0 ≤ dn) = true by simpa using hend] at cs0
      have c95 := T.b9.cell (j := 5) rfl
      have HRN := hide (show runM ⟨s1, s2, s3, s4, s5⟩ l 0 (ini n) (zer n) = (0, n, d, gs) by rw [HQ.out.1]; have := HL.out; rw [show l.drop n = [] by rw [← this, List.drop_length]]; rfl)
      by_cases h0 : dn = 0
      · subst h0
        have HE := hide (check_fine (l := l) hf (by have := HL.out; omega) (by rw [HL.out]; exact HRN.out) (by rw [HL.out]; exact hdn))
        rw [HL.out, hgn] at HE
        have cg := T.st.l.cell (csG_at (t := n) (by have h1 := HQ.out.2.lg; have h2 := HL.out; omega))
        rw [hgn] at cg
        clear hgn hdn
        have bs := T.st.s.drew
        have c90 := T.b9.cell (j := 0) rfl
        have c91 := T.b9.cell (j := 1) rfl
        have c92 := T.b9.cell (j := 2) rfl
        have c93 := T.b9.cell (j := 3) rfl
        have c94 := T.b9.cell (j := 4) rfl
        have c96 := T.b9.cell (j := 6) rfl
        have l9 := T.b9.lt
        have l8 := T.st.l.lt
        have TT := hide T
        have hdl := hide (show d.length = n + 1 by have h1 := HQ.out.2.ld; have h2 := HL.out; omega)
        clear T
        go_wp2_with fail
        clear cs0 cs1
        have hnn : (0 : Int) ≤ (n : Int) := by omega
        have hn1 : (n : Int) < (n : Int) + 1 := by omega
        have bR := TT.out.bR.drew
        go_region_held3 (fun W : World => W.cell? ⟨w3.heap.size, 0, none⟩ = some (.int .i64 s1) ∧ W.cell? ⟨w3.heap.size, 1, none⟩ = some (.int .i64 s2) ∧ W.cell? ⟨w3.heap.size, 2, none⟩ = some (.int .i64 s3) ∧ W.cell? ⟨w3.heap.size, 3, none⟩ = some (.int .i64 s4) ∧ W.cell? ⟨w3.heap.size, 4, none⟩ = some (.int .i64 s5) ∧ W.cell? ⟨w3.heap.size, 5, none⟩ = some (.slice (some ⟨g, 0, none⟩) (n + 1) (n + 1)) ∧ W.cell? ⟨w3.heap.size, 6, none⟩ = some (.slice (some ⟨h, 0, none⟩) (n + 1) (n + 1)) ∧ W.cell? ⟨h, n, none⟩ = some (.int .i64 gn)) (first | exact ⟨c90, c91, c92, c93, c94, c95, c96, cg⟩ | exact ⟨d90, d91, d92, d93, d94, d95, d96, dg⟩ | exact ⟨(cell_ne2 _ _ _ _ _ _ (by omega)).trans d90, (cell_ne2 _ _ _ _ _ _ (by omega)).trans d91, (cell_ne2 _ _ _ _ _ _ (by omega)).trans d92, (cell_ne2 _ _ _ _ _ _ (by omega)).trans d93, (cell_ne2 _ _ _ _ _ _ (by omega)).trans d94, (cell_ne2 _ _ _ _ _ _ (by omega)).trans d95, (cell_ne2 _ _ _ _ _ _ (by omega)).trans d96, (cell_ne2 _ _ _ _ _ _ (by omega)).trans dg⟩)
          ((go_at_call 81; refine (deepest_any s1 s2 s3 s4 s5 g (n + 1) _ d _ bs hdl.out (by omega) ⟨h, rfl⟩).mono ?_; rintro e w8 ⟨rfl, hb8⟩; have d90 := (hb8.cell (p := ⟨w3.heap.size, 0, none⟩) l9).trans c90; have d91 := (hb8.cell (p := ⟨w3.heap.size, 1, none⟩) l9).trans c91; have d92 := (hb8.cell (p := ⟨w3.heap.size, 2, none⟩) l9).trans c92; have d93 := (hb8.cell (p := ⟨w3.heap.size, 3, none⟩) l9).trans c93; have d94 := (hb8.cell (p := ⟨w3.heap.size, 4, none⟩) l9).trans c94; have d95 := (hb8.cell (p := ⟨w3.heap.size, 5, none⟩) l9).trans c95; have d96 := (hb8.cell (p := ⟨w3.heap.size, 6, none⟩) l9).trans c96; have dg := (hb8.cell (p := ⟨h, n, none⟩) l8).trans cg; have bR8 := bR.keep hb8 bR.lt; have f0 := bR8.frozen 0; have f1 := bR8.frozen 1; have r0 := bR8.cell (j := 0) rfl; have r1 := bR8.cell (j := 1) rfl))
        go_wp2
        have bR8 := (bR.keep hb8 bR.lt).set 0 (.int .i64 (deepL d))
        exact ret_rep (g := w.heap.size + 1) rfl rfl rfl rfl (bR8.set 1 (.int .i64 gn)) rfl HE.out (below_set (below_set (TT.out.bl.drew.trans (hb8.mono TT.out.bl.size)) (by omega) _) (by omega) _)
      · have HE := hide (check_deep (l := l) hf (by have := HL.out; omega) (by rw [HL.out]; exact HRN.out) (by rw [HL.out, hdn]; exact h0))
        rw [HL.out] at HE
        have h0' : (dn != 0) = true := by simpa using h0
        have bR := T.bR
        have hbl := T.bl
        have f0 := bR.frozen 0
        have f1 := bR.frozen 1
        have c0 := bR.cell (j := 0) rfl
        have c1 := bR.cell (j := 1) rfl
        clear hdn hgn h0
        go_wp2
        exact ret_rep (g := w.heap.size + 1) rfl rfl rfl rfl ((bR.set 0 (.int .i64 0)).set 1 (.int .i64 0)) rfl HE.out (below_set (below_set hbl (by omega) _) (by omega) _)
theorem Check_any (f : Fr) (B : Nat) (A : Option Addr) (n c : Nat) (l : List (Int × Int)) (w : World) (hr : RowI w B A n c l) (hB : B ≤ w.heap.size) :
    Calls Tryz.prog 49 #[.slice A n c, .agg #[.int .i64 f.s, .int .i64 f.o, .int .i64 f.n, .int .i64 f.i, .int .i64 f.u]] w (Checked w (checkM f l)) := by
  by_cases hf : okF f
  · by_cases h6 : 600 < n
    · exact Check_big f.s f.o f.n f.i f.u A n c l w hf hr.len h6
    · exact Check_main f.s f.o f.n f.i f.u B A n c l w hr hB hf (by omega)
  · exact Check_bad f.s f.o f.n f.i f.u A n c l w hf
end Go.Proofs.YtdikiabjkmigdaaGreatDoor
