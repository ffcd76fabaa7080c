/-
  Contracts of package image: bytesOf, valuesOf.
-/
import Derived.Test.YtdikiabjkmigdaaGreatDoorYg1
import Derived.Test.YtdikiabjkmigdaaGreatDoorUMem
import Derived.Test.YtdikiabjkmigdaaGreatDoorUPkg5
import Derived.Deep.Cut
import Derived.Deep.DeepCutAuto
import Derived.Test.YtdikiabjkmigdaaGreatDoorIPkg4
namespace Go.Proofs.YtdikiabjkmigdaaGreatDoor
set_option maxRecDepth 20000
open Go.RowKit
set_option maxHeartbeats 400000

/-- The cells of 32-bit numbers. -/
def c32 (l : List Int) : List Value := l.map (Value.int .i32)
theorem c32_len (l : List Int) : (c32 l).length = l.length := by simp [c32]
theorem c32_app (l m : List Int) : c32 (l ++ m) = c32 l ++ c32 m := by simp [c32]
theorem c32_one (l : List Int) : ∀ u ∈ c32 l, u.oneCell' = true := by
  intro u hu; obtain ⟨_, _, rfl⟩ := List.mem_map.1 hu; rfl
theorem c32_at {l : List Int} {j : Nat} (h : j < l.length) : (c32 l)[j]? = some (.int .i32 (gd l j)) := by simp [c32, gd_lt h, h]
theorem infoN : (Tryz.prog.info? 21).map (fun i => (i.zero, i.size, i.bytes)) = some (some (.int .i32 0), 1, 4) := by kernel_rfl
theorem sizeN : (Tryz.prog.info? 21).map (·.size) = some 1 := by kernel_rfl
/-- An image and where its lists lie. -/
structure IV where
  v : Int
  f : Int
  e : Int
  s : Int
  o : Int
  n : Int
  i : Int
  u : Int
  x : Int
  y : Int
  fs : List Int
  st : List (Int × Int)
  mv : List (Int × Int)
  fA : Option Addr
  fn : Nat
  fc : Nat
  sA : Option Addr
  sn : Nat
  sc : Nat
  mA : Option Addr
  mn : Nat
  mc : Nat
def IV.m (K : IV) : Im := ⟨K.v, K.f, K.e, ⟨K.s, K.o, K.n, K.i, K.u⟩, K.fs, K.st, K.mv, K.x, K.y⟩
/-- Its lists lie below B, and its numbers are of their types. -/
structure Held (w : World) (B : Nat) (K : IV) : Prop where
  fs : Row w B K.fA K.fn K.fc (c32 K.fs)
  st : RowI w B K.sA K.sn K.sc K.st
  mv : RowI w B K.mA K.mn K.mc K.mv
  wf : Wf K.m
theorem Held.keep {w w' : World} {B B' : Nat} {K : IV} (h : Held w B K) (hb : Below B' w w') (hB : B ≤ B') : Held w' B K := ⟨h.fs.keep hb hB, h.st.keep hb hB, h.mv.keep hb hB, h.wf⟩
theorem Held.more {w : World} {B B' : Nat} {K : IV} (h : Held w B K) (hB : B ≤ B') : Held w B' K := ⟨h.fs.more hB, h.st.more hB, h.mv.more hB, h.wf⟩
theorem row_len {w : World} {B n c : Nat} {A : Option Addr} {l : List Int} (h : Row w B A n c (c32 l)) : l.length = n := by have := h.len; rwa [c32_len] at this
theorem RowI.count {w : World} {B n c : Nat} {A : Option Addr} {l : List (Int × Int)} (h : RowI w B A n c l) : l.length = n := h.len
/-- A truth, and what was there is as it was. -/
def TellsB (w : World) (b : Bool) (e : Ending) (w' : World) : Prop := e = .returned (.bool b) ∧ Below w.heap.size w w'
theorem ret_bool2 {a b : Bool} (h : a = b) : Ending.returned (.bool a) = .returned (.bool b) := by rw [h]
theorem sizeM : (Tryz.prog.info? 28).map (·.size) = some 13 := by kernel_rfl
theorem sizeF : (Tryz.prog.info? 24).map (·.size) = some 5 := by kernel_rfl
theorem results_cell1 {fn : Func} {p : Tmp} {ty : TypeId} (h : fn.results = #[.cell p ty]) (tmps : Array Value) (P : Program) (w : World) :
    (results fn tmps).run P w = ((asAddr (tmps.getD p undef)).run P w).andThen fun a w₁ => (loadVar ty a).run P w₁ := by
  simp only [results, h]
  simp [Sem.run_bind, Result.andThen]
/-- A frame as a result. -/
theorem ret_frame {fn : Func} {R : Ending → World → Prop} {a : Act} {w : World} {p : Tmp} {g : Nat} {s1 s2 s3 s4 s5 : Int} (h : fn.results = #[.cell p 24])
    (hp : a.tmps.getD p undef = .pointer (some ⟨g, 0, none⟩)) (hb : Blk w g 24 [.int .i64 s1, .int .i64 s2, .int .i64 s3, .int .i64 s4, .int .i64 s5]) (hd : a.defers = [])
    (hR : R (.returned (.agg #[.int .i64 s1, .int .i64 s2, .int .i64 s3, .int .i64 s4, .int .i64 s5])) w) : bodyPost Tryz.prog fn R .ret a w := by
  refine bodyPost_ret_by (v := .agg #[.int .i64 s1, .int .i64 s2, .int .i64 s3, .int .i64 s4, .int .i64 s5]) ?_ hd hR
  have := run_loadVar_row (P := Tryz.prog) w g _ 24 #[.int .i64 s1, .int .i64 s2, .int .i64 s3, .int .i64 s4, .int .i64 s5] (0, 0) _ hb Tryz.underlying24 rfl (by exact sizeF)
  rw [results_cell1 h]
  simp only [hp, asAddr]
  simp [this, Result.andThen]
/-- An image as a result of its own. -/
theorem ret_im1 {fn : Func} {R : Ending → World → Prop} {a : Act} {w : World} {p : Tmp} {g : Nat} {c0 c1 c2 c3 c4 c5 c6 c7 c8 c9 c10 c11 c12 : Value} (h : fn.results = #[.cell p 28])
    (hp : a.tmps.getD p undef = .pointer (some ⟨g, 0, none⟩)) (hb : Blk w g 28 [c0, c1, c2, c3, c4, c5, c6, c7, c8, c9, c10, c11, c12]) (hd : a.defers = [])
    (hR : R (.returned (.agg #[c0, c1, c2, c3, c4, c5, c6, c7, c8, c9, c10, c11, c12])) w) : bodyPost Tryz.prog fn R .ret a w := by
  refine bodyPost_ret_by (v := .agg #[c0, c1, c2, c3, c4, c5, c6, c7, c8, c9, c10, c11, c12]) ?_ hd hR
  have := run_loadVar_row (P := Tryz.prog) w g _ 28 #[c0, c1, c2, c3, c4, c5, c6, c7, c8, c9, c10, c11, c12] (0, 0) _ hb Tryz.underlying28 rfl (by exact sizeM)
  rw [results_cell1 h]
  simp only [hp, asAddr]
  simp [this, Result.andThen]
/-- An image and a fault as results. -/
theorem ret_im {fn : Func} {R : Ending → World → Prop} {a : Act} {w : World} {p u : Tmp} {g : Nat} {er : Int} {c0 c1 c2 c3 c4 c5 c6 c7 c8 c9 c10 c11 c12 : Value} (h : fn.results = #[.cell p 28, .tmp u])
    (hp : a.tmps.getD p undef = .pointer (some ⟨g, 0, none⟩)) (hu : a.tmps.getD u undef = .int .i64 er) (hb : Blk w g 28 [c0, c1, c2, c3, c4, c5, c6, c7, c8, c9, c10, c11, c12]) (hd : a.defers = [])
    (hR : R (.returned (.tuple #[.agg #[c0, c1, c2, c3, c4, c5, c6, c7, c8, c9, c10, c11, c12], .int .i64 er])) w) : bodyPost Tryz.prog fn R .ret a w := by
  refine bodyPost_ret_by (v := .tuple #[.agg #[c0, c1, c2, c3, c4, c5, c6, c7, c8, c9, c10, c11, c12], .int .i64 er]) ?_ hd hR
  have := run_loadVar_row (P := Tryz.prog) w g _ 28 #[c0, c1, c2, c3, c4, c5, c6, c7, c8, c9, c10, c11, c12] (0, 0) _ hb Tryz.underlying28 rfl (by exact sizeM)
  rw [results_cell_tmp h]
  simp only [hp, hu, asAddr]
  simp [this, Result.andThen]

end Go.Proofs.YtdikiabjkmigdaaGreatDoor
namespace Go.Proofs.YtdikiabjkmigdaaGreatDoor
open Go.RowKit
set_option maxRecDepth 20000
set_option maxHeartbeats 2000000

def agrB (m : Im) : Bool := decide (agr m)
theorem agr_ways (v f e o n : Int) (k q : Nat) (b : Bool) (h : decide (f < v ∧ 0 ≤ e ∧ e ≤ 16 ∧ o = n ∧ (k : Int) = n ∧ (f ≠ 0 ∨ (e = 0 ∧ q = 0))) = b) :
    (¬ f < v ∧ b = false) ∨ (f < v ∧ ¬ 0 ≤ e ∧ b = false) ∨ (f < v ∧ 0 ≤ e ∧ ¬ e ≤ 16 ∧ b = false) ∨ (f < v ∧ 0 ≤ e ∧ e ≤ 16 ∧ (o == n) = false ∧ b = false) ∨
    (f < v ∧ 0 ≤ e ∧ e ≤ 16 ∧ o = n ∧ ((k : Int) == n) = false ∧ b = false) ∨ (f < v ∧ 0 ≤ e ∧ e ≤ 16 ∧ o = n ∧ n = (k : Int) ∧ (f == 0) = false ∧ b = true) ∨
    (f < v ∧ 0 ≤ e ∧ e ≤ 16 ∧ o = n ∧ n = (k : Int) ∧ f = 0 ∧ (e == 0) = false ∧ b = false) ∨
    (f < v ∧ 0 ≤ e ∧ e ≤ 16 ∧ o = n ∧ n = (k : Int) ∧ f = 0 ∧ e = 0 ∧ 0 < q ∧ b = false) ∨
    (f < v ∧ 0 ≤ e ∧ e ≤ 16 ∧ o = n ∧ n = (k : Int) ∧ f = 0 ∧ e = 0 ∧ q = 0 ∧ b = true) := by
  by_cases h1 : f < v
  · by_cases h2 : 0 ≤ e
    · by_cases h3 : e ≤ 16
      · by_cases h4 : o = n
        · by_cases h5 : n = (k : Int)
          · by_cases h6 : f = 0
            · by_cases h7 : e = 0
              · by_cases h8 : q = 0
                · exact .inr (.inr (.inr (.inr (.inr (.inr (.inr (.inr ⟨h1, h2, h3, h4, h5, h6, h7, h8, by rw [← h]; exact decide_eq_true ⟨h1, h2, h3, h4, h5.symm, .inr ⟨h7, h8⟩⟩⟩)))))))
                · exact .inr (.inr (.inr (.inr (.inr (.inr (.inr (.inl ⟨h1, h2, h3, h4, h5, h6, h7, by omega, by rw [← h]; exact decide_eq_false fun hn => hn.2.2.2.2.2.elim (fun z => z h6) fun z => h8 z.2⟩)))))))
              · exact .inr (.inr (.inr (.inr (.inr (.inr (.inl ⟨h1, h2, h3, h4, h5, h6, beq_eq_false_iff_ne.2 h7, by rw [← h]; exact decide_eq_false fun hn => hn.2.2.2.2.2.elim (fun z => z h6) fun z => h7 z.1⟩))))))
            · exact .inr (.inr (.inr (.inr (.inr (.inl ⟨h1, h2, h3, h4, h5, beq_eq_false_iff_ne.2 h6, by rw [← h]; exact decide_eq_true ⟨h1, h2, h3, h4, h5.symm, .inl h6⟩⟩)))))
          · exact .inr (.inr (.inr (.inr (.inl ⟨h1, h2, h3, h4, beq_eq_false_iff_ne.2 fun z => h5 z.symm, by rw [← h]; exact decide_eq_false fun hn => h5 hn.2.2.2.2.1.symm⟩))))
        · exact .inr (.inr (.inr (.inl ⟨h1, h2, h3, beq_eq_false_iff_ne.2 h4, by rw [← h]; exact decide_eq_false fun hn => h4 hn.2.2.2.1⟩)))
      · exact .inr (.inr (.inl ⟨h1, h2, h3, by rw [← h]; exact decide_eq_false fun hn => h3 hn.2.2.1⟩))
    · exact .inr (.inl ⟨h1, h2, by rw [← h]; exact decide_eq_false fun hn => h2 hn.2.1⟩)
  · exact .inl ⟨h1, by rw [← h]; exact decide_eq_false fun hn => h1 hn.1⟩
theorem bne_of {a b : Int} {c : Bool} (h : (a == b) = c) : (a != b) = !c := by rw [← h]; rfl
theorem agrees_b (K : IV) (b : Bool) (w : World) (hK : Held w w.heap.size K) (H : Hid (agrB K.m = b)) :
    Calls Tryz.prog 24 #[.agg #[.int .u32 K.v, .int .u32 K.f, .int .i64 K.e, .int .i64 K.s, .int .i64 K.o, .int .i64 K.n, .int .i64 K.i, .int .i64 K.u, .slice K.fA K.fn K.fc, .slice K.sA K.sn K.sc, .slice K.mA K.mn K.mc, .int .i64 K.x, .int .i64 K.y]] w (TellsB w b) := by
  have hl := row_len hK.fs
  have hm := hK.mv.count
  obtain ⟨v, f, e, s, o, n, i, u, x, y, fs, st, mv, fA, fn, fc, sA, sn, sc, mA, mn, mc⟩ := K
  simp only at hl hm ⊢
  have cs : decide (f < v ∧ 0 ≤ e ∧ e ≤ 16 ∧ o = n ∧ (fn : Int) = n ∧ (f ≠ 0 ∨ (e = 0 ∧ mn = 0))) = b := by
    rw [← H.out]; unfold agrB agr IV.m; simp only [hl, hm]
  clear H hl hm hK
  rcases agr_ways v f e o n fn mn b cs with ⟨h1, rfl⟩ | ⟨h1, h2, rfl⟩ | ⟨h1, h2, h3, rfl⟩ | ⟨h1, h2, h3, h4, rfl⟩ | ⟨h1, h2, h3, rfl, h5, rfl⟩ | ⟨h1, h2, h3, rfl, rfl, h6, rfl⟩ | ⟨h1, h2, h3, rfl, rfl, rfl, h7, rfl⟩ | ⟨h1, h2, h3, rfl, rfl, rfl, rfl, h8, rfl⟩ | ⟨h1, h2, h3, rfl, rfl, rfl, rfl, rfl, rfl⟩
  all_goals
    clear cs
    try have g6 := bne_of h6
    try have g7 := bne_of h7
    go_enter Tryz.func24, Tryz.ntmps24
    go_wp2
    all_goals
      go_ret
      exact ⟨rfl, below_box w _⟩

theorem two_below (w : World) (a b : Obj) : Below w.heap.size w ((w.alloc a).alloc b) := ((Below.refl _ w).alloc (Nat.le_refl _) a).alloc (by simp) b
theorem moveFrame_any (K : IV) (w : World) :
    Calls Tryz.prog 26 #[.agg #[.int .u32 K.v, .int .u32 K.f, .int .i64 K.e, .int .i64 K.s, .int .i64 K.o, .int .i64 K.n, .int .i64 K.i, .int .i64 K.u, .slice K.fA K.fn K.fc, .slice K.sA K.sn K.sc, .slice K.mA K.mn K.mc, .int .i64 K.x, .int .i64 K.y]] w fun e w' => e = .returned (.agg #[.int .i64 0, .int .i64 K.e, .int .i64 K.n, .int .i64 0, .int .i64 0]) ∧ Below w.heap.size w w' := by
  obtain ⟨v, f, e, s, o, n, i, u, x, y, fs, st, mv, fA, fn, fc, sA, sn, sc, mA, mn, mc⟩ := K
  simp only
  go_enter Tryz.func26, Tryz.ntmps26
  go_wp2_with fail
  refine ret_frame (g := w.heap.size + 1) rfl rfl (Blk.at _ _ _ (by simp)) rfl ⟨rfl, two_below w _ _⟩
theorem box_then {w w2 : World} {o : Obj} (hb : Below (w.alloc o).heap.size (w.alloc o) w2) : Below w.heap.size w w2 := (below_box w o).trans (hb.mono (below_box w o).size)
theorem ret_e {a b : Int} (h : a = b) : Ending.returned (.int .i64 a) = .returned (.int .i64 b) := by rw [h]
theorem runsWithin_any (f : Fr) (z : Int) (A : Option Addr) (n c : Nat) (l : List (Int × Int)) (x : Int) (w : World) (hr : RowI w w.heap.size A n c l) (H : Hid (runE f l x = z)) :
    Calls Tryz.prog 25 #[.slice A n c, .agg #[.int .i64 f.s, .int .i64 f.o, .int .i64 f.n, .int .i64 f.i, .int .i64 f.u], .int .i64 x] w (Tells w z) := by
  obtain ⟨s1, s2, s3, s4, s5⟩ := f
  simp only
  obtain ⟨⟨D, F, er, at_⟩, hD⟩ : ∃ r, checkM ⟨s1, s2, s3, s4, s5⟩ l = r := ⟨_, rfl⟩
  have cs : ((er == 0) = false ∧ er = z) ∨ (er = 0 ∧ (F == x) = false ∧ 14 = z) ∨ (er = 0 ∧ F = x ∧ 0 = z) := by
    have h := H.out
    unfold runE at h
    rw [hD] at h
    by_cases h1 : er = 0
    · rw [if_neg (fun hn => hn h1)] at h
      by_cases h2 : F = x
      · rw [if_neg (fun hn => hn h2)] at h; exact .inr (.inr ⟨h1, h2, h⟩)
      · rw [if_pos h2] at h; exact .inr (.inl ⟨h1, beq_eq_false_iff_ne.2 h2, h⟩)
    · rw [if_pos h1] at h; exact .inl ⟨beq_eq_false_iff_ne.2 h1, h⟩
  have HD := hide hD
  clear hD H
  rcases cs with ⟨h1, rfl⟩ | ⟨rfl, h2, rfl⟩ | ⟨rfl, rfl, rfl⟩
  all_goals
    try have g1 := bne_of h1
    try have g2 := bne_of h2
    go_enter Tryz.func25, Tryz.ntmps25
    go_wp2_with fail
    refine (Check_any ⟨s1, s2, s3, s4, s5⟩ w.heap.size A n c l _ (hr.keep (below_box w _) (Nat.le_refl _)) (below_box w _).size).mono ?_
    intro e w2 hk
    unfold Checked at hk
    rw [HD.out] at hk
    obtain ⟨rfl, hb⟩ := hk
    go_wp2
    go_ret
    exact ⟨rfl, (box_then hb).alloc (box_then hb).size _⟩

end Go.Proofs.YtdikiabjkmigdaaGreatDoor
namespace Go.Proofs.YtdikiabjkmigdaaGreatDoor
open Go.RowKit
set_option maxRecDepth 20000
set_option maxHeartbeats 2000000

theorem cells13 {w : World} {g : Nat} {t : TypeId} {c0 c1 c2 c3 c4 c5 c6 c7 c8 c9 c10 c11 c12 : Value} (b : Blk w g t [c0, c1, c2, c3, c4, c5, c6, c7, c8, c9, c10, c11, c12]) :
    w.cell? ⟨g, 0, none⟩ = some c0 ∧ w.cell? ⟨g, 1, none⟩ = some c1 ∧ w.cell? ⟨g, 2, none⟩ = some c2 ∧ w.cell? ⟨g, 3, none⟩ = some c3 ∧ w.cell? ⟨g, 4, none⟩ = some c4 ∧ w.cell? ⟨g, 5, none⟩ = some c5 ∧ w.cell? ⟨g, 6, none⟩ = some c6 ∧ w.cell? ⟨g, 7, none⟩ = some c7 ∧ w.cell? ⟨g, 8, none⟩ = some c8 ∧ w.cell? ⟨g, 9, none⟩ = some c9 ∧ w.cell? ⟨g, 10, none⟩ = some c10 ∧ w.cell? ⟨g, 11, none⟩ = some c11 ∧ w.cell? ⟨g, 12, none⟩ = some c12 :=
  ⟨b.cell (j := 0) rfl, b.cell (j := 1) rfl, b.cell (j := 2) rfl, b.cell (j := 3) rfl, b.cell (j := 4) rfl, b.cell (j := 5) rfl, b.cell (j := 6) rfl, b.cell (j := 7) rfl, b.cell (j := 8) rfl, b.cell (j := 9) rfl, b.cell (j := 10) rfl, b.cell (j := 11) rfl, b.cell (j := 12) rfl⟩
theorem Check11_any (K : IV) (z : Int) (w : World) (hK : Held w w.heap.size K) (H : Hid (chkM K.m = z)) :
    Calls Tryz.prog 13 #[.agg #[.int .u32 K.v, .int .u32 K.f, .int .i64 K.e, .int .i64 K.s, .int .i64 K.o, .int .i64 K.n, .int .i64 K.i, .int .i64 K.u, .slice K.fA K.fn K.fc, .slice K.sA K.sn K.sc, .slice K.mA K.mn K.mc, .int .i64 K.x, .int .i64 K.y]] w (Tells w z) := by
  have hst := hK.st
  have hmv := hK.mv
  obtain ⟨er, hE⟩ : ∃ r, runE K.m.fr K.m.st K.m.sf = r := ⟨_, rfl⟩
  obtain ⟨er2, hE2⟩ : ∃ r, runE (mvF K.m) K.m.mv K.m.mf = r := ⟨_, rfl⟩
  have cs : (agrB K.m = false ∧ z = 1) ∨ (agrB K.m = true ∧ (er == 0) = false ∧ z = er) ∨ (agrB K.m = true ∧ er = 0 ∧ z = er2) := by
    have h := H.out
    unfold chkM at h
    rw [hE, hE2] at h
    by_cases h1 : agr K.m
    · rw [if_neg (fun hn => hn h1)] at h
      by_cases h2 : er = 0
      · rw [if_neg (fun hn => hn h2)] at h; exact .inr (.inr ⟨decide_eq_true h1, h2, h.symm⟩)
      · rw [if_pos h2] at h; exact .inr (.inl ⟨decide_eq_true h1, beq_eq_false_iff_ne.2 h2, h.symm⟩)
    · rw [if_pos h1] at h; exact .inl ⟨decide_eq_false h1, h.symm⟩
  have HE := hide hE
  have HE2 := hide hE2
  clear hE hE2 H
  rcases cs with ⟨h1, rfl⟩ | ⟨h1, h2, rfl⟩ | ⟨h1, rfl, rfl⟩
  all_goals
    have HA := hide h1
    clear h1
    try have g2 := bne_of h2
    go_enter Tryz.func13, Tryz.ntmps13
    go_wp2_with fail
    refine (agrees_b K _ _ ((hK.keep (below_box w _) (Nat.le_refl _)).more (below_box w _).size) HA).mono ?_
    rintro e w2 ⟨rfl, hb⟩
    have hb1 := box_then hb
    have bC := (Blk.new w 28 [.int .u32 K.v, .int .u32 K.f, .int .i64 K.e, .int .i64 K.s, .int .i64 K.o, .int .i64 K.n, .int .i64 K.i, .int .i64 K.u, .slice K.fA K.fn K.fc, .slice K.sA K.sn K.sc, .slice K.mA K.mn K.mc, .int .i64 K.x, .int .i64 K.y]).keep hb (by simp)
    obtain ⟨k0, k1, k2, k3, k4, k5, k6, k7, k8, k9, k10, k11, k12⟩ := cells13 bC
    go_wp2_with fail
    clear k0 k1 k2 k3 k4 k5 k6 k7 k8 k9 k10 k11 k12
  · go_ret
    exact ⟨rfl, hb1⟩
  all_goals
    refine (runsWithin_any K.m.fr _ K.sA K.sn K.sc K.st K.x _ ((hst.keep hb1 (Nat.le_refl _)).more hb1.size) HE).mono ?_
    rintro e w3 ⟨rfl, hb2⟩
    have hb3 := hb1.trans (hb2.mono hb1.size)
    have bD := bC.keep hb2 bC.lt
    clear bC
    obtain ⟨k0, k1, k2, k3, k4, k5, k6, k7, k8, k9, k10, k11, k12⟩ := cells13 bD
    go_wp2_with fail
  · go_ret
    exact ⟨rfl, hb3⟩
  · clear k0 k1 k2 k3 k4 k5 k6 k7 k8 k9 k10 k11 k12
    have bE := bD.drew
    have hm3 := ((hmv.keep hb3 (Nat.le_refl _)).more hb3.size).keep (below_drewN w3.heap.size w3 1) (Nat.le_refl _)
    replace hm3 : RowI w3.drew w3.drew.heap.size K.mA K.mn K.mc K.mv := hm3
    have hb4 := hb3.drew
    replace hb4 : Below w.heap.size w w3.drew := hb4
    clear hb hb1 hb2 hb3 hst hmv bD HE HA
    go_region_held3 (fun W : World => W.cell? ⟨w.heap.size, 0, none⟩ = some (.int .u32 K.v) ∧ W.cell? ⟨w.heap.size, 1, none⟩ = some (.int .u32 K.f) ∧ W.cell? ⟨w.heap.size, 2, none⟩ = some (.int .i64 K.e) ∧ W.cell? ⟨w.heap.size, 3, none⟩ = some (.int .i64 K.s) ∧ W.cell? ⟨w.heap.size, 4, none⟩ = some (.int .i64 K.o) ∧ W.cell? ⟨w.heap.size, 5, none⟩ = some (.int .i64 K.n) ∧ W.cell? ⟨w.heap.size, 6, none⟩ = some (.int .i64 K.i) ∧ W.cell? ⟨w.heap.size, 7, none⟩ = some (.int .i64 K.u) ∧ W.cell? ⟨w.heap.size, 8, none⟩ = some (.slice K.fA K.fn K.fc) ∧ W.cell? ⟨w.heap.size, 9, none⟩ = some (.slice K.sA K.sn K.sc) ∧ W.cell? ⟨w.heap.size, 10, none⟩ = some (.slice K.mA K.mn K.mc) ∧ W.cell? ⟨w.heap.size, 11, none⟩ = some (.int .i64 K.x) ∧ W.cell? ⟨w.heap.size, 12, none⟩ = some (.int .i64 K.y)) (first | exact cells13 bE | exact cells13 bF | exact cells13 bG) (first
      | (go_at_call 26; refine (moveFrame_any K _).mono ?_; rintro e w4 ⟨rfl, hb5⟩; have bF := bE.keep hb5 bE.lt; have hm4 := (hm3.keep hb5 (Nat.le_refl _)).more hb5.size; have hb6 := hb4.trans (hb5.mono hb4.size))
      | (go_at_call 25; refine (runsWithin_any ⟨0, K.e, K.n, 0, 0⟩ z K.mA K.mn K.mc K.mv K.y _ hm4 HE2).mono ?_; rintro e w5 ⟨rfl, hb7⟩; have bG := bF.keep hb7 bF.lt; have hb8 := hb6.trans (hb7.mono hb6.size)))
    go_wp2
    go_ret
    exact ⟨rfl, hb8⟩

end Go.Proofs.YtdikiabjkmigdaaGreatDoor
namespace Go.Proofs.YtdikiabjkmigdaaGreatDoor
open Go.RowKit
set_option maxRecDepth 20000
set_option maxHeartbeats 2000000

def wsF (fs : List Int) : List UInt32 := fs.map fun v => word (plN v)
theorem wsF_len (fs : List Int) : (wsF fs).length = fs.length := by simp [wsF]
theorem wsF_next {fs : List Int} {j : Nat} (h : j < fs.length) : cs32 (wsF (fs.take (j + 1))) = cs32 (wsF (fs.take j)) ++ [.int .u32 ((plN (gd fs j) : Nat) : Int)] := by
  have e : (word (plN (gd fs j))).toNat = plN (gd fs j) := by rw [word_toNat]; exact Nat.mod_eq_of_lt (plN_lt _)
  rw [List.take_succ_eq_append_getElem h, ← gd_lt h]
  simp only [wsF, List.map_append, List.map_cons, List.map_nil]
  rw [cs32_snoc, e]
theorem fsB_ws (fs : List Int) : bytesL (wsF fs) = fsB fs := rfl
theorem bytesOf_any (B : Nat) (A : Option Addr) (n c : Nat) (fs : List Int) (w : World) (hr : Row w B A n c (c32 fs)) (hB : B ≤ w.heap.size) (hl : n ≤ 1073741824) :
    Calls Tryz.prog 40 #[.slice A n c] w (LayPost w.heap.size w (fsB fs)) := by
  obtain ⟨i0, hi, hz0, hz1, hz2⟩ := info_parts info32
  have hn := row_len hr
  subst hn
  go_enter Tryz.func40, Tryz.ntmps40
  go_wp2_with (at_make; refine wpList_make_own _ rfl _ _ 96 rfl w.heap.size 22 i0 (.int .u32 0) 1 Tryz.underlying96 hi hz0 hz1 _ _ _ fs.length rfl rfl (by omega) (by rw [hz2]; omega) (by unfold maxLen; omega) (Nat.le_refl _) ?_; intro w1 ho1 hg1)
  have hb1 : Below w.heap.size w w1 := (Below.refl _ _).grown hg1 (Nat.le_refl _) (by simp)
  clear hg1
  go_loopw [3, 11] (fun s i wr => ∃ (j : Nat) (A' : Option Addr) (n' c' : Nat), j ≤ fs.length ∧ i = .int .i64 (j : Int) ∧ s = .slice A' n' c' ∧ wr.ownsRow w.heap.size 22 1 (.slice A' n' c') n' (cs32 (wsF (fs.take j))) ∧ Below w.heap.size w wr) (fun _ i _ => fs.length - (intOf i).toNat)
  case atStart => exact ⟨0, _, _, _, Nat.zero_le _, rfl, rfl, ho1, hb1⟩
  case round =>
    clear ho1 hb1
    obtain ⟨j, A', n', c', hj, rfl, rfl, ho, hb⟩ := hrel
    have hbs := hb.size
    have hnl : n' ≤ 1073741824 := by
      have h1 := own32_len ho
      rw [wsF_len, List.length_take] at h1
      omega
    by_cases hlt : j < fs.length
    · have HE := hide (wsF_next hlt)
      obtain ⟨b, o, u, rfl, _, hu, hcell⟩ := (hr.keep hb hB).get hlt
      rw [c32_at hlt] at hu
      obtain rfl := Option.some.inj hu
      clear hu
      obtain ⟨v, hv⟩ : ∃ v, v = gd fs j := ⟨_, rfl⟩
      rw [← hv] at hcell HE
      clear hv
      obtain ⟨p, hp⟩ : ∃ p, p = plN v := ⟨_, rfl⟩
      rw [← hp] at HE
      have HP := hide hp.symm
      have hp4 := plN_lt v
      rw [← hp] at hp4
      clear hp
      go_wp2_with (first
        | (go_at_call 70; refine (Plain_p v _ p HP.out).mono ?_; rintro e w' ⟨rfl, rfl⟩)
        | (at_builtin; refine wpList_append_row rfl (.tmp 15) (.tmp 18) 96 rfl w.heap.size 22 i0 _ 4 Tryz.underlying96 hi hz0 hz1 hz2 rfl _ _ _ rfl (ho.alloc _) _ _ _ _ _ rfl (Row.one _ _ _) (one_u32 _) (by unfold maxLen; omega) (by omega) w (hb.alloc (by omega) _) (Nat.le_refl _) ?_; intro A2 c2 w2 ho2 hb2 hg2))
      go_roundw
      case rel => exact ⟨j + 1, A2, n' + 1, c2, by omega, by go_num, rfl, by rw [HE.out]; exact ho2, hb2⟩
      case measure => simp [intOf]; omega
    · obtain rfl : j = fs.length := by omega
      rw [List.take_length] at ho
      have hR := Row.of_own ho
      go_wp2_with (go_at_call 71; refine (Bytes_any _ _ _ _ _ _ hR (Nat.le_refl _) (by omega)).mono ?_; rintro e w3 ⟨A3, n3, c3, rfl, ho3, hb3⟩)
      go_ret
      exact ⟨A3, n3, c3, rfl, own_base hbs ho3, hb.trans (hb3.mono hbs)⟩
/-- Numbers in new memory. -/
def GivesN (w : World) (r : List Int) (e : Ending) (w' : World) : Prop := ∃ A n c, e = .returned (.slice A n c) ∧ w'.ownsRow w.heap.size 21 1 (.slice A n c) n (c32 r) ∧ Below w.heap.size w w'
def fvW (ws : List UInt32) : List Int := ws.map fun c => wrap32 c.toNat
theorem fvW_next {ws : List UInt32} {j : Nat} (h : j < ws.length) : c32 (fvW (ws.take (j + 1))) = c32 (fvW (ws.take j)) ++ [.int .i32 (wrap32 (ws[j].toNat : Int))] := by
  rw [List.take_succ_eq_append_getElem h]
  simp only [fvW, c32, List.map_append, List.map_cons, List.map_nil]
theorem one_i32 (n : Int) : ∀ u ∈ [Value.int .i32 n], u.oneCell' = true := by
  intro u hu; rw [List.mem_singleton] at hu; subst hu; rfl
theorem fsV_ws {x : List UInt8} (h : x.length % 4 = 0) : fvW (wordsL x) = fsV x := by
  unfold fvW fsV wordsL
  rw [show (x.length + 3) / 4 = x.length / 4 by omega]
theorem ownN_len {w : World} {base : Nat} {e : TypeId} {v : Value} {n : Nat} {l : List Int} (h : w.ownsRow base e 1 v n (c32 l)) : l.length = n := by
  have := h.1; rw [c32_len] at this; omega
theorem valuesOf_any (B : Nat) (A : Option Addr) (n c : Nat) (l : List UInt8) (w : World) (hr : Row w B A n c (cs8 l)) (hB : B ≤ w.heap.size) (hl : n ≤ 1073741824) (h4 : l.length % 4 = 0) :
    Calls Tryz.prog 47 #[.slice A n c] w (GivesN w (fsV l)) := by
  obtain ⟨i0, hi, hz0, hz1, hz2⟩ := info_parts infoN
  have hlen : (wordsL l).length ≤ 1073741824 := by
    have h1 := hr.len
    rw [cs8_len] at h1
    unfold wordsL
    rw [wordsK_len]
    omega
  have HF := hide (fsV_ws h4)
  obtain ⟨ws, hw⟩ : ∃ ws, ws = wordsL l := ⟨_, rfl⟩
  rw [← hw] at HF hlen
  have HW := hide hw
  clear hw h4
  go_enter Tryz.func47, Tryz.ntmps47
  go_wp2_with fail
  refine (Words_any B A n c l w hr hB (by omega)).mono ?_
  rw [← HW.out]
  rintro e w0 ⟨Aw, nw, cw, rfl, how, hbw⟩
  have hnw := own32_len how
  subst hnw
  have hbs := hbw.size
  have hR := Row.of_own how
  clear how
  go_wp2_with (at_make; refine wpList_make_own _ rfl _ _ 25 rfl w0.heap.size 21 i0 (.int .i32 0) 1 Tryz.underlying25 hi hz0 hz1 _ _ _ ws.length rfl rfl (by omega) (by rw [hz2]; omega) (by unfold maxLen; omega) (Nat.le_refl _) ?_; intro w1 ho1 hg1)
  have hb1 : Below w0.heap.size w0 w1 := (Below.refl _ _).grown hg1 (Nat.le_refl _) (by simp)
  clear hg1
  go_loopw [4, 14] (fun s i wr => ∃ (j : Nat) (A' : Option Addr) (n' c' : Nat), j ≤ ws.length ∧ i = .int .i64 (j : Int) ∧ s = .slice A' n' c' ∧ wr.ownsRow w0.heap.size 21 1 (.slice A' n' c') n' (c32 (fvW (ws.take j))) ∧ Below w0.heap.size w0 wr) (fun _ i _ => ws.length - (intOf i).toNat)
  case atStart => exact ⟨0, _, _, _, Nat.zero_le _, rfl, rfl, ho1, hb1⟩
  case round =>
    clear ho1 hb1
    obtain ⟨j, A', n', c', hj, rfl, rfl, ho, hb⟩ := hrel
    have hR2 := hR.keep hb (Nat.le_refl _)
    have hbs2 := hb.size
    have hnl : n' ≤ 1073741824 := by
      have h1 := ownN_len ho
      simp only [fvW, List.length_map, List.length_take] at h1
      omega
    by_cases hlt : j < ws.length
    · have HE := hide (fvW_next hlt)
      obtain ⟨b, o, u, rfl, _, hu, hcell⟩ := hR2.get hlt
      rw [cs32_at hlt] at hu
      obtain rfl := Option.some.inj hu
      clear hu
      have hwl := ws[j].toNat_lt
      obtain ⟨x, hx⟩ : ∃ x, x = wrap32 (ws[j].toNat : Int) := ⟨_, rfl⟩
      rw [← hx] at HE
      have HX := hide hx.symm
      clear hx
      go_wp2_with (first
        | (go_at_call 76; refine (Signed_x _ x _ (by omega) HX.out).mono ?_; rintro e w' ⟨rfl, rfl⟩)
        | (at_builtin; have zz := (hb.alloc (show w0.heap.size ≤ wr.heap.size by omega) (.cells #[Value.int .i32 x] 21)); refine wpList_append_row rfl (.tmp 18) (.tmp 21) 25 rfl w0.heap.size 21 i0 _ 4 Tryz.underlying25 hi hz0 hz1 hz2 rfl _ _ _ rfl (ho.alloc _) _ _ _ _ _ rfl (Row.one _ _ _) (one_i32 _) (by unfold maxLen; omega) (by omega) w0 (hb.alloc (by omega) _) (Nat.le_refl _) ?_; intro A2 c2 w2 ho2 hb2 hg2))
      go_roundw
      case rel => exact ⟨j + 1, A2, n' + 1, c2, by omega, by go_num, rfl, by rw [HE.out]; exact ho2, hb2⟩
      case measure => simp [intOf]; omega
    · obtain rfl : j = ws.length := by omega
      rw [List.take_length] at ho
      go_wp2
      go_ret
      exact ⟨A', n', c', rfl, by rw [← HF.out]; exact own_base hbs ho, hbw.trans (hb.mono hbs)⟩

end Go.Proofs.YtdikiabjkmigdaaGreatDoor
