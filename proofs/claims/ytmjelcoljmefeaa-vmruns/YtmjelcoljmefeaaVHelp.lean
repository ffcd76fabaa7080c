/-
  The laws' own helpers: light, run, fitted, touches; the reference's Ints.
-/
import Derived.Test.YtmjelcoljmefeaaVKnown
namespace Go.Proofs.Ytmjelcoljmefeaa
open Go.RowKit
set_option maxRecDepth 20000
set_option maxHeartbeats 2000000

/-- A case: where its values lie. -/
structure CD where
  A : Option Addr
  n : Nat
  c : Nat
  f : Fr
  oA : Option Addr
  no : Nat
  oc : Nat
  fA : Option Addr
  nf : Nat
  fc : Nat
  iA : Option Addr
  ni : Nat
  ic : Nat
  fu : Int
def caseC (K : CD) : List Value := [.slice K.A K.n K.c, .int .i64 K.f.s, .int .i64 K.f.o, .int .i64 K.f.n, .int .i64 K.f.i, .int .i64 K.f.u, .slice K.oA K.no K.oc, .slice K.fA K.nf K.fc, .slice K.iA K.ni K.ic, .int .i64 K.fu]
structure CR (w : World) (B : Nat) (K : CD) (l : List (Int × Int)) (old first ins : List Int) : Prop where
  cl : RowI w B K.A K.n K.c l
  ol : Row w B K.oA K.no K.oc (c32 old)
  fl : Row w B K.fA K.nf K.fc (c32 first)
  il : Row w B K.iA K.ni K.ic (c32 ins)
  ro : rngL old
  rf : rngL first
  ri : rngL ins
section
variable {w w' : World} {B B' : Nat} {K : CD} {l : List (Int × Int)} {old first ins : List Int}
theorem CR.keep (h : CR w B K l old first ins) (hb : Below B' w w') (hB : B ≤ B') : CR w' B K l old first ins := ⟨h.cl.keep hb hB, h.ol.keep hb hB, h.fl.keep hb hB, h.il.keep hb hB, h.ro, h.rf, h.ri⟩
theorem CR.more (h : CR w B K l old first ins) (hB : B ≤ B') : CR w B' K l old first ins := ⟨h.cl.more hB, h.ol.more hB, h.fl.more hB, h.il.more hB, h.ro, h.rf, h.ri⟩
theorem CR.lens (h : CR w B K l old first ins) : l.length = K.n ∧ old.length = K.no ∧ first.length = K.nf ∧ ins.length = K.ni := by
  have h1 := h.cl.len
  have h2 := h.ol.len
  have h3 := h.fl.len
  have h4 := h.il.len
  rw [c32_len] at h2 h3 h4
  exact ⟨h1, h2, h3, h4⟩
theorem own_lower {w : World} {base base' : Nat} {e : TypeId} {v : Value} {n : Nat} {xs : List Value} (hb : base' ≤ base) (h : w.ownsRow base e 1 v n xs) : w.ownsRow base' e 1 v n xs := by
  refine ⟨h.1, ?_⟩
  rcases h.2 with h2 | ⟨g, cap, cur, hv, hg, r⟩
  · exact .inl h2
  · exact .inr ⟨g, cap, cur, hv, Nat.le_trans hb hg, r⟩
theorem results_cell_one' {fn : Func} {p u : Tmp} {ty : TypeId} (h : fn.results = #[.cell p ty, .tmp u]) (tmps : Array Value) (P : Program) (w : World) :
    (results fn tmps).run P w =
      ((asAddr (tmps.getD p undef)).run P w).andThen fun a w₁ => ((loadVar ty a).run P w₁).andThen fun x w₂ => .ok (.tuple #[x, tmps.getD u undef]) w₂ := by
  simp only [results, h]
  simp [Sem.run_bind, Result.andThen]
theorem ret_res {fn : Func} {R : Ending → World → Prop} {a : Act} {w : World} {p u : Tmp} {g : Nat} {x0 x1 x2 : Value} {er : Int} (h : fn.results = #[.cell p 33, .tmp u])
    (hp : a.tmps.getD p undef = .pointer (some ⟨g, 0, none⟩)) (hu : a.tmps.getD u undef = .int .i64 er) (hb : Blk w g 33 [x0, x1, x2]) (hd : a.defers = [])
    (hR : R (.returned (.tuple #[.agg #[x0, x1, x2], .int .i64 er])) w) : bodyPost Try.prog fn R .ret a w := by
  refine bodyPost_ret_by (v := .tuple #[.agg #[x0, x1, x2], .int .i64 er]) ?_ hd hR
  have := run_loadVar_row (P := Try.prog) w g _ 33 #[x0, x1, x2] (0, 0) _ hb Try.underlying33 rfl (by exact sizeRes)
  rw [results_cell_one' h]
  simp only [hp, hu, asAddr]
  simp [this, Result.andThen]
theorem lrun_any (x : Int) (w : World) (h : CR w B K l old first ins) (hB : B ≤ w.heap.size) :
    Calls Try.prog 17 #[.agg #[.slice K.A K.n K.c, .int .i64 K.f.s, .int .i64 K.f.o, .int .i64 K.f.n, .int .i64 K.f.i, .int .i64 K.f.u, .slice K.oA K.no K.oc, .slice K.fA K.nf K.fc, .slice K.iA K.ni K.ic, .int .i64 K.fu], .int .i64 x] w (RunP (vmV K.f l old first ins x) w) := by
  have H := hide h
  clear h
  go_enter Try.func17, Try.ntmps17
  go_wp2_with fail
  have bR := Blk.at (w.alloc (.cells #[.slice K.A K.n K.c, .int .i64 K.f.s, .int .i64 K.f.o, .int .i64 K.f.n, .int .i64 K.f.i, .int .i64 K.f.u, .slice K.oA K.no K.oc, .slice K.fA K.nf K.fc, .slice K.iA K.ni K.ic, .int .i64 K.fu] 27)) 33 [.slice none 0 0, .slice none 0 0, .int .i64 0] (g := w.heap.size + 1) (by simp)
  have hb1 := ((Below.refl _ w).alloc (Nat.le_refl _) (.cells #[.slice K.A K.n K.c, .int .i64 K.f.s, .int .i64 K.f.o, .int .i64 K.f.n, .int .i64 K.f.i, .int .i64 K.f.u, .slice K.oA K.no K.oc, .slice K.fA K.nf K.fc, .slice K.iA K.ni K.ic, .int .i64 K.fu] 27)).alloc (by simp) (.cells #[.slice none 0 0, .slice none 0 0, .int .i64 0] 33)
  generalize (w.alloc (.cells #[.slice K.A K.n K.c, .int .i64 K.f.s, .int .i64 K.f.o, .int .i64 K.f.n, .int .i64 K.f.i, .int .i64 K.f.u, .slice K.oA K.no K.oc, .slice K.fA K.nf K.fc, .slice K.iA K.ni K.ic, .int .i64 K.fu] 27)).alloc (.cells #[.slice none 0 0, .slice none 0 0, .int .i64 0] 33) = w1 at bR hb1 ⊢
  have H1 := H.out.keep hb1 hB
  refine (Run_any K.f K.A K.oA K.fA K.iA K.n K.c K.no K.oc K.nf K.fc K.ni K.ic B x l old first ins w1 (by have := hb1.size; omega) H1.cl H1.ol H1.fl H1.il H1.rf H1.ro H1.ri).mono ?_
  rintro e w2 ⟨A, c, A', c', rfl, o1, o2, hb2⟩
  have bR2 := bR.keep hb2 bR.lt
  have f0 := bR2.frozen 0
  have f1 := bR2.frozen 1
  have f2 := bR2.frozen 2
  have c0 := bR2.cell (j := 0) rfl
  have c1 := bR2.cell (j := 1) rfl
  have c2 := bR2.cell (j := 2) rfl
  have hb02 := hb1.trans (hb2.mono hb1.size)
  have l1 := hb1.size
  have HO := hide (And.intro o1 (And.intro o2 (And.intro bR.lt hb02)))
  have HB := hide bR2
  clear o1 o2 bR bR2 hb1 hb2 hb02 H1
  go_wp2
  refine ret_res (g := w.heap.size + 1) rfl rfl rfl (((HB.out.set 0 _).set 1 _).set 2 _) rfl ⟨A, c, A', c', rfl, ?_, ?_, below_set (below_set (below_set HO.out.2.2.2 (by omega) _) (by omega) _) (by omega) _⟩
  · have hq := fun k hk => (HO.out.1.lt k hk).1
    exact own_lower l1 (own_other (own_other (own_other HO.out.1 (fun k hk => by have := hq k hk; have := HO.out.2.2.1; omega) 0 _) (fun k hk => by have := hq k hk; have := HO.out.2.2.1; omega) 1 _) (fun k hk => by have := hq k hk; have := HO.out.2.2.1; omega) 2 _)
  · have hq := fun k hk => (HO.out.2.1.lt k hk).1
    exact own_lower l1 (own_other (own_other (own_other HO.out.2.1 (fun k hk => by have := hq k hk; have := HO.out.2.2.1; omega) 0 _) (fun k hk => by have := hq k hk; have := HO.out.2.2.1; omega) 1 _) (fun k hk => by have := hq k hk; have := HO.out.2.2.1; omega) 2 _)
def lightB (K : CD) : Bool := decide (K.n ≤ 2000 ∧ K.no ≤ 100 ∧ K.nf ≤ 100 ∧ K.ni ≤ 100)
theorem light_b (K : CD) (b : Bool) (w : World) (H : Hid (lightB K = b)) : Calls Try.prog 8 #[.agg #[.slice K.A K.n K.c, .int .i64 K.f.s, .int .i64 K.f.o, .int .i64 K.f.n, .int .i64 K.f.i, .int .i64 K.f.u, .slice K.oA K.no K.oc, .slice K.fA K.nf K.fc, .slice K.iA K.ni K.ic, .int .i64 K.fu]] w fun e w' => e = .returned (.bool b) ∧ Below w.heap.size w w' := by
  have hb := H.out
  unfold lightB at hb
  clear H
  obtain ⟨n1, e1⟩ : ∃ x, K.n = x := ⟨_, rfl⟩
  obtain ⟨n2, e2⟩ : ∃ x, K.no = x := ⟨_, rfl⟩
  obtain ⟨n3, e3⟩ : ∃ x, K.nf = x := ⟨_, rfl⟩
  obtain ⟨n4, e4⟩ : ∃ x, K.ni = x := ⟨_, rfl⟩
  rw [e1, e2, e3, e4] at hb ⊢
  clear e1 e2 e3 e4
  by_cases h1 : n1 ≤ 2000
  · have d1 : decide ((n1 : Int) ≤ 2000) = true := by simpa using (by omega : (n1 : Int) ≤ 2000)
    by_cases h2 : n2 ≤ 100
    · have d2 : decide ((n2 : Int) ≤ 100) = true := by simpa using (by omega : (n2 : Int) ≤ 100)
      by_cases h3 : n3 ≤ 100
      · have d3 : decide ((n3 : Int) ≤ 100) = true := by simpa using (by omega : (n3 : Int) ≤ 100)
        by_cases h4 : n4 ≤ 100
        · have d4 : decide ((n4 : Int) ≤ 100) = true := by simpa using (by omega : (n4 : Int) ≤ 100)
          obtain rfl : true = b := by rw [← hb]; simp [h1, h2, h3, h4]
          clear h1 h2 h3 h4 hb
          go_enter Try.func8, Try.ntmps8
          go_wp2
          go_ret
          exact ⟨rfl, below_box _ _⟩
        · have d4 : decide ((n4 : Int) ≤ 100) = false := by simp; omega
          obtain rfl : false = b := by rw [← hb]; simp [h4]
          clear h1 h2 h3 h4 hb
          go_enter Try.func8, Try.ntmps8
          go_wp2
          go_ret
          exact ⟨rfl, below_box _ _⟩
      · have d3 : decide ((n3 : Int) ≤ 100) = false := by simp; omega
        obtain rfl : false = b := by rw [← hb]; simp [h3]
        clear h1 h2 h3 hb
        go_enter Try.func8, Try.ntmps8
        go_wp2
        go_ret
        exact ⟨rfl, below_box _ _⟩
    · have d2 : decide ((n2 : Int) ≤ 100) = false := by simp; omega
      obtain rfl : false = b := by rw [← hb]; simp [h2]
      clear h1 h2 hb
      go_enter Try.func8, Try.ntmps8
      go_wp2
      go_ret
      exact ⟨rfl, below_box _ _⟩
  · have d1 : decide ((n1 : Int) ≤ 2000) = false := by simp; omega
    obtain rfl : false = b := by rw [← hb]; simp [h1]
    clear h1 hb
    go_enter Try.func8, Try.ntmps8
    go_wp2
    go_ret
    exact ⟨rfl, below_box _ _⟩
end
end Go.Proofs.Ytmjelcoljmefeaa
