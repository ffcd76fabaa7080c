/-
  Contract of package vm: Run.
-/
import Derived.Test.YtmjelcoljmefeaaVPkg6
import Derived.Defers
import Derived.Recover
import Derived.Laws.Pointers
namespace Go.Proofs.Ytmjelcoljmefeaa
open Go.RowKit
set_option maxRecDepth 20000
set_option maxHeartbeats 2000000

theorem as_errno (v : Value) (w : World) : (Instr.typeAssert (.iface 34 v) 20 34 true).run Try.prog w = .ok (.tuple #[v, .bool true]) w := by kernel_rfl
theorem as_nil (w : World) : (Instr.typeAssert .nilIface 20 34 true).run Try.prog w = .ok (.tuple #[.int .i64 0, .bool false]) w := by kernel_rfl
/-- The zero result, and a fault. -/
def Caught (b p q : Nat) (er : Int) (w w' : World) : Prop := Blk w' p 33 [.slice none 0 0, .slice none 0 0, .int .i64 0] ∧ Blk w' q 34 [.int .i64 er] ∧ Below b w w'
theorem catch_panic (b p q : Nat) (er : Int) (a0 a1 a2 b0 : Value) (older : List PanicEntry) (w : World) (hp : Blk w p 33 [a0, a1, a2]) (hq : Blk w q 34 [b0]) (hne : p ≠ q) (hb : b ≤ p) (hb2 : b ≤ q) :
    CallsD Try.prog 21 #[.pointer (some ⟨p, 0, none⟩), .pointer (some ⟨q, 0, none⟩)] (.panicking ({ v := .iface 34 (.int .i64 er), recovered := false } :: older)) w fun e u' w' =>
      e = .returned (.tuple #[]) ∧ u' = .panicking ({ v := .iface 34 (.int .i64 er), recovered := true } :: older) ∧ Caught b p q er w w' := by
  have c0 := hp.cell (j := 0) rfl
  have c1 := hp.cell (j := 1) rfl
  have c2 := hp.cell (j := 2) rfl
  have d0 := hq.cell (j := 0) rfl
  have f0 := hp.frozen 0
  have f1 := hp.frozen 1
  have f2 := hp.frozen 2
  have g0 := hq.frozen 0
  have HC : Hid (Caught b p q er w ((((w.setCell ⟨p, 0, none⟩ (.slice none 0 0)).setCell ⟨p, 1, none⟩ (.slice none 0 0)).setCell ⟨p, 2, none⟩ (.int .i64 0)).setCell ⟨q, 0, none⟩ (.int .i64 er))) :=
    ⟨(((hp.set 0 _).set 1 _).set 2 _).other hne 0 _, (((hq.other (Ne.symm hne) 0 _).other (Ne.symm hne) 1 _).other (Ne.symm hne) 2 _).set 0 _, below_set (below_set (below_set (below_set (Below.refl _ _) hb _) hb _) hb _) hb2 _⟩
  clear hp hq
  refine callsD_of_wpS Try.func21 rfl fun c₀ cs hu => ?_
  apply wpS_seq
  apply wpS_region
  simp [wpOpsS, go_sem, recoverD, hu, Try.ntmps21, Exit.thenS, as_errno]
  refine wpS_of_wp ?_
  simp only [show (Array.replicate 10 undef : Array Value) = #[undef, undef, undef, undef, undef, undef, undef, undef, undef, undef] from rfl, List.setIfInBounds_toArray, List.set_cons_zero, List.set_cons_succ, List.append_toArray, List.cons_append, List.nil_append]
  go_wp2
  exact ⟨rfl, _, rfl, _, by simp [results, Try.results21], rfl, rfl, HC.out⟩
theorem catch_idle (p q : Nat) (w : World) :
    CallsD Try.prog 21 #[.pointer (some ⟨p, 0, none⟩), .pointer (some ⟨q, 0, none⟩)] .returning w fun e u' w' => e = .returned (.tuple #[]) ∧ u' = .returning ∧ w' = w := by
  refine callsD_of_wpS Try.func21 rfl fun c₀ cs hu => ?_
  apply wpS_seq
  apply wpS_region
  simp [wpOpsS, go_sem, recoverD, hu, Try.ntmps21, Exit.thenS, as_nil]
  refine wpS_of_wp ?_
  simp only [show (Array.replicate 10 undef : Array Value) = #[undef, undef, undef, undef, undef, undef, undef, undef, undef, undef] from rfl, List.setIfInBounds_toArray, List.set_cons_zero, List.set_cons_succ, List.append_toArray, List.cons_append, List.nil_append]
  go_wp2
  refine ⟨rfl, .returning, ?_, _, by simp [results, Try.results21], rfl, rfl, rfl⟩
  cases c₀
  simp_all
theorem sizeRes : (Try.prog.info? 33).map (·.size) = some 3 := by kernel_rfl
theorem sizeErr : (Try.prog.info? 34).map (·.size) = some 1 := by kernel_rfl
theorem results_two_cells {fn : Func} {p q : Tmp} {ty uy : TypeId} (h : fn.results = #[.cell p ty, .cell q uy]) (tmps : Array Value) (P : Program) (w : World) :
    (results fn tmps).run P w =
      ((asAddr (tmps.getD p undef)).run P w).andThen fun a w₁ => ((loadVar ty a).run P w₁).andThen fun x w₂ =>
      ((asAddr (tmps.getD q undef)).run P w₂).andThen fun b w₃ => ((loadVar uy b).run P w₃).andThen fun y w₄ => .ok (.tuple #[x, y]) w₄ := by
  simp only [results, h]
  simp [Sem.run_bind, Result.andThen]
theorem run_results (tmps : Array Value) (w : World) (p q : Nat) (x0 x1 x2 : Value) (er : Int) (h12 : tmps.getD 12 undef = .pointer (some ⟨p, 0, none⟩)) (h13 : tmps.getD 13 undef = .pointer (some ⟨q, 0, none⟩))
    (hp : Blk w p 33 [x0, x1, x2]) (hq : Blk w q 34 [.int .i64 er]) : (results Try.f12 tmps).run Try.prog w = .ok (.tuple #[.agg #[x0, x1, x2], .int .i64 er]) w := by
  have e1 := run_loadVar_row (P := Try.prog) w p _ 33 #[x0, x1, x2] (0, 0) _ hp Try.underlying33 rfl (by exact sizeRes)
  have e2 := hq.cell (j := 0) rfl
  have e3 : (loadVar 34 ⟨q, 0, none⟩).run Try.prog w = .ok (.int .i64 er) w := by simp [go_sem, e2]
  rw [results_two_cells Try.results12]
  simp only [h12, h13, asAddr]
  simp [e1, e3, Result.andThen]
def RunP (V : Int × List Int × List Int × Nat) (w : World) (e : Ending) (w' : World) : Prop :=
  ∃ A c A' c', e = .returned (.tuple #[.agg #[.slice A V.2.1.length c, .slice A' V.2.2.1.length c', .int .i64 (V.2.2.2 : Int)], .int .i64 V.1]) ∧
    w'.ownsRow w.heap.size 21 1 (.slice A V.2.1.length c) V.2.1.length (c32 V.2.1) ∧ w'.ownsRow w.heap.size 21 1 (.slice A' V.2.2.1.length c') V.2.2.1.length (c32 V.2.2.1) ∧ Below w.heap.size w w'
theorem RunP.fault {w w' : World} {er : Int} {V : Int × List Int × List Int × Nat} (hV : V = (er, [], [], 0)) (hb : Below w.heap.size w w') : RunP V w (.returned (.tuple #[.agg #[.slice none 0 0, .slice none 0 0, .int .i64 0], .int .i64 er])) w' := by
  subst hV
  exact ⟨none, 0, none, 0, rfl, World.ownsRow_nil _ _ _ _, World.ownsRow_nil _ _ _ _, hb⟩
end Go.Proofs.Ytmjelcoljmefeaa
