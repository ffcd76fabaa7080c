/-
  Memory of a check: the program's states (two cells a position) and its longest ways; the targets of an instruction; what is kept outside some blocks.
-/
import Derived.Test.YtdikiabjkmigdaaGreatDoorUPkg
namespace Go.Proofs.YtdikiabjkmigdaaGreatDoor
set_option maxRecDepth 20000
open Go.RowKit
set_option maxHeartbeats 400000

/-- All blocks that were there, but for those of S, are as they were. -/
structure Keeps (S : List Nat) (w w' : World) : Prop where
  os : w'.os = w.os
  tape : w'.tape = w.tape
  output : w'.output = w.output
  size : w.heap.size ≤ w'.heap.size
  block : ∀ k, k < w.heap.size → k ∉ S → w'.heap[k]? = w.heap[k]?
section
variable {S T : List Nat} {w w1 w2 : World}
theorem Keeps.refl (S : List Nat) (w : World) : Keeps S w w := ⟨rfl, rfl, rfl, Nat.le_refl _, fun _ _ _ => rfl⟩
theorem Keeps.trans (h : Keeps S w w1) (k : Keeps T w1 w2) (hT : ∀ i ∈ T, i ∈ S ∨ w.heap.size ≤ i) : Keeps S w w2 :=
  ⟨k.os.trans h.os, k.tape.trans h.tape, k.output.trans h.output, Nat.le_trans h.size k.size, fun i hi hS =>
    (k.block i (Nat.lt_of_lt_of_le hi h.size) (fun ht => by rcases hT i ht with h1 | h1; exact hS h1; omega)).trans (h.block i hi hS)⟩
theorem Keeps.more (h : Keeps S w w1) (hS : ∀ i ∈ S, i ∈ T ∨ w.heap.size ≤ i) : Keeps T w w1 := (Keeps.refl T w).trans h hS
theorem Keeps.of_below (h : Below w.heap.size w w1) : Keeps S w w1 := ⟨h.os, h.tape, h.output, h.size, fun k hk _ => h.block k hk⟩
theorem Keeps.below {base : Nat} {w0 : World} (h : Below base w0 w) (k : Keeps S w w1) (hS : ∀ i ∈ S, base ≤ i) (hb : base ≤ w0.heap.size) : Below base w0 w1 :=
  ⟨k.os.trans h.os, k.tape.trans h.tape, k.output.trans h.output, Nat.le_trans h.size k.size, fun i hi =>
    (k.block i (by have := h.size; omega) (fun hi2 => by have := hS i hi2; omega)).trans (h.block i hi)⟩
theorem Keeps.set (h : Keeps S w w1) {p : Addr} (hp : p.block ∈ S ∨ w.heap.size ≤ p.block) (u : Value) : Keeps S w (w1.setCell p u) :=
  ⟨h.os, h.tape, h.output, by rw [show (w1.setCell p u).heap.size = w1.heap.size by simp [World.setCell]]; exact h.size, fun i hi hS => by
    rw [Below.heap_setCell w1 p u i (fun e => by rcases hp with hp | hp; exact hS (by rw [e]; exact hp); omega)]
    exact h.block i hi hS⟩
theorem Keeps.alloc (h : Keeps S w w1) (o : Obj) : Keeps S w (w1.alloc o) :=
  ⟨h.os, h.tape, h.output, by have := h.size; simp; omega, fun i hi hS => (Below.heap_alloc w1 o i (Nat.lt_of_lt_of_le hi h.size)).trans (h.block i hi hS)⟩
theorem Keeps.drew (h : Keeps S w w1) : Keeps S w w1.drew := ⟨h.os, h.tape, h.output, h.size, h.block⟩
theorem Keeps.drewN (h : Keeps S w w1) (n : Nat) : Keeps S w (w1.drewN n) := ⟨h.os, h.tape, h.output, h.size, h.block⟩
theorem Keeps.blk {g : Nat} {t : TypeId} {cs : List Value} (k : Keeps S w w1) (hb : Blk w g t cs) (hg : g ∉ S) : Blk w1 g t cs := (k.block g hb.lt hg).trans hb
theorem Keeps.rowI {B n c : Nat} {A : Option Addr} {l : List (Int × Int)} (k : Keeps S w w1) (h : RowI w B A n c l) (hB : B ≤ w.heap.size) (hS : ∀ i ∈ S, B ≤ i) : RowI w1 B A n c l :=
  h.keep (B' := B) ⟨k.os, k.tape, k.output, k.size, fun i hi => k.block i (by omega) (fun h => by have := hS i h; omega)⟩ (Nat.le_refl _)
end
/-- A depth as it stands in a state: 0 where none is known. -/
def dv (v : Int) : Int := if v < 0 then 0 else v
theorem dv_pos {v : Int} (h : 0 ≤ v) : dv v = v := by unfold dv; rw [if_neg (by omega)]
theorem dv_neg {v : Int} (h : v < 0) : dv v = 0 := if_pos h
/-- The cells of states, and of ways. -/
def csS (d : List Int) : List Value := d.flatMap fun v => [.bool (decide (0 ≤ v)), .int .i64 (dv v)]
def csG (g : List Int) : List Value := g.map (Value.int .i64)
theorem csS_cons (v : Int) (d : List Int) : csS (v :: d) = .bool (decide (0 ≤ v)) :: .int .i64 (dv v) :: csS d := rfl
theorem csS_len (d : List Int) : (csS d).length = d.length * 2 := by
  induction d with
  | nil => rfl
  | cons v d ih => rw [csS_cons, List.length_cons, List.length_cons, ih, List.length_cons]; omega
theorem csG_len (g : List Int) : (csG g).length = g.length := by simp [csG]
theorem csG_at {g : List Int} {t : Nat} (h : t < g.length) : (csG g)[t]? = some (.int .i64 (gd g t)) := by simp [csG, gd_lt h, h]
theorem csS_at {d : List Int} {t : Nat} (h : t < d.length) : (csS d)[t * 2]? = some (.bool (decide (0 ≤ gd d t))) ∧ (csS d)[t * 2 + 1]? = some (.int .i64 (dv (gd d t))) := by
  induction d generalizing t with
  | nil => simp at h
  | cons v d ih =>
    rw [csS_cons]
    cases t with
    | zero => exact ⟨rfl, rfl⟩
    | succ t =>
      have := ih (t := t) (by simpa using h)
      rw [show (t + 1) * 2 = t * 2 + 1 + 1 by omega]
      have e : gd (v :: d) (t + 1) = gd d t := by simp [gd]
      rw [e]
      simpa using this
theorem csG_set (g : List Int) (t : Nat) (v : Int) : (csG g).set t (.int .i64 v) = csG (g.set t v) := by simp [csG, List.map_set]
theorem csS_set {d : List Int} {t : Nat} (h : t < d.length) {v : Int} (hv : 0 ≤ v) : ((csS d).set (t * 2) (.bool true)).set (t * 2 + 1) (.int .i64 v) = csS (d.set t v) := by
  induction d generalizing t with
  | nil => simp at h
  | cons u d ih =>
    rw [csS_cons]
    cases t with
    | zero => simp [csS_cons, hv, dv_pos hv]
    | succ t =>
      have := ih (t := t) (by simpa using h)
      rw [show (t + 1) * 2 = t * 2 + 1 + 1 by omega]
      simp only [List.set_cons_succ, csS_cons, this]
theorem ini_len (n : Nat) : (ini n).length = n + 1 := by simp [ini]
theorem zer_len (n : Nat) : (zer n).length = n + 1 := by simp [zer]
/-- The program's states in block g, its longest ways in block h. -/
structure St (w : World) (g h : Nat) (d gs : List Int) : Prop where
  ne : g ≠ h
  s : Blk w g 108 (csS d)
  l : Blk w h 3 (csG gs)
theorem Keeps.st {S : List Nat} {w w1 : World} {g h : Nat} {d gs : List Int} (k : Keeps S w w1) (f : St w g h d gs) (hg : g ∉ S) (hh : h ∉ S) : St w1 g h d gs := ⟨f.ne, k.blk f.s hg, k.blk f.l hh⟩

theorem infoInt : (Tryz.prog.info? 3).map (fun i => (i.zero, i.size, i.bytes)) = some (some (.int .i64 0), 1, 8) := by kernel_rfl
theorem infoSt : (Tryz.prog.info? 108).map (fun i => (i.zero, i.size, i.bytes)) = some (some (.agg #[.bool false, .int .i64 0]), 2, 16) := by kernel_rfl
/-- The targets of an instruction, as they stand in memory. -/
def csN (ts : List Nat) : List Value := ts.map fun (t : Nat) => Value.int .i64 (t : Int)
def Outs (w : World) (ts : List Nat) (e : Ending) (w' : World) : Prop := ∃ g, e = .returned (.slice (some ⟨g, 0, none⟩) ts.length ts.length) ∧ w.heap.size ≤ g ∧ Blk w' g 3 (csN ts) ∧ Below w.heap.size w w'
theorem csN_at {ts : List Nat} {j : Nat} (h : j < ts.length) : (csN ts)[j]? = some (.int .i64 (ts[j] : Int)) := by simp [csN, h]
theorem max_run (a b : Int) : ∀ ts t (W : World), (Builtin.max_ ts t #[.int .i64 a, .int .i64 b]).run Tryz.prog W = .ok (.int .i64 (max a b)) W := by
  intro ts t W
  have e : (if a < b then b else a) = max a b := by rw [Int.max_def]; split <;> split <;> omega
  rw [← e]
  simp [Builtin.max_, Builtin.max2]
end Go.Proofs.YtdikiabjkmigdaaGreatDoor
