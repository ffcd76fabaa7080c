/-
  Memory: a block that holds cells, what is kept outside some blocks, and a flash that lies in two blocks (the program's and the reference's).
-/
import Derived.Test.YtahnfkoakaimhaaChecked
import Derived.Test.YtahnfkoakaimhaaFMath
import Derived.Laws.CopyOwn
import Derived.Laws.Rows
import Derived.Laws.Tables
import Derived.Laws.ResultCell
import Derived.Laws.NewBlocks
import Derived.LoopTactic
import Derived.Maps.AppendAt
import Derived.Deep.RegionLaw
import Derived.Deep.RegionWith
import Derived.Deep.QuietTactic
import Derived.BigQuiet
import Derived.BigRegion
namespace Go.Proofs.Ytahnfkoakaimhaa
open Go.RowKit

theorem info32 : (Try.prog.info? 37).map (fun i => (i.zero, i.size, i.bytes)) = some (some (.int .u32 0), 1, 4) := by kernel_rfl
theorem size32 : (Try.prog.info? 37).map (·.size) = some 1 := by kernel_rfl
theorem ret_bool {a b : Bool} (h : a = b) : Ending.returned (.bool a) = .returned (.bool b) := by rw [h]
theorem ret_int {k : IntKind} {a b : Int} (h : a = b) : Ending.returned (.int k a) = .returned (.int k b) := by rw [h]
theorem one_u32 (n : Int) : ∀ u ∈ [Value.int .u32 n], u.oneCell' = true := by
  intro u hu; simp at hu; subst hu; rfl
theorem cs32_snoc (l : List UInt32) (c : UInt32) : cs32 (l ++ [c]) = cs32 l ++ [.int .u32 (c.toNat : Int)] := by simp [cs32]
theorem cs32_set (l : List UInt32) (j : Nat) (c : UInt32) : (cs32 l).set j (.int .u32 (c.toNat : Int)) = cs32 (l.set j c) := by simp [cs32, List.map_set]
theorem own32_len {w : World} {base : Nat} {e : TypeId} {v : Value} {n : Nat} {l : List UInt32} (h : w.ownsRow base e 1 v n (cs32 l)) : l.length = n := by
  have := h.1; rwa [cs32_len, Nat.mul_one] at this
theorem own_base {w : World} {base base' : Nat} {e : TypeId} {v : Value} {n : Nat} {xs : List Value} (hb : base' ≤ base) (h : w.ownsRow base e 1 v n xs) : w.ownsRow base' e 1 v n xs := by
  refine ⟨h.1, ?_⟩
  rcases h.2 with h2 | ⟨g, cap, cur, hv, hg, r⟩
  · exact .inl h2
  · exact .inr ⟨g, cap, cur, hv, Nat.le_trans hb hg, r⟩
theorem own_some {w : World} {base : Nat} {e : TypeId} {A : Option Addr} {n c : Nat} {xs : List Value} (h : w.ownsRow base e 1 (.slice A n c) n xs) (hn : 0 < n) : ∃ g, A = some ⟨g, 0, none⟩ := by
  rcases h.2 with ⟨_, rfl⟩ | ⟨g, cap, cur, hv, _⟩
  · omega
  · exact ⟨g, by injection hv⟩
theorem own_cap {w : World} {base : Nat} {e : TypeId} {A : Option Addr} {n c : Nat} {xs : List Value} (h : w.ownsRow base e 1 (.slice A n c) n xs) : n ≤ c := (Row.of_own h).cap
theorem grown_trans {w w1 w2 : World} {row : Option Nat} (h : w.grownBy w1 row) (k : w1.grownBy w2 row) : w.grownBy w2 row :=
  ⟨k.os.trans h.os, k.tape.trans h.tape, k.output.trans h.output, Nat.le_trans h.size k.size, fun i hi hne => (k.block i (Nat.lt_of_lt_of_le hi h.size) hne).trans (h.block i hi hne)⟩

/-- Block g holds just these cells, and may be written. -/
def Blk (w : World) (g : Nat) (t : TypeId) (cs : List Value) : Prop := w.heap[g]? = some (.cells cs.toArray t (0, 0))
section
variable {w w' : World} {g h j B : Nat} {t : TypeId} {cs : List Value}
theorem Blk.lt (hb : Blk w g t cs) : g < w.heap.size := (Array.getElem?_eq_some_iff.1 hb).1
theorem Blk.cell (hb : Blk w g t cs) {v : Value} (hv : cs[j]? = some v) : w.cell? ⟨g, j, none⟩ = some v := by
  rw [cell_of_row w g j _ t (0, 0) hb]; simpa using hv
theorem Blk.frozen (hb : Blk w g t cs) (j : Nat) : w.frozen? ⟨g, j, none⟩ = false := frozen_of_row w g j _ t hb
theorem Blk.set (hb : Blk w g t cs) (j : Nat) (v : Value) : Blk (w.setCell ⟨g, j, none⟩ v) g t (cs.set j v) := by
  unfold Blk
  rw [heap_setCell_same w g j _ t v hb]
  simp
theorem Blk.other (hb : Blk w g t cs) (hne : g ≠ h) (j : Nat) (v : Value) : Blk (w.setCell ⟨h, j, none⟩ v) g t cs := by
  unfold Blk
  rw [heap_setCell_other w ⟨h, j, none⟩ g v hne]
  exact hb
theorem Blk.keep (hb : Blk w g t cs) (hk : Below B w w') (hg : g < B) : Blk w' g t cs := (hk.block g hg).trans hb
theorem Blk.alloc (hb : Blk w g t cs) (o : Obj) : Blk (w.alloc o) g t cs := (Below.heap_alloc w o g hb.lt).trans hb
theorem Blk.new (w : World) (t : TypeId) (cs : List Value) : Blk (w.alloc (.cells cs.toArray t (0, 0))) w.heap.size t cs := heap_alloc_new w _
theorem Blk.at (w : World) (t : TypeId) (cs : List Value) {g : Nat} (hg : g = w.heap.size) : Blk (w.alloc (.cells cs.toArray t (0, 0))) g t cs := by subst hg; exact Blk.new w t cs
theorem Blk.drew (hb : Blk w g t cs) : Blk w.drew g t cs := hb
theorem Blk.drewN (hb : Blk w g t cs) (n : Nat) : Blk (w.drewN n) g t cs := hb
theorem Blk.row (hb : Blk w g t cs) (cs' : List Value) : Blk (w.setRow g cs'.toArray) g t cs' := setRow_heap w g _ _ t (0, 0) hb
theorem Blk.rowOther (hb : Blk w g t cs) (hne : g ≠ h) (xs : Array Value) : Blk (w.setRow h xs) g t cs := (setRow_other w h g xs hne).trans hb
end
/-- All blocks that were there, but for those of S, are as they were. -/
structure Keeps (S : List Nat) (w w' : World) : Prop where
  os : w'.os = w.os
  tape : w'.tape = w.tape
  output : w'.output = w.output
  size : w.heap.size ≤ w'.heap.size
  block : ∀ k, k < w.heap.size → k ∉ S → w'.heap[k]? = w.heap[k]?
section
variable {S T : List Nat} {w w1 w2 : World}
theorem Keeps.refl (S : List Nat) (w : World) : Keeps S w w := ⟨rfl, rfl, rfl, Nat.le_refl _, fun _ _ _ => rfl⟩
theorem Keeps.trans (h : Keeps S w w1) (k : Keeps T w1 w2) (hT : ∀ i ∈ T, i ∈ S ∨ w.heap.size ≤ i) : Keeps S w w2 :=
  ⟨k.os.trans h.os, k.tape.trans h.tape, k.output.trans h.output, Nat.le_trans h.size k.size, fun i hi hS =>
    (k.block i (Nat.lt_of_lt_of_le hi h.size) (fun ht => by rcases hT i ht with h1 | h1; exact hS h1; omega)).trans (h.block i hi hS)⟩
theorem Keeps.more (h : Keeps S w w1) (hS : ∀ i ∈ S, i ∈ T ∨ w.heap.size ≤ i) : Keeps T w w1 := (Keeps.refl T w).trans h hS
theorem Keeps.of_below (h : Below w.heap.size w w1) : Keeps S w w1 := ⟨h.os, h.tape, h.output, h.size, fun k hk _ => h.block k hk⟩
theorem Keeps.of_grown {g : Nat} (h : w.grownBy w1 (some g)) : Keeps [g] w w1 := ⟨h.os, h.tape, h.output, h.size, fun k hk hS => h.block k hk (fun e => hS (by injection e with e; simp [e]))⟩
theorem Keeps.below {base : Nat} {w0 : World} (h : Below base w0 w) (k : Keeps S w w1) (hS : ∀ i ∈ S, base ≤ i) (hb : base ≤ w0.heap.size) : Below base w0 w1 :=
  ⟨k.os.trans h.os, k.tape.trans h.tape, k.output.trans h.output, Nat.le_trans h.size k.size, fun i hi =>
    (k.block i (by have := h.size; omega) (fun hi2 => by have := hS i hi2; omega)).trans (h.block i hi)⟩
theorem Keeps.set (h : Keeps S w w1) {p : Addr} (hp : p.block ∈ S ∨ w.heap.size ≤ p.block) (u : Value) : Keeps S w (w1.setCell p u) :=
  ⟨h.os, h.tape, h.output, by rw [show (w1.setCell p u).heap.size = w1.heap.size by simp [World.setCell]]; exact h.size, fun i hi hS => by
    rw [Below.heap_setCell w1 p u i (fun e => by rcases hp with hp | hp; exact hS (by rw [e]; exact hp); omega)]
    exact h.block i hi hS⟩
theorem Keeps.alloc (h : Keeps S w w1) (o : Obj) : Keeps S w (w1.alloc o) :=
  ⟨h.os, h.tape, h.output, by have := h.size; simp; omega, fun i hi hS => (Below.heap_alloc w1 o i (Nat.lt_of_lt_of_le hi h.size)).trans (h.block i hi hS)⟩
theorem Keeps.drew (h : Keeps S w w1) : Keeps S w w1.drew := ⟨h.os, h.tape, h.output, h.size, h.block⟩
theorem Keeps.drewN (h : Keeps S w w1) (n : Nat) : Keeps S w (w1.drewN n) := ⟨h.os, h.tape, h.output, h.size, h.block⟩
theorem Keeps.blk {g : Nat} {t : TypeId} {cs : List Value} (k : Keeps S w w1) (hb : Blk w g t cs) (hg : g ∉ S) : Blk w1 g t cs := (k.block g hb.lt hg).trans hb
theorem Keeps.own {base n c : Nat} {e : TypeId} {A : Option Addr} {xs : List Value} (k : Keeps S w w1) (h : w.ownsRow base e 1 (.slice A n c) n xs) (hg : ∀ g, A = some ⟨g, 0, none⟩ → g ∉ S) : w1.ownsRow base e 1 (.slice A n c) n xs := by
  refine ⟨h.1, ?_⟩
  rcases h.2 with h2 | ⟨g, cap, cur, hv, hb, hh, r⟩
  · exact .inl h2
  · have hA : A = some ⟨g, 0, none⟩ := by injection hv
    exact .inr ⟨g, cap, cur, hv, hb, (k.block g (Array.getElem?_eq_some_iff.1 hh).1 (hg g hA)).trans hh, r⟩
theorem Keeps.row {B n c : Nat} {A : Option Addr} {xs : List Value} (k : Keeps S w w1) (h : Row w B A n c xs) (hB : B ≤ w.heap.size) (hS : ∀ i ∈ S, B ≤ i) : Row w1 B A n c xs :=
  h.keep (B' := B) ⟨k.os, k.tape, k.output, k.size, fun i hi => k.block i (by omega) (fun h => by have := hS i h; omega)⟩ (Nat.le_refl _)
end
theorem own_lt {w : World} {base h n c : Nat} {e : TypeId} {xs : List Value} (ho : w.ownsRow base e 1 (.slice (some ⟨h, 0, none⟩) n c) n xs) : h < w.heap.size := (ho.lt h rfl).2

/-- The cells of the program's flash, whose words lie in block h. -/
def flC (h c : Nat) (s : FS) : List Value :=
  [.slice (some ⟨h, 0, none⟩) s.ws.length c, .bool s.on, .int .i64 (s.ops : Int), .bool (planB s.plan), .int .i64 (leftN s.plan : Int), .int .u32 ((maskP s.plan).toNat : Int)]
/-- The program's flash s lies in blocks g and h. -/
structure Fl (w : World) (g h : Nat) (s : FS) : Prop where
  ok : s.Ok
  ne : g ≠ h
  ex : ∃ c, Blk w g 60 (flC h c s) ∧ w.ownsRow 0 37 1 (.slice (some ⟨h, 0, none⟩) s.ws.length c) s.ws.length (cs32 s.ws)
def planI : Option (Nat × UInt32) → Int
  | some (k, _) => k
  | none => -1
/-- The cells of the reference's flash. -/
def rfC (h c : Nat) (m : UInt32) (s : FS) : List Value :=
  [.slice (some ⟨h, 0, none⟩) s.ws.length c, .bool (!s.on), .int .i64 (planI s.plan), .int .u32 (m.toNat : Int), .int .i64 (s.ops : Int)]
structure Rf (w : World) (g h : Nat) (s : FS) : Prop where
  ok : s.Ok
  ne : g ≠ h
  ex : ∃ c m, (∀ k x, s.plan = some (k, x) → m = x) ∧ Blk w g 62 (rfC h c m s) ∧ w.ownsRow 0 37 1 (.slice (some ⟨h, 0, none⟩) s.ws.length c) s.ws.length (cs32 s.ws)
section
variable {S : List Nat} {w w1 : World} {g h : Nat} {s : FS}
theorem Fl.lt (f : Fl w g h s) : g < w.heap.size := by obtain ⟨c, hb, _⟩ := f.ex; exact hb.lt
theorem Fl.lt2 (f : Fl w g h s) : h < w.heap.size := by obtain ⟨c, _, ho⟩ := f.ex; exact own_lt ho
theorem Rf.lt (f : Rf w g h s) : g < w.heap.size := by obtain ⟨c, m, _, hb, _⟩ := f.ex; exact hb.lt
theorem Rf.lt2 (f : Rf w g h s) : h < w.heap.size := by obtain ⟨c, m, _, _, ho⟩ := f.ex; exact own_lt ho
theorem Keeps.fl (k : Keeps S w w1) (f : Fl w g h s) (hg : g ∉ S) (hh : h ∉ S) : Fl w1 g h s := by
  obtain ⟨c, hb, ho⟩ := f.ex
  exact ⟨f.ok, f.ne, c, k.blk hb hg, k.own ho (fun g' e => by injection e with e; injection e with e; subst e; exact hh)⟩
theorem Keeps.rf (k : Keeps S w w1) (f : Rf w g h s) (hg : g ∉ S) (hh : h ∉ S) : Rf w1 g h s := by
  obtain ⟨c, m, hm, hb, ho⟩ := f.ex
  exact ⟨f.ok, f.ne, c, m, hm, k.blk hb hg, k.own ho (fun g' e => by injection e with e; injection e with e; subst e; exact hh)⟩
end
def Ptr (g : Nat) : Value := .pointer (some ⟨g, 0, none⟩)
/-- An answer, the flash behind it, and nothing else changed. -/
def Does (w : World) (g h : Nat) (s' : FS) (v : Value) (e : Ending) (w' : World) : Prop := e = .returned v ∧ Fl w' g h s' ∧ Keeps [g, h] w w'
def DoesR (w : World) (g h : Nat) (s' : FS) (v : Value) (e : Ending) (w' : World) : Prop := e = .returned v ∧ Rf w' g h s' ∧ Keeps [g, h] w w'
/-- A new flash. -/
def Makes (w : World) (s' : FS) (e : Ending) (w' : World) : Prop := ∃ g h, e = .returned (.pointer (some ⟨g, 0, none⟩)) ∧ Fl w' g h s' ∧ Keeps [] w w' ∧ w.heap.size ≤ g ∧ w.heap.size ≤ h
/-- New words. -/
def Lays (w : World) (ws : List UInt32) (e : Ending) (w' : World) : Prop :=
  ∃ h c, e = .returned (.slice (some ⟨h, 0, none⟩) ws.length c) ∧ w'.ownsRow 0 37 1 (.slice (some ⟨h, 0, none⟩) ws.length c) ws.length (cs32 ws) ∧ Keeps [] w w' ∧ w.heap.size ≤ h
theorem and_w (a b : UInt32) : bits .and .u32 (a.toNat : Int) (b.toNat : Int) = ((nU a b).toNat : Int) := by
  rw [u32_and_nat _ _ a.toNat_lt b.toNat_lt]; unfold nU; rw [UInt32.toNat_and]
end Go.Proofs.Ytahnfkoakaimhaa
