/-
  Memory: a journal that lies in two blocks, on a flash that lies in two others (the program's and the reference's).
-/
import Derived.Test.YtahnfkoakaimhaaJPkg4
namespace Go.Proofs.Ytahnfkoakaimhaa
open Go.RowKit

/-- A journal in plain words: its last record, that one's number, and whether it is at its end. -/
structure JS where
  rcd : List UInt32
  num : Nat
  dead : Bool
/-- What a flash with these words tells at sector k. -/
def opJ (ws : List UInt32) (k : Nat) : JS := ⟨(curV ws k).rcd, (curV ws k).num, false⟩
def JS.Good (j : JS) : Prop := (j.rcd = [] ∧ j.num = 0) ∨ okR j.num j.rcd
theorem JS.Good.lo {j : JS} (h : j.Good) (h0 : j.num ≠ 0) : 1 ≤ j.rcd.length := by
  rcases h with h | h
  · exact absurd h.2 h0
  · exact h.2.2.1
theorem JS.Good.hi {j : JS} (h : j.Good) : j.rcd.length ≤ 64 := by
  rcases h with h | h
  · rw [h.1]; exact Nat.zero_le _
  · exact h.2.2.2
theorem JS.Good.le {j : JS} (h : j.Good) : j.num ≤ 2147483647 := by
  rcases h with h | h
  · omega
  · exact h.2.1
theorem opJ_good (ws : List UInt32) (k : Nat) : (opJ ws k).Good := by
  rcases walk_good (sect ws (curN ws k)) with h | h
  · left; show (curV ws k).rcd = [] ∧ (curV ws k).num = 0; unfold curV; rw [h]; exact ⟨rfl, rfl⟩
  · exact .inr h
def jrC (gf cur oth : Nat) (A : Option Addr) (n c num used : Nat) (cl dead : Bool) : List Value :=
  [.pointer (some ⟨gf, 0, none⟩), .int .i64 (cur : Int), .int .i64 (oth : Int), .slice A n c, .int .u32 (num : Int), .int .i64 (used : Int), .bool cl, .bool dead]
/-- The program's journal j lies in blocks gj and hj, on the flash in gf; the flash has the words ws. -/
structure Jr (w : World) (gj hj gf k : Nat) (ws : List UInt32) (j : JS) : Prop where
  good : j.Good
  ne : gj ≠ hj
  ex : ∃ cur oth A n c used cl, Blk w gj 66 (jrC gf cur oth A n c j.num used cl j.dead) ∧ w.ownsRow 0 37 1 (.slice A n c) n (cs32 j.rcd) ∧ (∀ g, A = some ⟨g, 0, none⟩ → g = hj) ∧
    (j.dead = false → cur = curN ws k ∧ oth = othN ws k ∧ used = (curV ws k).used ∧ cl = curC ws k ∧ j.num = (curV ws k).num ∧ j.rcd = (curV ws k).rcd)
section
variable {S : List Nat} {w w1 : World} {gj hj gf k : Nat} {ws : List UInt32} {j : JS}
theorem Jr.lt (h : Jr w gj hj gf k ws j) : gj < w.heap.size := by obtain ⟨_, _, _, _, _, _, _, hb, _⟩ := h.ex; exact hb.lt
theorem Keeps.jr (q : Keeps S w w1) (h : Jr w gj hj gf k ws j) (h1 : gj ∉ S) (h2 : hj ∉ S) : Jr w1 gj hj gf k ws j := by
  obtain ⟨cur, oth, A, n, c, used, cl, hb, ho, hA, hl⟩ := h.ex
  exact ⟨h.good, h.ne, cur, oth, A, n, c, used, cl, q.blk hb h1, q.own ho (fun g e => by rw [hA g e]; exact h2), hA, hl⟩
end
def rjC (gf k : Nat) (A : Option Addr) (n c num : Nat) (dead : Bool) : List Value :=
  [.pointer (some ⟨gf, 0, none⟩), .int .i64 (k : Int), .bool dead, .slice A n c, .int .u32 (num : Int)]
/-- The reference's. -/
structure Rj (w : World) (gj hj gf k : Nat) (ws : List UInt32) (j : JS) : Prop where
  good : j.Good
  ne : gj ≠ hj
  ex : ∃ A n c, Blk w gj 54 (rjC gf k A n c j.num j.dead) ∧ w.ownsRow 0 37 1 (.slice A n c) n (cs32 j.rcd) ∧ (∀ g, A = some ⟨g, 0, none⟩ → g = hj) ∧
    (j.dead = false → j.num = (curV ws k).num ∧ j.rcd = (curV ws k).rcd)
section
variable {S : List Nat} {w w1 : World} {gj hj gf k : Nat} {ws : List UInt32} {j : JS}
theorem Rj.lt (h : Rj w gj hj gf k ws j) : gj < w.heap.size := by obtain ⟨_, _, _, hb, _⟩ := h.ex; exact hb.lt
theorem Keeps.rj (q : Keeps S w w1) (h : Rj w gj hj gf k ws j) (h1 : gj ∉ S) (h2 : hj ∉ S) : Rj w1 gj hj gf k ws j := by
  obtain ⟨A, n, c, hb, ho, hA, hl⟩ := h.ex
  exact ⟨h.good, h.ne, A, n, c, q.blk hb h1, q.own ho (fun g e => by rw [hA g e]; exact h2), hA, hl⟩
end
/-- A slice that reads, and does not lie in the blocks that are changed, reads on. -/
theorem Keeps.rowAt {S : List Nat} {w w1 : World} {B n c : Nat} {A : Option Addr} {xs : List Value} (k : Keeps S w w1) (h : Row w B A n c xs) (hB : B ≤ w.heap.size) (hS : ∀ a, A = some a → a.block ∉ S) : Row w1 B A n c xs :=
  ⟨h.len, h.cap, h.max, h.nil, fun hn => by
    obtain ⟨b, o, e, hlt, hc⟩ := h.cells hn
    exact ⟨b, o, e, hlt, fun j u hu => (World.cell?_of_block (w := w) (a := ⟨b, o + j, none⟩) (k.block b (by omega) (hS _ e))).trans (hc j u hu)⟩⟩
theorem own_row {w : World} {base n c : Nat} {e : TypeId} {A : Option Addr} {xs : List Value} (h : w.ownsRow base e 1 (.slice A n c) n xs) : Row w w.heap.size A n c xs := Row.of_own h
theorem own_addr {w : World} {base n c : Nat} {e : TypeId} {A : Option Addr} {xs : List Value} (h : w.ownsRow base e 1 (.slice A n c) n xs) : A = none ∨ ∃ g, A = some ⟨g, 0, none⟩ ∧ base ≤ g ∧ g < w.heap.size := by
  rcases h.2 with ⟨hv, _⟩ | ⟨g, cap, cur, hv, hb, hg, _⟩
  · left; simpa using (show A = none by simp at hv; exact hv.1)
  · right; refine ⟨g, by simp at hv; exact hv.1, hb, (Array.getElem?_eq_some_iff.1 hg).1⟩
end Go.Proofs.Ytahnfkoakaimhaa
