/-
  Contracts of the reference of layer 2 (midstreamref02): Lent, Kept, Spoil, Same.
-/
import Derived.Test.YtdikiabjkmigdaaGreatDoorORef4
import Derived.Maps.AppendAt
namespace Go.Proofs.YtdikiabjkmigdaaGreatDoor
set_option maxRecDepth 20000
open Go.RowKit
set_option maxHeartbeats 400000

theorem own_some {w : World} {base : Nat} {e : TypeId} {A : Option Addr} {n c : Nat} {xs : List Value} (h : w.ownsRow base e 1 (.slice A n c) n xs) (hn : 0 < n) : ∃ g, A = some ⟨g, 0, none⟩ := by
  rcases h.2 with ⟨_, rfl⟩ | ⟨g, cap, cur, hv, _⟩
  · omega
  · exact ⟨g, by injection hv⟩
theorem own_cap {w : World} {base : Nat} {e : TypeId} {A : Option Addr} {n c : Nat} {xs : List Value} (h : w.ownsRow base e 1 (.slice A n c) n xs) : n ≤ c := (Row.of_own h).cap
theorem head_same (g n c h : Nat) (hh : h ≤ c) (H : Int) (hH : H = h) (W : World) :
    (Instr.slice 29 (.slice (some ⟨g, 0, none⟩) n c) none (some (.int .i64 H)) none).run Tryz.prog W = .ok (.slice (some ⟨g, 0, none⟩) h c) W := by
  subst hH
  have he : Tryz.prog.elem 29 = 5 := by simp [Program.elem, Tryz.underlying29]
  have hs : ∀ W, (Go.sizeOf 5).run Tryz.prog W = .ok 1 W := by
    intro W
    obtain ⟨i, hi, h1⟩ := Option.map_eq_some_iff.1 size8
    simp [sizeOf, typeInfo, hi, h1]
  rw [run_slice_h W 29 _ n c (by rw [he]; exact Tryz.underlying29) .i64 h (by omega) (by omega), he, hs]
  simp [Result.andThen, Go.sliced, Addr.add]
def LentPost (w : World) (n : Nat) (l : List UInt8) (e : Ending) (w' : World) : Prop :=
  ∃ g c, e = .returned (.slice (some ⟨g, 0, none⟩) n c) ∧ w'.ownsRow w.heap.size 5 1 (.slice (some ⟨g, 0, none⟩) (n + 1) c) (n + 1) (cs8 (l ++ [77])) ∧ Below w.heap.size w w'
def u8s (zs : List Int) : List Value := zs.map (Value.int .u8)
theorem u8s_at {zs : List Int} {j : Nat} (h : j < zs.length) : (u8s zs)[j]? = some (.int .u8 zs[j]) := by simp [u8s, h]
theorem cs8_u8s (l : List UInt8) : cs8 l = u8s (l.map fun c => (c.toNat : Int)) := by simp [cs8, u8s]
theorem u8s_set (zs : List Int) (j : Nat) (x : Int) : (u8s zs).set j (.int .u8 x) = u8s (zs.set j x) := by simp [u8s, List.map_set]
theorem grown_trans {w w1 w2 : World} {row : Option Nat} (h : w.grownBy w1 row) (k : w1.grownBy w2 row) : w.grownBy w2 row :=
  ⟨k.os.trans h.os, k.tape.trans h.tape, k.output.trans h.output, Nat.le_trans h.size k.size, fun i hi hne => (k.block i (Nat.lt_of_lt_of_le hi h.size) hne).trans (h.block i hi hne)⟩
theorem grown_new {w w1 : World} {row : Option Nat} (h : w.grownBy w1 row) {p : Addr} (hp : w.heap.size ≤ p.block ∨ row = some p.block) (u : Value) : w.grownBy (w1.setCell p u) row :=
  ⟨h.os, h.tape, h.output, by rw [show (w1.setCell p u).heap.size = w1.heap.size by simp [World.setCell]]; exact h.size, fun i hi hne => by
    rw [Below.heap_setCell w1 p u i (fun e => by
      rcases hp with hp | hp
      · omega
      · exact hne (by rw [hp, e]))]
    exact h.block i hi hne⟩
theorem wpList_append_at {P : Program} {w : World} {ops : Array Oper} {rest : List Oper} {o : Oper} {a : Act} {Q : Exit → Act → World → Prop} (hgd : o.guard = none) (s x : Operand) (t : TypeId)
    (ho : o.op = .call { callee := .builtin .append, args := #[s, x], argTypes := #[t, t] })
    (base : Nat) (e : TypeId) (i : TypeInfo) (z : Value) (bytes : Nat) (ht : P.underlying t = some (.slice e)) (hi : P.info? e = some i) (hz : i.zero = some z)
    (hsize : i.size = 1) (hby : i.bytes = bytes) (hzs : z.cells.size = 1) (v : Value) (n : Nat) (xs : List Value) (hs : a.eval s = v) (hown : w.ownsRow base e 1 v n xs)
    (ad : Addr) (m c : Nat) (news : List Value) (hx : a.eval x = .slice (some ad) m c) (hl : news.length = m * 1) (hc : ∀ j u, news[j]? = some u → w.cell? (ad.add j) = some u) (h1 : ∀ u ∈ news, u.oneCell' = true)
    (h63 : n + m ≤ maxLen) (hbytes : (n + m) * bytes ≤ 140737488355328) (hbase : base ≤ w.heap.size) (hpos : 0 < n + m)
    (h : ∀ g c' w', w'.ownsRow base e 1 (.slice (some ⟨g, 0, none⟩) (n + m) c') (n + m) (xs ++ news) → w.grownBy w' v.ownBlock → (v.ownBlock = some g ∨ g = w.heap.size) → wpList P ops Q rest (a.put o.dst (.slice (some ⟨g, 0, none⟩) (n + m) c')) w') : wpList P ops Q (o :: rest) a w := by
  obtain ⟨v', w', hrun, h2, h3, _, h5⟩ := run_append_own_at (P := P) w base t o.type e i z 1 bytes ht hi hz hsize hby hzs (by omega) v n xs hown ad m c news hl hc h1 h63 hbytes hbase
  obtain ⟨A', c', rfl⟩ := own_shape h2
  obtain ⟨g, rfl⟩ := own_some h2 hpos
  refine wpList_plain hgd fun K hK => ?_
  unfold Oper.wp
  simp [execOp, ho, resolve, invoke, builtin, hs, hx, hrun, Result.andThen]
  refine hK _ _ (h g c' w' h2 h3 ?_)
  rcases h5 with h5 | h5
  · exact .inl h5.symm
  · exact .inr (by simpa [Value.ownBlock] using h5)
theorem cell_one (w : World) (u : Value) (e : TypeId) : ∀ j v, [u][j]? = some v → (w.alloc (.cells #[u] e)).cell? ((⟨w.heap.size, 0, none⟩ : Addr).add j) = some v := by
  intro j v hv
  match j, hv with
  | 0, hv => simp at hv; subst hv; simp [Addr.add]
theorem own_apart {w w' : World} {base g : Nat} {e : TypeId} {v u : Value} {n : Nat} {xs : List Value} (h : w.ownsRow base e 1 v n xs) (hg : w.grownBy w' u.ownBlock) (hu : ∀ k, u.ownBlock = some k → k < g) (hb : g ≤ base) : w'.ownsRow base e 1 v n xs :=
  h.kept hg (by
    cases hv : v.ownBlock with
    | none => exact .inl rfl
    | some k =>
      refine .inr fun he => ?_
      have h1 := (h.lt k hv).1
      have h2 := hu k he.symm
      omega)
theorem grown_below {w w' : World} {base : Nat} {e : TypeId} {v : Value} {n : Nat} {xs : List Value} (hg : w.grownBy w' v.ownBlock) (h : w.ownsRow base e 1 v n xs) (hb : base ≤ w.heap.size) : Below base w w' :=
  (Below.refl _ _).grown hg hb fun k hk => (h.lt k hk).1

def Drew (b : Bool) (w : World) (e : Ending) (w' : World) : Prop := ∃ k, e = .returned (.bool b) ∧ w' = w.drewN k
end Go.Proofs.YtdikiabjkmigdaaGreatDoor
