/-
  Memory: a block that holds an array whole; loads and stores of whole arrays; results that lie in a block. No program stands in this file.
-/
import Derived.Test.YtdikiabjkmigdaaGreatDoorOLent
import Derived.Test.YtdikiabjkmigdaaGreatDoorSMath
import Derived.Laws.Rows
import Derived.Laws.Tables
import Derived.Laws.ResultCell
import Derived.Laws.NewBlocks
import Derived.Deep.RegionLaw
import Derived.BigRegion
namespace Go.Proofs.YtdikiabjkmigdaaGreatDoor
set_option maxRecDepth 20000
open Go.RowKit

/-- Block g holds just these cells, and may be written. -/
def Blk (w : World) (g : Nat) (t : TypeId) (cs : List Value) : Prop := w.heap[g]? = some (.cells cs.toArray t (0, 0))
section
variable {w w' : World} {g h j B : Nat} {t : TypeId} {cs : List Value}
theorem Blk.lt (hb : Blk w g t cs) : g < w.heap.size := (Array.getElem?_eq_some_iff.1 hb).1
theorem Blk.cell (hb : Blk w g t cs) {v : Value} (hv : cs[j]? = some v) : w.cell? ⟨g, j, none⟩ = some v := by
  rw [cell_of_row w g j _ t (0, 0) hb]; simpa using hv
theorem Blk.frozen (hb : Blk w g t cs) (j : Nat) : w.frozen? ⟨g, j, none⟩ = false := frozen_of_row w g j _ t hb
theorem Blk.set (hb : Blk w g t cs) (j : Nat) (v : Value) : Blk (w.setCell ⟨g, j, none⟩ v) g t (cs.set j v) := by
  unfold Blk
  rw [heap_setCell_same w g j _ t v hb]
  simp
theorem Blk.other (hb : Blk w g t cs) (hne : g ≠ h) (j : Nat) (v : Value) : Blk (w.setCell ⟨h, j, none⟩ v) g t cs := by
  unfold Blk
  rw [heap_setCell_other w ⟨h, j, none⟩ g v hne]
  exact hb
theorem Blk.keep (hb : Blk w g t cs) (hk : Below B w w') (hg : g < B) : Blk w' g t cs := (hk.block g hg).trans hb
theorem Blk.alloc (hb : Blk w g t cs) (o : Obj) : Blk (w.alloc o) g t cs := (Below.heap_alloc w o g hb.lt).trans hb
theorem Blk.new (w : World) (t : TypeId) (cs : List Value) : Blk (w.alloc (.cells cs.toArray t (0, 0))) w.heap.size t cs := heap_alloc_new w _
theorem Blk.at (w : World) (t : TypeId) (cs : List Value) {g : Nat} (hg : g = w.heap.size) : Blk (w.alloc (.cells cs.toArray t (0, 0))) g t cs := by subst hg; exact Blk.new w t cs
theorem Blk.drew (hb : Blk w g t cs) : Blk w.drew g t cs := hb
theorem Blk.row (hb : Blk w g t cs) (cs' : List Value) : Blk (w.setRow g cs'.toArray) g t cs' := setRow_heap w g _ _ t (0, 0) hb
theorem Blk.rowOther (hb : Blk w g t cs) (hne : g ≠ h) (xs : Array Value) : Blk (w.setRow h xs) g t cs := (setRow_other w h g xs hne).trans hb
end
theorem below_setRow {B : Nat} {a w : World} (h : Below B a w) {g : Nat} (hg : B ≤ g) (cs : Array Value) : Below B a (w.setRow g cs) :=
  h.trans ⟨rfl, rfl, rfl, by simp, fun k hk => setRow_other _ _ _ _ (by omega)⟩
section
variable {P : Program}
theorem wpList_loadB {ops : Array Oper} {rest : List Oper} {o : Oper} {a : Act} {w : World} {Q : Exit → Act → World → Prop} (hgd : o.guard = none) (ty : TypeId) (x : Operand) (ho : o.op = .load ty x)
    (g : Nat) (hx : a.eval x = .pointer (some ⟨g, 0, none⟩)) (t : TypeId) (cs : List Value) (hg : Blk w g t cs) (m : Nat) (e : TypeId)
    (hu : P.underlying ty = some (.array m e)) (hi : (P.info? ty).map (·.size) = some m) (hl : cs.length = m)
    (h : wpList P ops Q rest (a.put o.dst (.agg cs.toArray)) w) : wpList P ops Q (o :: rest) a w :=
  wpList_load_row hgd ty x ho g hx t cs.toArray (0, 0) (.array m e) hg hu rfl (by simpa [hl] using hi) h
theorem wpList_storeB {ops : Array Oper} {rest : List Oper} {o : Oper} {a : Act} {w : World} {Q : Exit → Act → World → Prop} (hgd : o.guard = none) (ty : TypeId) (x y : Operand) (ho : o.op = .store ty x y)
    (g : Nat) (cs : List Value) (hx : a.eval x = .pointer (some ⟨g, 0, none⟩)) (hy : a.eval y = .agg cs.toArray) (t : TypeId) (old : List Value) (hg : Blk w g t old) (m : Nat)
    (hi : (P.info? ty).map (·.size) = some m) (hl : cs.length = m) (ho2 : old.length = m) (h1 : ∀ v ∈ cs, v.oneCell' = true)
    (h : wpList P ops Q rest (a.put o.dst undef) (w.setRow g cs.toArray)) : wpList P ops Q (o :: rest) a w :=
  wpList_store_row hgd ty x y ho g cs.toArray hx hy t old.toArray hg (by simpa [hl] using hi) (by simp [hl, ho2]) (Array.all_eq_true_iff_forall_mem.2 (fun v hv => h1 v (by simpa using hv))) h
/-- 'out = append(out, xs...)' as one step of a region that draws. -/
theorem step_append_row {w : World} {ops : Array Oper} {o : Oper} {a : Act} {K : Act → World → Prop} {Q : Exit → Act → World → Prop} {E : Prop} (hgd : o.guard = none) (s x : Operand) (t : TypeId)
    (ho : o.op = .call { callee := .builtin .append, args := #[s, x], argTypes := #[t, t] })
    (base : Nat) (e : TypeId) (i : TypeInfo) (z : Value) (bytes : Nat) (ht : P.underlying t = some (.slice e)) (hi : P.info? e = some i) (hz : i.zero = some z)
    (hsize : i.size = 1) (hby : i.bytes = bytes) (hzs : z.cells.size = 1) (v : Value) (n : Nat) (xs : List Value) (hs : a.eval s = v) (hown : w.ownsRow base e 1 v n xs)
    (B : Nat) (A : Option Addr) (m c : Nat) (news : List Value) (hx : a.eval x = .slice A m c) (hr : Row w B A m c news) (h1 : ∀ u ∈ news, u.oneCell' = true)
    (h63 : n + m ≤ maxLen) (hbytes : (n + m) * bytes ≤ 140737488355328) (w0 : World) (hb : Below base w0 w) (hbase : base ≤ w0.heap.size)
    (h : ∀ A' c' w', w'.ownsRow base e 1 (.slice A' (n + m) c') (n + m) (xs ++ news) → Below base w0 w' → w.grownBy w' v.ownBlock → K (a.put o.dst (.slice A' (n + m) c')) w') :
    if Region.wanted o (yielded ops a.tmps) = true then Oper.wp P o a w K Q else E := by
  have hw : Region.wanted o (yielded ops a.tmps) = true := by simp [Region.wanted, hgd]
  rw [if_pos hw]
  have hbs : base ≤ w.heap.size := Nat.le_trans hbase hb.size
  obtain ⟨A', c', w', hrun, h2, h3⟩ := run_append_row (P := P) w base t o.type e i z bytes ht hi hz hsize hby hzs v n xs hown B A m c news hr h1 h63 hbytes hbs
  unfold Oper.wp
  simp [execOp, ho, resolve, invoke, builtin, hs, hx, hrun, Result.andThen]
  exact h A' c' w' h2 (hb.grown h3 hbs fun k hk => (hown.lt k hk).1) h3
theorem ret_cell {fn : Func} {R : Ending → World → Prop} {a : Act} {w : World} {p : Tmp} {ty t e : TypeId} {g m : Nat} {cs : List Value} (h : fn.results = #[.cell p ty])
    (hu : P.underlying ty = some (.array m e)) (hi : (P.info? ty).map (·.size) = some m) (hp : a.tmps.getD p undef = .pointer (some ⟨g, 0, none⟩)) (hb : Blk w g t cs) (hl : cs.length = m) (hd : a.defers = [])
    (hR : R (.returned (.agg cs.toArray)) w) : bodyPost P fn R .ret a w :=
  bodyPost_ret_by (results_cell_row h a.tmps w g t cs.toArray (0, 0) (.array m e) hp hb hu rfl (by simpa [hl] using hi)) hd hR
theorem ret_cell2 {fn : Func} {R : Ending → World → Prop} {a : Act} {w : World} {p u : Tmp} {ty t e : TypeId} {g m : Nat} {cs : List Value} {v : Value} (h : fn.results = #[.cell p ty, .tmp u])
    (hu : P.underlying ty = some (.array m e)) (hi : (P.info? ty).map (·.size) = some m) (hp : a.tmps.getD p undef = .pointer (some ⟨g, 0, none⟩)) (hv : a.tmps.getD u undef = v) (hb : Blk w g t cs) (hl : cs.length = m) (hd : a.defers = [])
    (hR : R (.returned (.tuple #[.agg cs.toArray, v])) w) : bodyPost P fn R .ret a w := by
  refine bodyPost_ret_by (v := .tuple #[.agg cs.toArray, v]) ?_ hd hR
  rw [results_cell_tmp h]
  have := run_loadVar_row (P := P) w g t ty cs.toArray (0, 0) (.array m e) hb hu rfl (by simpa [hl] using hi)
  simp only [hp, hv, asAddr]
  simp [this, Result.andThen]
end
/-- An element of an array value. -/
theorem run_indexA {P : Program} (w : World) (t e : TypeId) (m j : Nat) (cs : List Value) (v : Value) (hu : P.underlying t = some (.array m e)) (hz : (P.info? e).map (·.size) = some 1) (d : TypeDesc) (hd : P.underlying e = some d) (hd2 : (match d with | .struct _ | .array _ _ => true | _ => false) = false) (hj : j < m) (hv : cs[j]? = some v) :
    (Instr.index t (.agg cs.toArray) (.int .i64 (j : Int))).run P w = .ok v w := by
  obtain ⟨i, hi, h1⟩ := Option.map_eq_some_iff.1 hz
  have hagg : (isAgg e).run P w = .ok false w := by
    unfold isAgg
    rw [Sem.run_bind, run_underlying hd w]
    cases d <;> simp_all
  have hs : (Go.sizeOf e).run P w = .ok 1 w := by simp [sizeOf, typeInfo, hi, h1]
  simp [Instr.index, asIntOf, run_underlying hu, hj, hs, part, hagg, hv, Result.andThen]
theorem size8w : (Tryz.prog.info? 115).map (·.size) = some 8 := by kernel_rfl
theorem at8w (w : World) (l : List UInt32) (hl : l.length = 8) (j : Nat) (hj : j < l.length) : (Instr.index 115 (.agg (cs32 l).toArray) (.int .i64 (j : Int))).run Tryz.prog w = .ok (.int .u32 (l[j].toNat : Int)) w :=
  run_indexA w _ 22 8 j _ _ Tryz.underlying115 (by kernel_rfl) _ Tryz.underlying22 rfl (by omega) (cs32_at hj)
theorem at64w (w : World) (l : List UInt32) (hl : l.length = 64) (j : Nat) (hj : j < l.length) : (Instr.index 135 (.agg (cs32 l).toArray) (.int .i64 (j : Int))).run Tryz.prog w = .ok (.int .u32 (l[j].toNat : Int)) w :=
  run_indexA w _ 22 64 j _ _ Tryz.underlying135 (by kernel_rfl) _ Tryz.underlying22 rfl (by omega) (cs32_at hj)
theorem at32b (w : World) (l : List UInt8) (hl : l.length = 32) (j : Nat) (hj : j < l.length) : (Instr.index 49 (.agg (cs8 l).toArray) (.int .i64 (j : Int))).run Tryz.prog w = .ok (.int .u8 (l[j].toNat : Int)) w :=
  run_indexA w _ 5 32 j _ _ Tryz.underlying49 (by kernel_rfl) _ Tryz.underlying5 rfl (by omega) (cs8_at hj)
theorem size64w : (Tryz.prog.info? 135).map (·.size) = some 64 := by kernel_rfl
theorem size32b : (Tryz.prog.info? 49).map (·.size) = some 32 := by kernel_rfl
theorem nth_at {l : List UInt32} {j : Nat} (h : j < l.length) : l[j] = nth l j := by
  unfold nth; rw [List.getD_eq_getElem?_getD, List.getElem?_eq_getElem h]; rfl
theorem own_drew {w : World} {base : Nat} {e : TypeId} {v : Value} {n : Nat} {xs : List Value} (h : w.ownsRow base e 1 v n xs) : w.drew.ownsRow base e 1 v n xs := h
theorem Row.of_drew {w : World} {B n c : Nat} {A : Option Addr} {xs : List Value} (h : Row w B A n c xs) : Row w.drew B A n c xs := h.keep (Below.refl B w).drew (Nat.le_refl _)
theorem cs8_set (l : List UInt8) (j : Nat) (c : UInt8) : (cs8 l).set j (.int .u8 (c.toNat : Int)) = cs8 (l.set j c) := by simp [cs8, List.map_set]
theorem row_lit (w : World) (cs : Array Value) (e : TypeId) (fr : Nat × Nat) (n : Nat) (hn : cs.size = n) (hm : n ≤ maxLen) (xs : List Value) (hx : cs.toList = xs) :
    Row (w.alloc (.cells cs e fr)) (w.heap.size + 1) (some ⟨w.heap.size, 0, none⟩) n n xs :=
  ⟨by subst hx; simpa using hn, Nat.le_refl _, hm, (fun h => by cases h), fun _ => ⟨w.heap.size, 0, rfl, by omega, fun j v hv => by
    have e : (w.alloc (.cells cs e fr)).heap[w.heap.size]? = some (.cells cs e fr) := heap_alloc_new w _
    rw [Nat.zero_add, cell_of_row _ _ _ _ _ _ e]
    subst hx
    simpa using hv⟩⟩
theorem Blk.drewN {w : World} {g : Nat} {t : TypeId} {cs : List Value} (hb : Blk w g t cs) (n : Nat) : Blk (w.drewN n) g t cs := hb
-- words as numbers
theorem add_w (a b : UInt32) : IntKind.u32.wrap ((a.toNat : Int) + (b.toNat : Int)) = ((aU a b).toNat : Int) := by
  unfold aU; rw [UInt32.toNat_add]; simp [IntKind.wrap, IntKind.signed, IntKind.bits]
theorem xor_w (a b : UInt32) : bits .xor .u32 (a.toNat : Int) (b.toNat : Int) = ((xU a b).toNat : Int) := by
  rw [u32_xor_nat _ _ a.toNat_lt b.toNat_lt]; unfold xU; rw [UInt32.toNat_xor]
theorem and_w (a b : UInt32) : bits .and .u32 (a.toNat : Int) (b.toNat : Int) = ((nU a b).toNat : Int) := by
  rw [u32_and_nat _ _ a.toNat_lt b.toNat_lt]; unfold nU; rw [UInt32.toNat_and]
theorem or_w (a b : UInt32) : bits .or .u32 (a.toNat : Int) (b.toNat : Int) = ((oU a b).toNat : Int) := by
  rw [u32_or_nat _ _ a.toNat_lt b.toNat_lt]; unfold oU; rw [UInt32.toNat_or]
theorem iU_toNat (a : UInt32) : (iU a).toNat = 4294967295 - a.toNat := by
  unfold iU; rw [word_toNat]; have := a.toNat_lt; omega
theorem sU_toNat (n : Nat) (a : UInt32) : (sU n a).toNat = a.toNat / 2 ^ n := by
  unfold sU; rw [word_toNat]; exact Nat.mod_eq_of_lt (Nat.lt_of_le_of_lt (Nat.div_le_self _ _) a.toNat_lt)
end Go.Proofs.YtdikiabjkmigdaaGreatDoor
