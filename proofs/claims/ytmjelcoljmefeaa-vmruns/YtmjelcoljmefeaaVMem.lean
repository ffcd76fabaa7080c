/-
  Memory of a run: the machine in one block (nine fields), its slots, cells and outputs in a block each, its stack a row of its own (or nil); the code, old cells and inputs lie below.
-/
import Derived.Test.YtmjelcoljmefeaaVMath
import Derived.Test.YtmjelcoljmefeaaUMem
namespace Go.Proofs.Ytmjelcoljmefeaa
open Go.RowKit
set_option maxHeartbeats 400000

/-- The cells of 32-bit numbers. -/
def c32 (l : List Int) : List Value := l.map (Value.int .i32)
theorem c32_len (l : List Int) : (c32 l).length = l.length := by simp [c32]
theorem c32_app (l m : List Int) : c32 (l ++ m) = c32 l ++ c32 m := by simp [c32]
theorem c32_one (l : List Int) : ∀ u ∈ c32 l, u.oneCell' = true := by
  intro u hu; obtain ⟨_, _, rfl⟩ := List.mem_map.1 hu; rfl
theorem c32_at {l : List Int} {j : Nat} (h : j < l.length) : (c32 l)[j]? = some (.int .i32 (gd l j)) := by simp [c32, gd_lt h, h]
theorem c32_set (l : List Int) (j : Nat) (x : Int) : (c32 l).set j (.int .i32 x) = c32 (l.set j x) := by simp [c32, List.map_set]
theorem c32_take (l : List Int) (k : Nat) : c32 (l.take k) = (c32 l).take k := by simp [c32, List.map_take]
theorem infoN : (Try.prog.info? 21).map (fun i => (i.zero, i.size, i.bytes)) = some (some (.int .i32 0), 1, 4) := by kernel_rfl
theorem sizeN : (Try.prog.info? 21).map (·.size) = some 1 := by kernel_rfl

theorem own_other {w : World} {base n q : Nat} {e : TypeId} {v : Value} {xs : List Value} (h : w.ownsRow base e 1 v n xs) (hq : ∀ k, v.ownBlock = some k → k ≠ q) (j : Nat) (u : Value) : (w.setCell ⟨q, j, none⟩ u).ownsRow base e 1 v n xs := by
  refine ⟨h.1, ?_⟩
  rcases h.2 with h2 | ⟨g, cap, cur, rfl, hb, hg, r⟩
  · exact .inl h2
  · exact .inr ⟨g, cap, cur, rfl, hb, (heap_setCell_other w ⟨q, j, none⟩ g u (hq g rfl)).trans hg, r⟩
theorem own_head {w : World} {base g n c k : Nat} {e : TypeId} {xs : List Value} (h : w.ownsRow base e 1 (.slice (some ⟨g, 0, none⟩) n c) n xs) (hk : k ≤ n) : w.ownsRow base e 1 (.slice (some ⟨g, 0, none⟩) k c) k (xs.take k) := by
  have h1 := h.1
  refine ⟨by simp; omega, ?_⟩
  rcases h.2 with ⟨hv, _⟩ | ⟨g', cap, cur, hv, hb, hg, hnc, hcm, hcs, ht⟩
  · simp at hv
  · obtain ⟨rfl, rfl⟩ : g = g' ∧ c = cap := by simpa using hv
    refine .inr ⟨g, c, cur, rfl, hb, hg, by omega, hcm, hcs, ?_⟩
    rw [← ht, List.take_take]
    congr 1
    omega
theorem own_below {w w' : World} {B base n : Nat} {e : TypeId} {v : Value} {xs : List Value} (h : w.ownsRow base e 1 v n xs) (hb : Below B w w') (hB : w.heap.size ≤ B) : w'.ownsRow base e 1 v n xs := by
  refine ⟨h.1, ?_⟩
  rcases h.2 with h2 | ⟨g, cap, cur, rfl, hb', hg, r⟩
  · exact .inl h2
  · exact .inr ⟨g, cap, cur, rfl, hb', (hb.block g (Nat.lt_of_lt_of_le (Array.getElem?_eq_some_iff.1 hg).1 hB)).trans hg, r⟩

/-- Where a machine's things lie: its block, its slots, cells, outputs (blocks and lengths), the code, old cells, inputs (slices). -/
structure MP where
  g : Nat
  a : Nat
  b : Nat
  c : Nat
  na : Nat
  nb : Nat
  nc : Nat
  cA : Option Addr
  cn : Nat
  cc : Nat
  oA : Option Addr
  on : Nat
  oc : Nat
  iA : Option Addr
  ik : Nat
  ic : Nat
def macC (P : MP) (tA : Option Addr) (tn tc p u : Nat) : List Value :=
  [.slice P.cA P.cn P.cc, .slice P.oA P.on P.oc, .slice P.iA P.ik P.ic, .slice (some ⟨P.a, 0, none⟩) P.na P.na, .slice (some ⟨P.b, 0, none⟩) P.nb P.nb, .slice (some ⟨P.c, 0, none⟩) P.nc P.nc, .slice tA tn tc, .int .i64 (p : Int), .int .i64 (u : Int)]
structure Mac (w : World) (B : Nat) (P : MP) (l : List (Int × Int)) (old ins : List Int) (tA : Option Addr) (tn tc : Nat) (s : VS) (u : Nat) : Prop where
  m : Blk w P.g 62 (macC P tA tn tc s.p u)
  cl : RowI w B P.cA P.cn P.cc l
  ol : Row w B P.oA P.on P.oc (c32 old)
  il : Row w B P.iA P.ik P.ic (c32 ins)
  sa : Blk w P.a 21 (c32 s.sl)
  sb : Blk w P.b 21 (c32 s.ce)
  sc : Blk w P.c 21 (c32 s.ou)
  la : s.sl.length = P.na
  lb : s.ce.length = P.nb
  lc : s.ou.length = P.nc
  lt : s.st.length = tn
  tk : w.ownsRow B 21 1 (.slice tA tn tc) tn (c32 s.st)
  ne : (P.g ≠ P.a ∧ P.g ≠ P.b ∧ P.g ≠ P.c) ∧ (P.a ≠ P.b ∧ P.a ≠ P.c ∧ P.b ≠ P.c)
  nt : ∀ k, (Value.slice tA tn tc).ownBlock = some k → k ≠ P.g ∧ k ≠ P.a ∧ k ≠ P.b ∧ k ≠ P.c
  lo : B ≤ P.g ∧ B ≤ P.a ∧ B ≤ P.b ∧ B ≤ P.c
section
variable {w : World} {B : Nat} {P : MP} {l : List (Int × Int)} {old ins : List Int} {tA : Option Addr} {tn tc : Nat} {s : VS} {u : Nat}
theorem Mac.size (h : Mac w B P l old ins tA tn tc s u) : B ≤ w.heap.size := Nat.le_trans h.lo.1 (Nat.le_of_lt h.m.lt)
theorem Mac.alloc (h : Mac w B P l old ins tA tn tc s u) (o : Obj) : Mac (w.alloc o) B P l old ins tA tn tc s u :=
  have hb := (Below.refl B w).alloc h.size o
  ⟨h.m.alloc o, h.cl.keep hb (Nat.le_refl _), h.ol.keep hb (Nat.le_refl _), h.il.keep hb (Nat.le_refl _), h.sa.alloc o, h.sb.alloc o, h.sc.alloc o, h.la, h.lb, h.lc, h.lt, h.tk.alloc o, h.ne, h.nt, h.lo⟩
theorem Mac.drewN (h : Mac w B P l old ins tA tn tc s u) (k : Nat) : Mac (w.drewN k) B P l old ins tA tn tc s u :=
  have hb : Below B w (w.drewN k) := ⟨rfl, rfl, rfl, Nat.le_refl _, fun _ _ => rfl⟩
  ⟨h.m.drewN k, h.cl.keep hb (Nat.le_refl _), h.ol.keep hb (Nat.le_refl _), h.il.keep hb (Nat.le_refl _), h.sa.drewN k, h.sb.drewN k, h.sc.drewN k, h.la, h.lb, h.lc, h.lt, h.tk, h.ne, h.nt, h.lo⟩
/-- A field of the machine is written: of all else nothing turns. -/
theorem Mac.field (h : Mac w B P l old ins tA tn tc s u) (j : Nat) (v : Value) {tA' : Option Addr} {tn' tc' p' u' : Nat} {st' : List Int} (hm : (macC P tA tn tc s.p u).set j v = macC P tA' tn' tc' p' u')
    (ht : w.ownsRow B 21 1 (.slice tA' tn' tc') tn' (c32 st')) (hn : st'.length = tn') (hk : ∀ k, (Value.slice tA' tn' tc').ownBlock = some k → k ≠ P.g ∧ k ≠ P.a ∧ k ≠ P.b ∧ k ≠ P.c) :
    Mac (w.setCell ⟨P.g, j, none⟩ v) B P l old ins tA' tn' tc' ⟨p', st', s.sl, s.ce, s.ou⟩ u' :=
  have hb := below_set (Below.refl B w) h.lo.1 (j := j) v
  ⟨hm ▸ h.m.set j v, h.cl.keep hb (Nat.le_refl _), h.ol.keep hb (Nat.le_refl _), h.il.keep hb (Nat.le_refl _), h.sa.other (Ne.symm h.ne.1.1) j v, h.sb.other (Ne.symm h.ne.1.2.1) j v, h.sc.other (Ne.symm h.ne.1.2.2) j v,
    h.la, h.lb, h.lc, hn, own_other ht (fun k hk' => (hk k hk').1) j v, h.ne, hk, h.lo⟩
theorem Mac.at_ (h : Mac w B P l old ins tA tn tc s u) (p' : Nat) : Mac (w.setCell ⟨P.g, 7, none⟩ (.int .i64 (p' : Int))) B P l old ins tA tn tc ⟨p', s.st, s.sl, s.ce, s.ou⟩ u :=
  h.field 7 _ rfl h.tk h.lt h.nt
theorem Mac.used (h : Mac w B P l old ins tA tn tc s u) (u' : Nat) : Mac (w.setCell ⟨P.g, 8, none⟩ (.int .i64 (u' : Int))) B P l old ins tA tn tc s u' :=
  h.field 8 _ rfl h.tk h.lt h.nt
theorem Mac.popped {g : Nat} (h : Mac w B P l old ins (some ⟨g, 0, none⟩) tn tc s u) (k : Nat) (hk : k ≤ tn) : Mac (w.setCell ⟨P.g, 6, none⟩ (.slice (some ⟨g, 0, none⟩) k tc)) B P l old ins (some ⟨g, 0, none⟩) k tc ⟨s.p, s.st.take k, s.sl, s.ce, s.ou⟩ u :=
  h.field 6 _ rfl (by rw [c32_take]; exact own_head h.tk hk) (by have := h.lt; simp; omega) h.nt
theorem Mac.grown (h : Mac w B P l old ins tA tn tc s u) {w' : World} (hg : w.grownBy w' (Value.slice tA tn tc).ownBlock) {g c' : Nat} {st' : List Int} {n' : Nat} (hn : st'.length = n') (ht : w'.ownsRow B 21 1 (.slice (some ⟨g, 0, none⟩) n' c') n' (c32 st'))
    (hat : (Value.slice tA tn tc).ownBlock = some g ∨ g = w.heap.size) :
    Mac (w'.setCell ⟨P.g, 6, none⟩ (.slice (some ⟨g, 0, none⟩) n' c')) B P l old ins (some ⟨g, 0, none⟩) n' c' ⟨s.p, st', s.sl, s.ce, s.ou⟩ u := by
  have hb : Below B w w' := (Below.refl _ _).grown hg h.size fun k hk => (h.tk.lt k hk).1
  have keep : ∀ {q : Nat} {t : TypeId} {cs : List Value}, Blk w q t cs → (∀ k, (Value.slice tA tn tc).ownBlock = some k → k ≠ q) → Blk w' q t cs := fun hq hne => (hg.block _ hq.lt (fun e => hne _ e.symm rfl)).trans hq
  have hk : ∀ k, (Value.slice (some ⟨g, 0, none⟩) n' c').ownBlock = some k → k ≠ P.g ∧ k ≠ P.a ∧ k ≠ P.b ∧ k ≠ P.c := by
    intro k hk
    obtain rfl : g = k := by simpa [Value.ownBlock] using hk
    rcases hat with h1 | rfl
    · exact h.nt _ h1
    · exact ⟨Ne.symm (Nat.ne_of_lt h.m.lt), Ne.symm (Nat.ne_of_lt h.sa.lt), Ne.symm (Nat.ne_of_lt h.sb.lt), Ne.symm (Nat.ne_of_lt h.sc.lt)⟩
  have hb2 := below_set (Below.refl B w') h.lo.1 (j := 6) (.slice (some ⟨g, 0, none⟩) n' c')
  have hb3 := hb.trans hb2
  exact ⟨(keep h.m (fun k hk => (h.nt k hk).1)).set 6 _, h.cl.keep hb3 (Nat.le_refl _), h.ol.keep hb3 (Nat.le_refl _), h.il.keep hb3 (Nat.le_refl _),
    (keep h.sa (fun k hk => (h.nt k hk).2.1)).other (Ne.symm h.ne.1.1) 6 _, (keep h.sb (fun k hk => (h.nt k hk).2.2.1)).other (Ne.symm h.ne.1.2.1) 6 _, (keep h.sc (fun k hk => (h.nt k hk).2.2.2)).other (Ne.symm h.ne.1.2.2) 6 _,
    h.la, h.lb, h.lc, hn, own_other ht (fun k hk' => (hk k hk').1) 6 _, h.ne, hk, h.lo⟩
theorem Mac.slot (h : Mac w B P l old ins tA tn tc s u) (k : Nat) (v : Int) : Mac (w.setCell ⟨P.a, k, none⟩ (.int .i32 v)) B P l old ins tA tn tc ⟨s.p, s.st, s.sl.set k v, s.ce, s.ou⟩ u :=
  have hb := below_set (Below.refl B w) h.lo.2.1 (j := k) (.int .i32 v)
  ⟨h.m.other h.ne.1.1 k _, h.cl.keep hb (Nat.le_refl _), h.ol.keep hb (Nat.le_refl _), h.il.keep hb (Nat.le_refl _), c32_set _ _ _ ▸ h.sa.set k _, h.sb.other (Ne.symm h.ne.2.1) k _, h.sc.other (Ne.symm h.ne.2.2.1) k _,
    by simpa using h.la, h.lb, h.lc, h.lt, own_other h.tk (fun q hq => (h.nt q hq).2.1) k _, h.ne, h.nt, h.lo⟩
theorem Mac.kept (h : Mac w B P l old ins tA tn tc s u) (k : Nat) (v : Int) : Mac (w.setCell ⟨P.b, k, none⟩ (.int .i32 v)) B P l old ins tA tn tc ⟨s.p, s.st, s.sl, s.ce.set k v, s.ou⟩ u :=
  have hb := below_set (Below.refl B w) h.lo.2.2.1 (j := k) (.int .i32 v)
  ⟨h.m.other h.ne.1.2.1 k _, h.cl.keep hb (Nat.le_refl _), h.ol.keep hb (Nat.le_refl _), h.il.keep hb (Nat.le_refl _), h.sa.other h.ne.2.1 k _, c32_set _ _ _ ▸ h.sb.set k _, h.sc.other (Ne.symm h.ne.2.2.2) k _,
    h.la, by simpa using h.lb, h.lc, h.lt, own_other h.tk (fun q hq => (h.nt q hq).2.2.1) k _, h.ne, h.nt, h.lo⟩
theorem Mac.out (h : Mac w B P l old ins tA tn tc s u) (k : Nat) (v : Int) : Mac (w.setCell ⟨P.c, k, none⟩ (.int .i32 v)) B P l old ins tA tn tc ⟨s.p, s.st, s.sl, s.ce, s.ou.set k v⟩ u :=
  have hb := below_set (Below.refl B w) h.lo.2.2.2 (j := k) (.int .i32 v)
  ⟨h.m.other h.ne.1.2.2 k _, h.cl.keep hb (Nat.le_refl _), h.ol.keep hb (Nat.le_refl _), h.il.keep hb (Nat.le_refl _), h.sa.other h.ne.2.2.1 k _, h.sb.other h.ne.2.2.2 k _, c32_set _ _ _ ▸ h.sc.set k _,
    h.la, h.lb, by simpa using h.lc, h.lt, own_other h.tk (fun q hq => (h.nt q hq).2.2.2) k _, h.ne, h.nt, h.lo⟩
end
/-- A panic with a fault. -/
abbrev raiseE (er : Int) : Ending := .panicked [{ v := .iface 34 (.int .i64 er), recovered := false }]
def Fails (B : Nat) (er : Int) (w : World) (e : Ending) (w' : World) : Prop := e = raiseE er ∧ Below B w w'
def Goes (B : Nat) (P : MP) (l : List (Int × Int)) (old ins : List Int) (s : VS) (u : Nat) (w : World) (e : Ending) (w' : World) : Prop :=
  e = .returned (.tuple #[]) ∧ (∃ tA tc, Mac w' B P l old ins tA s.st.length tc s u) ∧ Below B w w'
def GoesV (v : Int) (B : Nat) (P : MP) (l : List (Int × Int)) (old ins : List Int) (s : VS) (u : Nat) (w : World) (e : Ending) (w' : World) : Prop :=
  e = .returned (.int .i32 v) ∧ (∃ tA tc, Mac w' B P l old ins tA s.st.length tc s u ∧ Keeps [P.g] w w') ∧ Below B w w'
end Go.Proofs.Ytmjelcoljmefeaa
