/-
  Memory: blocks, tokens (a struct of four cells), slices of tokens, and results of which the first is a token in a block.
-/
import Derived.Test.YtbcgofmhplgfbaaDoorLMath3
import Derived.Test.YtbcgofmhplgfbaaDoorLBuild
import Derived.Test.YtbcgofmhplgfbaaDoorShelfB
import Derived.Test.YtbcgofmhplgfbaaDoorWRead
import Derived.LoopTactic
import Derived.WalkMore
import Derived.Below
import Derived.Laws.OwnMore
import Derived.Laws.IdiomStrings
import Derived.OwnWalk
import Derived.Lib.Hide
import Derived.Deep.RegionHeld3
import Derived.Deep.QuietTactic
import Derived.StillTailTactics
import Derived.BigQuiet
import Derived.IntWalk
namespace Go.Proofs.YtbcgofmhplgfbaaDoor
open Go.RowKit
set_option maxHeartbeats 400000

theorem hide {p : Prop} (h : p) : Hid p := Lib.hid h
/-- A list of bytes as a text. -/
def str (l : List UInt8) : ByteArray := ⟨l.toArray⟩
theorem str_list (l : List UInt8) : (str l).data.toList = l := by simp [str]
theorem str_size (l : List UInt8) : (str l).size = l.length := by simp [str, ByteArray.size]
theorem str_of (s : ByteArray) : str s.data.toList = s := by simp [str]
theorem str_inj {a b : List UInt8} (h : str a = str b) : a = b := by
  have := congrArg (fun s : ByteArray => s.data.toList) h
  simpa [str] using this
theorem ext_list (s : ByteArray) (i j : Nat) : (s.extract i j).data.toList = (s.data.toList.drop i).take (j - i) := by
  simp [ByteArray.data_extract, Array.toList_extract, List.extract_eq_take_drop]
theorem ext_str (s : ByteArray) (i j : Nat) : s.extract i j = str ((s.data.toList.drop i).take (j - i)) := by
  rw [← ext_list, str_of]
theorem size_list (s : ByteArray) : s.data.toList.length = s.size := by simp

/-- Block g holds just these cells, and may be written. -/
def Blk (w : World) (g : Nat) (t : TypeId) (cs : List Value) : Prop := w.heap[g]? = some (.cells cs.toArray t (0, 0))
section
variable {w w' : World} {g h j B : Nat} {t : TypeId} {cs : List Value}
theorem Blk.lt (hb : Blk w g t cs) : g < w.heap.size := (Array.getElem?_eq_some_iff.1 hb).1
theorem Blk.cell (hb : Blk w g t cs) {v : Value} (hv : cs[j]? = some v) : w.cell? ⟨g, j, none⟩ = some v := by
  rw [cell_of_row w g j _ t (0, 0) hb]; simpa using hv
theorem Blk.frozen (hb : Blk w g t cs) (j : Nat) : w.frozen? ⟨g, j, none⟩ = false := frozen_of_row w g j _ t hb
theorem Blk.set (hb : Blk w g t cs) (j : Nat) (v : Value) : Blk (w.setCell ⟨g, j, none⟩ v) g t (cs.set j v) := by
  unfold Blk
  rw [heap_setCell_same w g j _ t v hb]
  simp
theorem Blk.keep (hb : Blk w g t cs) (hk : Below B w w') (hg : g < B) : Blk w' g t cs := (hk.block g hg).trans hb
theorem Blk.alloc (hb : Blk w g t cs) (o : Obj) : Blk (w.alloc o) g t cs := (Below.heap_alloc w o g hb.lt).trans hb
theorem Blk.new (w : World) (t : TypeId) (cs : List Value) : Blk (w.alloc (.cells cs.toArray t (0, 0))) w.heap.size t cs := heap_alloc_new w _
theorem Blk.drew (hb : Blk w g t cs) : Blk w.drew g t cs := hb
end

theorem below_set {B : Nat} {a w : World} (h : Below B a w) {g j : Nat} (hg : B ≤ g) (v : Value) : Below B a (w.setCell ⟨g, j, none⟩ v) := by
  refine ⟨h.os, h.tape, h.output, ?_, fun k hk => ?_⟩
  · rw [show (w.setCell ⟨g, j, none⟩ v).heap.size = w.heap.size by simp [World.setCell]]; exact h.size
  · rw [heap_setCell_other w ⟨g, j, none⟩ k v (by show k ≠ g; omega)]; exact h.block k hk
theorem sizeT : (Tryd.prog.info? 26).map (·.size) = some 4 := by kernel_rfl
theorem infoT : (Tryd.prog.info? 26).map (fun i => (i.zero, i.size, i.bytes)) = some (some (.agg #[.int .i64 0, .string ByteArray.empty, .int .i32 0, .int .i64 0]), 4, 40) := by kernel_rfl
theorem results_cell_one {fn : Func} {p u : Tmp} {ty : TypeId} (h : fn.results = #[.cell p ty, .tmp u]) (tmps : Array Value) (P : Program) (w : World) :
    (results fn tmps).run P w =
      ((asAddr (tmps.getD p undef)).run P w).andThen fun a w₁ => ((loadVar ty a).run P w₁).andThen fun x w₂ => .ok (.tuple #[x, tmps.getD u undef]) w₂ := by
  simp only [results, h]
  simp [Sem.run_bind, Result.andThen]
/-- A token as a value, and as cells. -/
def tokV (kd : Int) (tx : List UInt8) (nv pl : Int) : Value := .agg #[.int .i64 kd, .string (str tx), .int .i32 nv, .int .i64 pl]
theorem ret_tok {fn : Func} {R : Ending → World → Prop} {a : Act} {w : World} {p u : Tmp} {g : Nat} {kd nv pl er : Int} {tx : ByteArray} (h : fn.results = #[.cell p 26, .tmp u])
    (hp : a.tmps.getD p undef = .pointer (some ⟨g, 0, none⟩)) (hu : a.tmps.getD u undef = .int .i64 er) (hb : Blk w g 26 [.int .i64 kd, .string tx, .int .i32 nv, .int .i64 pl]) (hd : a.defers = [])
    (hR : R (.returned (.tuple #[.agg #[.int .i64 kd, .string tx, .int .i32 nv, .int .i64 pl], .int .i64 er])) w) : bodyPost Tryd.prog fn R .ret a w := by
  refine bodyPost_ret_by (v := .tuple #[.agg #[.int .i64 kd, .string tx, .int .i32 nv, .int .i64 pl], .int .i64 er]) ?_ hd hR
  have := run_loadVar_row (P := Tryd.prog) w g _ 26 #[.int .i64 kd, .string tx, .int .i32 nv, .int .i64 pl] (0, 0) _ hb Tryd.underlying26 rfl (by exact sizeT)
  rw [results_cell_one h]
  simp only [hp, hu, asAddr]
  simp [this, Result.andThen]

/-- The cells of tokens. -/
def cell4 (t : Tok) : List Value := [.int .i64 t.kd, .string (str t.tx), .int .i32 t.nv, .int .i64 t.pl]
def csT (l : List Tok) : List Value := l.flatMap cell4
theorem csT_cons (t : Tok) (l : List Tok) : csT (t :: l) = .int .i64 t.kd :: .string (str t.tx) :: .int .i32 t.nv :: .int .i64 t.pl :: csT l := rfl
theorem csT_len (l : List Tok) : (csT l).length = l.length * 4 := by
  induction l with
  | nil => rfl
  | cons i l ih => rw [csT_cons]; simp only [List.length_cons]; rw [ih]; omega
theorem csT_app (l m : List Tok) : csT (l ++ m) = csT l ++ csT m := by simp [csT]
theorem csT_one (l : List Tok) : ∀ u ∈ csT l, u.oneCell' = true := by
  intro u hu
  obtain ⟨i, _, h⟩ := List.mem_flatMap.1 hu
  simp only [cell4, List.mem_cons, List.not_mem_nil, or_false] at h
  rcases h with rfl | rfl | rfl | rfl <;> rfl
theorem csT_at {l : List Tok} {j : Nat} (h : j < l.length) : (csT l)[j * 4]? = some (.int .i64 l[j].kd) ∧ (csT l)[j * 4 + 1]? = some (.string (str l[j].tx)) ∧ (csT l)[j * 4 + 2]? = some (.int .i32 l[j].nv) ∧ (csT l)[j * 4 + 3]? = some (.int .i64 l[j].pl) := by
  induction l generalizing j with
  | nil => simp at h
  | cons i l ih =>
    rw [csT_cons]
    cases j with
    | zero => exact ⟨rfl, rfl, rfl, rfl⟩
    | succ j =>
      have := ih (j := j) (by simpa using h)
      rw [show (j + 1) * 4 = j * 4 + 1 + 1 + 1 + 1 by omega]
      simpa using this
/-- The slice value '.slice A n c' holds the tokens l and lies below block B. -/
structure RowT (w : World) (B : Nat) (A : Option Addr) (n c : Nat) (l : List Tok) : Prop where
  len : l.length = n
  cap : n ≤ c
  max : c ≤ maxLen
  nil : A = none → c = 0
  cells : 0 < n → ∃ b o, A = some ⟨b, o, none⟩ ∧ b < B ∧ ∀ j u, (csT l)[j]? = some u → w.cell? ⟨b, o + j, none⟩ = some u
section
variable {w w' : World} {B B' n c : Nat} {A : Option Addr} {l : List Tok}
theorem RowT.none_ : RowT w B none 0 0 [] := ⟨rfl, Nat.le_refl _, by simp [maxLen], fun _ => rfl, (fun h => absurd h (by omega))⟩
theorem RowT.keep (h : RowT w B A n c l) (hb : Below B' w w') (hB : B ≤ B') : RowT w' B A n c l :=
  ⟨h.len, h.cap, h.max, h.nil, (fun hn => by
    obtain ⟨b, o, e, hlt, hc⟩ := h.cells hn
    exact ⟨b, o, e, hlt, fun j u hu => (hb.cell (p := ⟨b, o + j, none⟩) (show b < B' by omega)).trans (hc j u hu)⟩)⟩
theorem RowT.more (h : RowT w B A n c l) (hB : B ≤ B') : RowT w B' A n c l :=
  ⟨h.len, h.cap, h.max, h.nil, (fun hn => by
    obtain ⟨b, o, e, hlt, hc⟩ := h.cells hn
    exact ⟨b, o, e, by omega, hc⟩)⟩
theorem RowT.drewN (h : RowT w B A n c l) (k : Nat) : RowT (w.drewN k) B A n c l := ⟨h.len, h.cap, h.max, h.nil, fun hn => by
    obtain ⟨b, o, e, hlt, hc⟩ := h.cells hn
    exact ⟨b, o, e, hlt, fun j u hu => by simpa using hc j u hu⟩⟩
theorem RowT.get (h : RowT w B A n c l) {j : Nat} (hj : j < n) : ∃ b o t, A = some ⟨b, o, none⟩ ∧ b < B ∧ l[j]? = some t ∧ w.cell? ⟨b, o + j * 4, none⟩ = some (.int .i64 t.kd) ∧ w.cell? ⟨b, o + j * 4 + 1, none⟩ = some (.string (str t.tx)) ∧ w.cell? ⟨b, o + j * 4 + 2, none⟩ = some (.int .i32 t.nv) ∧ w.cell? ⟨b, o + j * 4 + 3, none⟩ = some (.int .i64 t.pl) := by
  obtain ⟨b, o, e, hb, hc⟩ := h.cells (by omega)
  have hl : j < l.length := by have := h.len; omega
  obtain ⟨h0, h1, h2, h3⟩ := csT_at hl
  exact ⟨b, o, l[j], e, hb, List.getElem?_eq_getElem hl, hc _ _ h0, by rw [Nat.add_assoc]; exact hc _ _ h1, by rw [Nat.add_assoc]; exact hc _ _ h2, by rw [Nat.add_assoc]; exact hc _ _ h3⟩
theorem RowT.of_own {base : Nat} {e : TypeId} (h : w.ownsRow base e 4 (.slice A n c) n (csT l)) : RowT w w.heap.size A n c l := by
  obtain ⟨h1, h2⟩ := h
  rw [csT_len] at h1
  rcases h2 with ⟨hv, rfl⟩ | ⟨g, cap, cur, hv, hb, hg, hnc, hcm, hcs, ht⟩
  · obtain ⟨rfl, _, rfl⟩ : A = none ∧ 0 = 0 ∧ c = 0 := by simpa using hv
    exact ⟨by omega, Nat.le_refl _, by simp [maxLen], fun _ => rfl, (fun h => absurd h (by omega))⟩
  · obtain ⟨rfl, rfl⟩ : A = some ⟨g, 0, none⟩ ∧ c = cap := by simpa using hv
    refine ⟨by omega, hnc, hcm, (fun e => by cases e), (fun _ => ⟨g, 0, rfl, (Array.getElem?_eq_some_iff.1 hg).1, fun j u hu => ?_⟩)⟩
    rw [Nat.zero_add, cell_of_row w g j cur e (0, 0) hg]
    rw [← ht, List.getElem?_take] at hu
    split at hu
    · simpa using hu
    · cases hu
end
theorem ownT_shape {w : World} {base : Nat} {e : TypeId} {v : Value} {n : Nat} {xs : List Value} (h : w.ownsRow base e 4 v n xs) : ∃ A c, v = .slice A n c := by
  rcases h.2 with ⟨rfl, rfl⟩ | ⟨g, cap, _, rfl, _⟩
  · exact ⟨none, 0, rfl⟩
  · exact ⟨_, cap, rfl⟩
theorem ownT_len {w : World} {base : Nat} {e : TypeId} {v : Value} {n : Nat} {l : List Tok} (h : w.ownsRow base e 4 v n (csT l)) : l.length = n := by
  have := h.1; rw [csT_len] at this; omega
theorem ownT_base {w : World} {base base' : Nat} {e : TypeId} {v : Value} {n : Nat} {xs : List Value} (hb : base' ≤ base) (h : w.ownsRow base e 4 v n xs) : w.ownsRow base' e 4 v n xs := by
  refine ⟨h.1, ?_⟩
  rcases h.2 with h2 | ⟨g, cap, cur, hv, hg, r⟩
  · exact .inl h2
  · exact .inr ⟨g, cap, cur, hv, Nat.le_trans hb hg, r⟩
theorem ownT_keep {w w' : World} {base : Nat} {e : TypeId} {v : Value} {n : Nat} {xs : List Value} (h : w.ownsRow base e 4 v n xs) (hb : Below w.heap.size w w') : w'.ownsRow base e 4 v n xs := by
  refine ⟨h.1, ?_⟩
  rcases h.2 with h2 | ⟨g, cap, cur, hv, hg, hh, r⟩
  · exact .inl h2
  · exact .inr ⟨g, cap, cur, hv, hg, (hb.block g (Array.getElem?_eq_some_iff.1 hh).1).trans hh, r⟩
theorem run_append_tok {w : World} (base : Nat) (v : Value) (n : Nat) (l : List Tok) (hown : w.ownsRow base 26 4 v n (csT l)) (rt : TypeId)
    (B : Nat) (A : Option Addr) (m c : Nat) (news : List Tok) (hr : RowT w B A m c news)
    (hbytes : n + m ≤ 1099511627776) (hbs : base ≤ w.heap.size) :
    ∃ A' c' w', (Builtin.append_ #[24, 24] rt #[v, .slice A m c]).run Tryd.prog w = .ok (.slice A' (n + m) c') w' ∧ w'.ownsRow base 26 4 (.slice A' (n + m) c') (n + m) (csT (l ++ news)) ∧ w.grownBy w' v.ownBlock := by
  have info : ∃ i, Tryd.prog.info? 26 = some i ∧ i.zero = some (.agg #[.int .i64 0, .string ByteArray.empty, .int .i32 0, .int .i64 0]) ∧ i.size = 4 ∧ i.bytes = 40 := by
    obtain ⟨i, hi, h1⟩ := Option.map_eq_some_iff.1 infoT
    simp at h1
    exact ⟨i, hi, h1.1, h1.2.1, h1.2.2⟩
  obtain ⟨i, hi, hz, hsize, hby⟩ := info
  rcases A with _ | ad
  · have h0 := hr.nil rfl
    have hc := hr.cap
    obtain rfl : m = 0 := by omega
    subst h0
    obtain rfl : news = [] := List.eq_nil_of_length_eq_zero hr.len
    obtain ⟨A', c', rfl⟩ := ownT_shape hown
    exact ⟨A', c', w, run_append_owned_none w base _ _ _ i 4 Tryd.underlying24 hi _ n _ hown, by simpa using hown, World.grownBy.refl w _⟩
  · have hcells : ∀ j u, (csT news)[j]? = some u → w.cell? (ad.add j) = some u := by
      intro j u hu
      have hj : j < (csT news).length := (List.getElem?_eq_some_iff.1 hu).1
      rw [csT_len] at hj
      obtain ⟨b, o, hA, _, hc⟩ := hr.cells (by have := hr.len; omega)
      obtain rfl : ad = ⟨b, o, none⟩ := by simpa using hA
      rw [Addr.add_lit]
      exact hc j u hu
    obtain ⟨v', w', hrun, hown', hg, _⟩ := run_append_own (P := Tryd.prog) w base 24 rt 26 i _ 4 40 Tryd.underlying24 hi hz hsize hby rfl (by omega) v n _ hown ad m c (csT news) (by rw [csT_len, hr.len]) hcells (csT_one _) (by unfold maxLen; omega) (by omega) hbs
    obtain ⟨A', c', rfl⟩ := ownT_shape hown'
    exact ⟨A', c', w', hrun, by rw [csT_app]; exact hown', hg⟩
theorem RowT.one (w : World) (t : Tok) (e : TypeId) : RowT (w.alloc (.cells #[.int .i64 t.kd, .string (str t.tx), .int .i32 t.nv, .int .i64 t.pl] e)) (w.heap.size + 1) (some ⟨w.heap.size, 0, none⟩) 1 1 [t] :=
  ⟨rfl, Nat.le_refl _, by simp [maxLen], (fun h => by cases h), (fun _ => ⟨w.heap.size, 0, rfl, by omega, fun j v hv => by
    match j, hv with
    | 0, hv => simp [csT, cell4] at hv; subst hv; simp
    | 1, hv => simp [csT, cell4] at hv; subst hv; simp
    | 2, hv => simp [csT, cell4] at hv; subst hv; simp
    | 3, hv => simp [csT, cell4] at hv; subst hv; simp⟩)⟩
end Go.Proofs.YtbcgofmhplgfbaaDoor
