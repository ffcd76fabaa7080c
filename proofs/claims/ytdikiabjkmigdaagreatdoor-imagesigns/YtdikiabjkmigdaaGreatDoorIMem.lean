/-
  Memory: blocks, codes (slices of instructions, two cells an element), and results of which the first is an instruction in a block.
-/
import Derived.Test.YtdikiabjkmigdaaGreatDoorIPkg2
import Derived.Test.YtdikiabjkmigdaaGreatDoorSMem
namespace Go.Proofs.YtdikiabjkmigdaaGreatDoor
set_option maxRecDepth 20000
open Go.RowKit
set_option maxHeartbeats 400000

section
variable {w w' : World} {g h j B : Nat} {t : TypeId} {cs : List Value}
end
theorem below_set {B : Nat} {a w : World} (h : Below B a w) {g j : Nat} (hg : B ≤ g) (v : Value) : Below B a (w.setCell ⟨g, j, none⟩ v) := by
  refine ⟨h.os, h.tape, h.output, ?_, fun k hk => ?_⟩
  · rw [show (w.setCell ⟨g, j, none⟩ v).heap.size = w.heap.size by simp [World.setCell]]; exact h.size
  · rw [heap_setCell_other w ⟨g, j, none⟩ k v (by show k ≠ g; omega)]; exact h.block k hk

/-- An instruction, a place and a fault. -/
def Reads (w : World) (o x to er : Int) (e : Ending) (w' : World) : Prop := e = .returned (.tuple #[.agg #[.int .i64 o, .int .i32 x], .int .i64 to, .int .i64 er]) ∧ Below w.heap.size w w'
theorem sizeI : (Tryz.prog.info? 56).map (·.size) = some 2 := by kernel_rfl
theorem infoI : (Tryz.prog.info? 56).map (fun i => (i.zero, i.size, i.bytes)) = some (some (.agg #[.int .i64 0, .int .i32 0]), 2, 16) := by kernel_rfl
theorem results_cell_two {fn : Func} {p u v : Tmp} {ty : TypeId} (h : fn.results = #[.cell p ty, .tmp u, .tmp v]) (tmps : Array Value) (P : Program) (w : World) :
    (results fn tmps).run P w =
      ((asAddr (tmps.getD p undef)).run P w).andThen fun a w₁ => ((loadVar ty a).run P w₁).andThen fun x w₂ => .ok (.tuple #[x, tmps.getD u undef, tmps.getD v undef]) w₂ := by
  simp only [results, h]
  simp [Sem.run_bind, Result.andThen]
theorem ret_ins {fn : Func} {R : Ending → World → Prop} {a : Act} {w : World} {p u v : Tmp} {g : Nat} {o x to er : Int} (h : fn.results = #[.cell p 56, .tmp u, .tmp v])
    (hp : a.tmps.getD p undef = .pointer (some ⟨g, 0, none⟩)) (hu : a.tmps.getD u undef = .int .i64 to) (hv : a.tmps.getD v undef = .int .i64 er) (hb : Blk w g 56 [.int .i64 o, .int .i32 x]) (hd : a.defers = [])
    (hR : R (.returned (.tuple #[.agg #[.int .i64 o, .int .i32 x], .int .i64 to, .int .i64 er])) w) : bodyPost Tryz.prog fn R .ret a w := by
  refine bodyPost_ret_by (v := .tuple #[.agg #[.int .i64 o, .int .i32 x], .int .i64 to, .int .i64 er]) ?_ hd hR
  have := run_loadVar_row (P := Tryz.prog) w g _ 56 #[.int .i64 o, .int .i32 x] (0, 0) _ hb Tryz.underlying56 rfl (by exact sizeI)
  rw [results_cell_two h]
  simp only [hp, hu, hv, asAddr]
  simp [this, Result.andThen]

/-- The cells of a code. -/
def csI (l : List (Int × Int)) : List Value := l.flatMap fun i => [.int .i64 i.1, .int .i32 i.2]
theorem csI_len (l : List (Int × Int)) : (csI l).length = l.length * 2 := by
  induction l with
  | nil => rfl
  | cons i l ih => rw [show csI (i :: l) = .int .i64 i.1 :: .int .i32 i.2 :: csI l from rfl, List.length_cons, List.length_cons, ih, List.length_cons]; omega
theorem csI_app (l m : List (Int × Int)) : csI (l ++ m) = csI l ++ csI m := by simp [csI]
theorem csI_one (l : List (Int × Int)) : ∀ u ∈ csI l, u.oneCell' = true := by
  intro u hu
  obtain ⟨i, _, h⟩ := List.mem_flatMap.1 hu
  rcases List.mem_cons.1 h with rfl | h
  · rfl
  · rw [List.mem_singleton] at h; subst h; rfl
theorem csI_at {l : List (Int × Int)} {j : Nat} (h : j < l.length) : (csI l)[j * 2]? = some (.int .i64 l[j].1) ∧ (csI l)[j * 2 + 1]? = some (.int .i32 l[j].2) := by
  induction l generalizing j with
  | nil => simp at h
  | cons i l ih =>
    have e : csI (i :: l) = .int .i64 i.1 :: .int .i32 i.2 :: csI l := rfl
    rw [e]
    cases j with
    | zero => exact ⟨rfl, rfl⟩
    | succ j =>
      have := ih (j := j) (by simpa using h)
      rw [show (j + 1) * 2 = j * 2 + 1 + 1 by omega]
      simpa using this
/-- The slice value '.slice A n c' holds the code l and lies below block B. -/
structure RowI (w : World) (B : Nat) (A : Option Addr) (n c : Nat) (l : List (Int × Int)) : Prop where
  len : l.length = n
  cap : n ≤ c
  max : c ≤ maxLen
  nil : A = none → c = 0
  cells : 0 < n → ∃ b o, A = some ⟨b, o, none⟩ ∧ b < B ∧ ∀ j u, (csI l)[j]? = some u → w.cell? ⟨b, o + j, none⟩ = some u
  oks : ∀ i ∈ l, okI i
section
variable {w w' : World} {B B' n c : Nat} {A : Option Addr} {l : List (Int × Int)}
theorem RowI.none_ : RowI w B none 0 0 [] := ⟨rfl, Nat.le_refl _, by simp [maxLen], fun _ => rfl, (fun h => absurd h (by omega)), fun _ h => by cases h⟩
theorem RowI.keep (h : RowI w B A n c l) (hb : Below B' w w') (hB : B ≤ B') : RowI w' B A n c l :=
  ⟨h.len, h.cap, h.max, h.nil, (fun hn => by
    obtain ⟨b, o, e, hlt, hc⟩ := h.cells hn
    exact ⟨b, o, e, hlt, fun j u hu => (hb.cell (p := ⟨b, o + j, none⟩) (show b < B' by omega)).trans (hc j u hu)⟩), h.oks⟩
theorem RowI.more (h : RowI w B A n c l) (hB : B ≤ B') : RowI w B' A n c l :=
  ⟨h.len, h.cap, h.max, h.nil, (fun hn => by
    obtain ⟨b, o, e, hlt, hc⟩ := h.cells hn
    exact ⟨b, o, e, by omega, hc⟩), h.oks⟩
theorem RowI.get (h : RowI w B A n c l) {j : Nat} (hj : j < n) : ∃ b o y x, A = some ⟨b, o, none⟩ ∧ b < B ∧ l[j]? = some (y, x) ∧ w.cell? ⟨b, o + j * 2, none⟩ = some (.int .i64 y) ∧ w.cell? ⟨b, o + j * 2 + 1, none⟩ = some (.int .i32 x) ∧ (-2147483648 ≤ x ∧ x ≤ 2147483647) := by
  obtain ⟨b, o, e, hb, hc⟩ := h.cells (by omega)
  have hl : j < l.length := by have := h.len; omega
  obtain ⟨h0, h1⟩ := csI_at hl
  exact ⟨b, o, l[j].1, l[j].2, e, hb, List.getElem?_eq_getElem hl, hc _ _ h0, by rw [Nat.add_assoc]; exact hc _ _ h1, h.oks _ (List.getElem_mem hl)⟩
theorem RowI.of_own {base : Nat} {e : TypeId} (h : w.ownsRow base e 2 (.slice A n c) n (csI l)) (hok : ∀ i ∈ l, okI i) : RowI w w.heap.size A n c l := by
  obtain ⟨h1, h2⟩ := h
  rw [csI_len] at h1
  rcases h2 with ⟨hv, rfl⟩ | ⟨g, cap, cur, hv, hb, hg, hnc, hcm, hcs, ht⟩
  · obtain ⟨rfl, _, rfl⟩ : A = none ∧ 0 = 0 ∧ c = 0 := by simpa using hv
    exact ⟨by omega, Nat.le_refl _, by simp [maxLen], fun _ => rfl, (fun h => absurd h (by omega)), hok⟩
  · obtain ⟨rfl, rfl⟩ : A = some ⟨g, 0, none⟩ ∧ c = cap := by simpa using hv
    refine ⟨by omega, hnc, hcm, (fun e => by cases e), (fun _ => ⟨g, 0, rfl, (Array.getElem?_eq_some_iff.1 hg).1, fun j u hu => ?_⟩), hok⟩
    rw [Nat.zero_add, cell_of_row w g j cur e (0, 0) hg]
    rw [← ht, List.getElem?_take] at hu
    split at hu
    · simpa using hu
    · cases hu
end
theorem ownI_shape {w : World} {base : Nat} {e : TypeId} {v : Value} {n : Nat} {xs : List Value} (h : w.ownsRow base e 2 v n xs) : ∃ A c, v = .slice A n c := by
  rcases h.2 with ⟨rfl, rfl⟩ | ⟨g, cap, _, rfl, _⟩
  · exact ⟨none, 0, rfl⟩
  · exact ⟨_, cap, rfl⟩
theorem ownI_len {w : World} {base : Nat} {e : TypeId} {v : Value} {n : Nat} {l : List (Int × Int)} (h : w.ownsRow base e 2 v n (csI l)) : l.length = n := by
  have := h.1; rw [csI_len] at this; omega
theorem ownI_base {w : World} {base base' : Nat} {e : TypeId} {v : Value} {n : Nat} {xs : List Value} (hb : base' ≤ base) (h : w.ownsRow base e 2 v n xs) : w.ownsRow base' e 2 v n xs := by
  refine ⟨h.1, ?_⟩
  rcases h.2 with h2 | ⟨g, cap, cur, hv, hg, r⟩
  · exact .inl h2
  · exact .inr ⟨g, cap, cur, hv, Nat.le_trans hb hg, r⟩
theorem ownI_keep {w w' : World} {base : Nat} {e : TypeId} {v : Value} {n : Nat} {xs : List Value} (h : w.ownsRow base e 2 v n xs) (hb : Below w.heap.size w w') : w'.ownsRow base e 2 v n xs := by
  refine ⟨h.1, ?_⟩
  rcases h.2 with h2 | ⟨g, cap, cur, hv, hg, hh, r⟩
  · exact .inl h2
  · exact .inr ⟨g, cap, cur, hv, hg, (hb.block g (Array.getElem?_eq_some_iff.1 hh).1).trans hh, r⟩
theorem wpList_append_ins {w : World} {ops : Array Oper} {rest : List Oper} {o : Oper} {a : Act} {Q : Exit → Act → World → Prop} (hgd : o.guard = none) (s x : Operand)
    (ho : o.op = .call { callee := .builtin .append, args := #[s, x], argTypes := #[26, 26] })
    (base : Nat) (v : Value) (n : Nat) (l : List (Int × Int)) (hs : a.eval s = v) (hown : w.ownsRow base 56 2 v n (csI l))
    (B : Nat) (A : Option Addr) (m c : Nat) (news : List (Int × Int)) (hx : a.eval x = .slice A m c) (hr : RowI w B A m c news)
    (hbytes : n + m ≤ 1099511627776) (w0 : World) (hb : Below base w0 w) (hbase : base ≤ w0.heap.size)
    (h : ∀ A' c' w', w'.ownsRow base 56 2 (.slice A' (n + m) c') (n + m) (csI (l ++ news)) → Below base w0 w' → w.grownBy w' v.ownBlock → wpList Tryz.prog ops Q rest (a.put o.dst (.slice A' (n + m) c')) w') : wpList Tryz.prog ops Q (o :: rest) a w := by
  have hbs : base ≤ w.heap.size := Nat.le_trans hbase hb.size
  have info : ∃ i, Tryz.prog.info? 56 = some i ∧ i.zero = some (.agg #[.int .i64 0, .int .i32 0]) ∧ i.size = 2 ∧ i.bytes = 16 := by
    obtain ⟨i, hi, h1⟩ := Option.map_eq_some_iff.1 infoI
    simp at h1
    exact ⟨i, hi, h1.1, h1.2.1, h1.2.2⟩
  obtain ⟨i, hi, hz, hsize, hby⟩ := info
  have key : ∃ A' c' w', (Builtin.append_ #[26, 26] o.type #[v, .slice A m c]).run Tryz.prog w = .ok (.slice A' (n + m) c') w' ∧ w'.ownsRow base 56 2 (.slice A' (n + m) c') (n + m) (csI (l ++ news)) ∧ w.grownBy w' v.ownBlock := by
    rcases A with _ | ad
    · have h0 := hr.nil rfl
      have hc := hr.cap
      obtain rfl : m = 0 := by omega
      subst h0
      obtain rfl : news = [] := List.eq_nil_of_length_eq_zero hr.len
      obtain ⟨A', c', rfl⟩ := ownI_shape hown
      exact ⟨A', c', w, run_append_owned_none w base _ _ _ i 2 Tryz.underlying26 hi _ n _ hown, by simpa using hown, World.grownBy.refl w _⟩
    · have hcells : ∀ j u, (csI news)[j]? = some u → w.cell? (ad.add j) = some u := by
        intro j u hu
        have hj : j < (csI news).length := (List.getElem?_eq_some_iff.1 hu).1
        rw [csI_len] at hj
        obtain ⟨b, o, hA, _, hc⟩ := hr.cells (by have := hr.len; omega)
        obtain rfl : ad = ⟨b, o, none⟩ := by simpa using hA
        rw [Addr.add_lit]
        exact hc j u hu
      obtain ⟨v', w', hrun, hown', hg, _⟩ := run_append_own (P := Tryz.prog) w base 26 o.type 56 i _ 2 16 Tryz.underlying26 hi hz hsize hby rfl (by omega) v n _ hown ad m c (csI news) (by rw [csI_len, hr.len]) hcells (csI_one _) (by unfold maxLen; omega) (by omega) hbs
      obtain ⟨A', c', rfl⟩ := ownI_shape hown'
      exact ⟨A', c', w', hrun, by rw [csI_app]; exact hown', hg⟩
  obtain ⟨A', c', w', hrun, h2, h3⟩ := key
  refine wpList_plain hgd fun K hK => ?_
  unfold Oper.wp
  simp [execOp, ho, resolve, invoke, builtin, hs, hx, hrun, Result.andThen]
  exact hK _ _ (h A' c' w' h2 (hb.grown h3 hbs fun k hk => (hown.lt k hk).1) h3)
theorem RowI.one (w : World) (y x : Int) (hx : -2147483648 ≤ x ∧ x ≤ 2147483647) (e : TypeId) : RowI (w.alloc (.cells #[.int .i64 y, .int .i32 x] e)) (w.heap.size + 1) (some ⟨w.heap.size, 0, none⟩) 1 1 [(y, x)] :=
  ⟨rfl, Nat.le_refl _, by simp [maxLen], (fun h => by cases h), (fun _ => ⟨w.heap.size, 0, rfl, by omega, fun j v hv => by
    match j, hv with
    | 0, hv => simp [csI] at hv; subst hv; simp
    | 1, hv => simp [csI] at hv; subst hv; simp⟩), fun i hi => by rw [List.mem_singleton] at hi; subst hi; exact hx⟩
end Go.Proofs.YtdikiabjkmigdaaGreatDoor
