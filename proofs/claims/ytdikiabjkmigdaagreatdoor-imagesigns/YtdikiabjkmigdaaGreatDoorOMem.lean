/-
  Memory: a slice that reads as a list of cells, nil let in, and appends onto a row of the call's own. No program stands in this file.
-/
import Derived.Test.YtdikiabjkmigdaaGreatDoorOMath
import Derived.Below
import Derived.Laws.OwnMore
import Derived.Laws.IdiomStrings
import Derived.Laws.BytesArg
import Derived.OwnWalk
namespace Go.Proofs.YtdikiabjkmigdaaGreatDoor
set_option maxRecDepth 20000
open Go.RowKit

theorem hide {p : Prop} (h : p) : Hid p := h
/-- The cells of bytes, and of words. -/
def cs8 (l : List UInt8) : List Value := l.map fun c => .int .u8 (c.toNat : Int)
def cs32 (l : List UInt32) : List Value := l.map fun c => .int .u32 (c.toNat : Int)
theorem cs8_len (l : List UInt8) : (cs8 l).length = l.length := by simp [cs8]
theorem cs32_len (l : List UInt32) : (cs32 l).length = l.length := by simp [cs32]
theorem cs8_app (l m : List UInt8) : cs8 (l ++ m) = cs8 l ++ cs8 m := by simp [cs8]
theorem cs32_app (l m : List UInt32) : cs32 (l ++ m) = cs32 l ++ cs32 m := by simp [cs32]
theorem cs8_one (l : List UInt8) : ∀ u ∈ cs8 l, u.oneCell' = true := by
  intro u hu; obtain ⟨_, _, rfl⟩ := List.mem_map.1 hu; rfl
theorem cs32_one (l : List UInt32) : ∀ u ∈ cs32 l, u.oneCell' = true := by
  intro u hu; obtain ⟨_, _, rfl⟩ := List.mem_map.1 hu; rfl
theorem cs8_at {l : List UInt8} {j : Nat} (h : j < l.length) : (cs8 l)[j]? = some (.int .u8 (l[j].toNat : Int)) := by simp [cs8, h]
theorem cs32_at {l : List UInt32} {j : Nat} (h : j < l.length) : (cs32 l)[j]? = some (.int .u32 (l[j].toNat : Int)) := by simp [cs32, h]

/-- The slice value '.slice A n c' holds the cells xs, one an element, and lies below block B. -/
structure Row (w : World) (B : Nat) (A : Option Addr) (n c : Nat) (xs : List Value) : Prop where
  len : xs.length = n
  cap : n ≤ c
  max : c ≤ maxLen
  nil : A = none → c = 0
  cells : 0 < n → ∃ b o, A = some ⟨b, o, none⟩ ∧ b < B ∧ ∀ j u, xs[j]? = some u → w.cell? ⟨b, o + j, none⟩ = some u

section
variable {w w' : World} {B B' n c : Nat} {A : Option Addr} {xs : List Value}
theorem Row.none_ : Row w B none 0 0 [] := ⟨rfl, Nat.le_refl _, by simp [maxLen], fun _ => rfl, fun h => absurd h (by omega)⟩
theorem Row.keep (h : Row w B A n c xs) (hb : Below B' w w') (hB : B ≤ B') : Row w' B A n c xs :=
  ⟨h.len, h.cap, h.max, h.nil, fun hn => by
    obtain ⟨b, o, e, hlt, hc⟩ := h.cells hn
    exact ⟨b, o, e, hlt, fun j u hu => (hb.cell (p := ⟨b, o + j, none⟩) (show b < B' by omega)).trans (hc j u hu)⟩⟩
theorem Row.more (h : Row w B A n c xs) (hB : B ≤ B') : Row w B' A n c xs :=
  ⟨h.len, h.cap, h.max, h.nil, fun hn => by
    obtain ⟨b, o, e, hlt, hc⟩ := h.cells hn
    exact ⟨b, o, e, by omega, hc⟩⟩
theorem Row.alloc (h : Row w B A n c xs) (hB : B ≤ w.heap.size) (o : Obj) : Row (w.alloc o) B A n c xs :=
  h.keep ((Below.refl B w).alloc hB o) (Nat.le_refl _)
theorem Row.get (h : Row w B A n c xs) {j : Nat} (hj : j < n) : ∃ b o u, A = some ⟨b, o, none⟩ ∧ b < B ∧ xs[j]? = some u ∧ w.cell? ⟨b, o + j, none⟩ = some u := by
  obtain ⟨b, o, e, hb, hc⟩ := h.cells (by omega)
  have hl : j < xs.length := by have := h.len; omega
  exact ⟨b, o, xs[j], e, hb, List.getElem?_eq_getElem hl, hc j _ (List.getElem?_eq_getElem hl)⟩
/-- A part of a slice. -/
theorem Row.cut (h : Row w B A n c xs) {a b : Nat} (hab : a ≤ b) (hb : b ≤ n) :
    Row w B (if c = a then A else A.map (·.add (a * 1))) (b - a) (c - a) ((xs.drop a).take (b - a)) := by
  refine ⟨by have := h.len; simp; omega, by have := h.cap; omega, by have := h.max; omega, fun e => ?_, fun hn => ?_⟩
  · by_cases hc : c = a
    · omega
    · rw [if_neg hc] at e
      have := h.nil (by simpa using e)
      omega
  · obtain ⟨g, o, rfl, hlt, hcell⟩ := h.cells (by omega)
    have := h.cap
    rw [if_neg (by omega)]
    refine ⟨g, o + a, by simp [Addr.add_lit], hlt, fun j u hu => ?_⟩
    rw [Nat.add_assoc]
    refine hcell (a + j) u ?_
    rw [List.getElem?_take] at hu
    split at hu
    · rw [← hu, List.getElem?_drop]
    · cases hu
theorem Row.pre (h : Row w B A n c xs) {b : Nat} (hb : b ≤ n) : Row w B A b c (xs.take b) := by
  refine ⟨by have := h.len; simp; omega, by have := h.cap; omega, h.max, h.nil, fun hn => ?_⟩
  obtain ⟨g, o, rfl, hlt, hcell⟩ := h.cells (by omega)
  refine ⟨g, o, rfl, hlt, fun j u hu => hcell j u ?_⟩
  rw [List.getElem?_take] at hu
  split at hu
  · exact hu
  · cases hu
theorem Row.of_own {base : Nat} {e : TypeId} (h : w.ownsRow base e 1 (.slice A n c) n xs) : Row w w.heap.size A n c xs := by
  obtain ⟨h1, h2⟩ := h
  rcases h2 with ⟨hv, rfl⟩ | ⟨g, cap, cur, hv, hb, hg, hnc, hcm, hcs, ht⟩
  · obtain ⟨rfl, _, rfl⟩ : A = none ∧ 0 = 0 ∧ c = 0 := by simpa using hv
    exact ⟨by simpa using h1, Nat.le_refl _, by simp [maxLen], fun _ => rfl, fun h => absurd h (by omega)⟩
  · obtain ⟨rfl, rfl⟩ : A = some ⟨g, 0, none⟩ ∧ c = cap := by simpa using hv
    refine ⟨by simpa using h1, hnc, hcm, (fun e => by cases e), fun _ => ⟨g, 0, rfl, (Array.getElem?_eq_some_iff.1 hg).1, fun j u hu => ?_⟩⟩
    rw [Nat.zero_add, cell_of_row w g j cur e (0, 0) hg]
    rw [← ht, List.getElem?_take] at hu
    split at hu
    · simpa using hu
    · cases hu
theorem Row.one (w : World) (u : Value) (e : TypeId) : Row (w.alloc (.cells #[u] e)) (w.heap.size + 1) (some ⟨w.heap.size, 0, none⟩) 1 1 [u] :=
  ⟨rfl, Nat.le_refl _, by simp [maxLen], (fun h => by cases h), fun _ => ⟨w.heap.size, 0, rfl, by omega, fun j v hv => by
    match j, hv with
    | 0, hv => simp at hv; subst hv; simp⟩⟩
/-- Bytes as a string. -/
theorem Row.str {P : Program} {src dst e : TypeId} {l : List UInt8} (h : Row w B A n c (cs8 l)) (hs : P.underlying src = some (.slice e)) (he : P.underlying e = some (.int .u8)) (hd : P.underlying dst = some .string) :
    (convert src dst (.slice A n c)).run P w = .ok (.string ⟨l.toArray⟩) w := by
  have hl : l.length = n := by have := h.len; rwa [cs8_len] at this
  rcases A with _ | ad
  · have h0 := h.nil rfl
    have hc := h.cap
    obtain rfl : n = 0 := by omega
    obtain rfl : l = [] := List.eq_nil_of_length_eq_zero hl
    exact run_convert_bytes_nil w src e hs he 0 c dst hd
  · subst hl
    refine run_convert_bytes_back w src dst e ad c l hs he hd fun j hj => ?_
    obtain ⟨b, o, hA, _, hcell⟩ := h.cells (by omega)
    obtain rfl : ad = ⟨b, o, none⟩ := by simpa using hA
    rw [Addr.add_lit]
    exact hcell j _ (cs8_at hj)
end

section
variable {P : Program}
/-- A part of a slice, as the program cuts it. -/
theorem Row.sliced {w : World} {B n c : Nat} {A : Option Addr} {xs : List Value} (h : Row w B A n c xs) {t e : TypeId} (ht : P.underlying t = some (.slice e)) (hz : (P.info? e).map (·.size) = some 1) {lo hi : Nat} (h1 : lo ≤ hi) (h2 : hi ≤ n)
    (L H : Int) (hL : L = lo) (hH : H = hi) :
    ∃ A' c', (∀ W, (Instr.slice t (.slice A n c) (some (.int .i64 L)) (some (.int .i64 H)) none).run P W = .ok (.slice A' (hi - lo) c') W) ∧ Row w B A' (hi - lo) c' ((xs.drop lo).take (hi - lo)) := by
  subst hL; subst hH
  refine ⟨_, _, fun W => ?_, h.cut h1 h2⟩
  have he : P.elem t = e := by simp [Program.elem, ht]
  have hs : ∀ W, (Go.sizeOf e).run P W = .ok 1 W := by
    intro W
    obtain ⟨i, hi, h1⟩ := Option.map_eq_some_iff.1 hz
    simp [sizeOf, typeInfo, hi, h1]
  have hc := h.cap
  rw [run_slice_lh W t A n c (by rw [he]; exact ht) .i64 .i64 lo hi (by omega) (by omega) (by omega), he, hs]
  simp [Result.andThen, Go.sliced]
theorem Row.headed {w : World} {B n c : Nat} {A : Option Addr} {xs : List Value} (h : Row w B A n c xs) {t e : TypeId} (ht : P.underlying t = some (.slice e)) (hz : (P.info? e).map (·.size) = some 1) {hi : Nat} (h2 : hi ≤ n)
    (H : Int) (hH : H = hi) :
    ∃ A' c', (∀ W, (Instr.slice t (.slice A n c) none (some (.int .i64 H)) none).run P W = .ok (.slice A' hi c') W) ∧ Row w B A' hi c' (xs.take hi) := by
  subst hH
  have hcut := h.cut (Nat.zero_le _) h2
  rw [List.drop_zero, Nat.sub_zero] at hcut
  refine ⟨_, _, fun W => ?_, hcut⟩
  have he : P.elem t = e := by simp [Program.elem, ht]
  have hs : ∀ W, (Go.sizeOf e).run P W = .ok 1 W := by
    intro W
    obtain ⟨i, hi, h1⟩ := Option.map_eq_some_iff.1 hz
    simp [sizeOf, typeInfo, hi, h1]
  have hc := h.cap
  rw [run_slice_h W t A n c (by rw [he]; exact ht) .i64 hi (by omega) (by omega), he, hs]
  simp [Result.andThen, Go.sliced]
/-- What a row of the call's own looks like. -/
theorem own_shape {w : World} {base : Nat} {e : TypeId} {v : Value} {n : Nat} {xs : List Value} (h : w.ownsRow base e 1 v n xs) : ∃ A c, v = .slice A n c := by
  rcases h.2 with ⟨rfl, rfl⟩ | ⟨g, cap, _, rfl, _⟩
  · exact ⟨none, 0, rfl⟩
  · exact ⟨_, cap, rfl⟩
theorem run_append_row (w : World) (base : Nat) (t ty e : TypeId) (i : TypeInfo) (z : Value) (bytes : Nat) (ht : P.underlying t = some (.slice e)) (hi : P.info? e = some i) (hz : i.zero = some z)
    (hsize : i.size = 1) (hby : i.bytes = bytes) (hzs : z.cells.size = 1) (v : Value) (n : Nat) (xs : List Value) (hown : w.ownsRow base e 1 v n xs)
    (B : Nat) (A : Option Addr) (m c : Nat) (news : List Value) (hr : Row w B A m c news) (h1 : ∀ u ∈ news, u.oneCell' = true)
    (h63 : n + m ≤ maxLen) (hbytes : (n + m) * bytes ≤ 140737488355328) (hbase : base ≤ w.heap.size) :
    ∃ A' c' w', (Builtin.append_ #[t, t] ty #[v, .slice A m c]).run P w = .ok (.slice A' (n + m) c') w' ∧ w'.ownsRow base e 1 (.slice A' (n + m) c') (n + m) (xs ++ news) ∧ w.grownBy w' v.ownBlock := by
  rcases A with _ | ad
  · have h0 := hr.nil rfl
    have hc := hr.cap
    obtain rfl : m = 0 := by omega
    subst h0
    obtain rfl : news = [] := List.eq_nil_of_length_eq_zero hr.len
    obtain ⟨A', c', rfl⟩ := own_shape hown
    exact ⟨A', c', w, run_append_owned_none w base t ty e i 1 ht hi _ n xs hown, by simpa using hown, World.grownBy.refl w _⟩
  · have hcells : ∀ j u, news[j]? = some u → w.cell? (ad.add j) = some u := by
      intro j u hu
      have hj : j < news.length := (List.getElem?_eq_some_iff.1 hu).1
      obtain ⟨b, o, hA, _, hc⟩ := hr.cells (by have := hr.len; omega)
      obtain rfl : ad = ⟨b, o, none⟩ := by simpa using hA
      rw [Addr.add_lit]
      exact hc j u hu
    obtain ⟨v', w', hrun, hown', hg, _⟩ := run_append_own (P := P) w base t ty e i z 1 bytes ht hi hz hsize hby hzs (by omega) v n xs hown ad m c news (by rw [hr.len, Nat.mul_one]) hcells h1 h63 hbytes hbase
    obtain ⟨A', c', rfl⟩ := own_shape hown'
    exact ⟨A', c', w', hrun, hown', hg⟩
/-- 'out = append(out, xs...)', out nil or the call's own, xs whatever can be read. -/
theorem wpList_append_row {w : World} {ops : Array Oper} {rest : List Oper} {o : Oper} {a : Act} {Q : Exit → Act → World → Prop} (hgd : o.guard = none) (s x : Operand) (t : TypeId)
    (ho : o.op = .call { callee := .builtin .append, args := #[s, x], argTypes := #[t, t] })
    (base : Nat) (e : TypeId) (i : TypeInfo) (z : Value) (bytes : Nat) (ht : P.underlying t = some (.slice e)) (hi : P.info? e = some i) (hz : i.zero = some z)
    (hsize : i.size = 1) (hby : i.bytes = bytes) (hzs : z.cells.size = 1) (v : Value) (n : Nat) (xs : List Value) (hs : a.eval s = v) (hown : w.ownsRow base e 1 v n xs)
    (B : Nat) (A : Option Addr) (m c : Nat) (news : List Value) (hx : a.eval x = .slice A m c) (hr : Row w B A m c news) (h1 : ∀ u ∈ news, u.oneCell' = true)
    (h63 : n + m ≤ maxLen) (hbytes : (n + m) * bytes ≤ 140737488355328) (w0 : World) (hb : Below base w0 w) (hbase : base ≤ w0.heap.size)
    (h : ∀ A' c' w', w'.ownsRow base e 1 (.slice A' (n + m) c') (n + m) (xs ++ news) → Below base w0 w' → w.grownBy w' v.ownBlock → wpList P ops Q rest (a.put o.dst (.slice A' (n + m) c')) w') : wpList P ops Q (o :: rest) a w := by
  have hbs : base ≤ w.heap.size := Nat.le_trans hbase hb.size
  obtain ⟨A', c', w', hrun, h2, h3⟩ := run_append_row (P := P) w base t o.type e i z bytes ht hi hz hsize hby hzs v n xs hown B A m c news hr h1 h63 hbytes hbs
  refine wpList_plain hgd fun K hK => ?_
  unfold Oper.wp
  simp [execOp, ho, resolve, invoke, builtin, hs, hx, hrun, Result.andThen]
  exact hK _ _ (h A' c' w' h2 (hb.grown h3 hbs fun k hk => (hown.lt k hk).1) h3)
end
end Go.Proofs.YtdikiabjkmigdaaGreatDoor
