/-
  The tokens of what is written, of two texts with a line's end between, and their places. No program stands in this file.
-/
import Derived.Test.YtbcgofmhplgfbaaDoorLMath2
namespace Go.Proofs.YtbcgofmhplgfbaaDoor

def scanS (n : Nat) (l : List UInt8) (p : Nat) : Toks := scanR n (l.drop (skipN false l)) (p + skipN false l)
theorem scanL_small {l : List UInt8} (h : l.length ≤ 4096) : scanL l = scanS (l.length + 1) l 0 := by
  unfold scanL scanS
  rw [if_neg (by omega), Nat.zero_add]
theorem scanL_big {l : List UInt8} (h : 4096 < l.length) : scanL l = ([], 3, 0) := if_pos h
theorem scanS_fuel {n m : Nat} {l : List UInt8} (p : Nat) (h1 : l.length < n) (h2 : l.length < m) : scanS n l p = scanS m l p :=
  scanR_fuel _ _ _ _ (by rw [List.length_drop]; omega) (by rw [List.length_drop]; omega)
theorem scanR_tokS {n p : Nat} {l : List UInt8} (hl : l ≠ []) (h : (firstT l).1 = 0) : scanR (n + 1) l p = comb [tokA l p] (scanS n (aft l) (p + (firstT l).2.2.1.length)) := scanR_tok hl h

/-! what is written -/
structure Own (t : Tok) : Prop where
  ne : t.tx ≠ []
  fst : firstT t.tx = (0, t.kd, t.tx, t.nv)
theorem own_first {l : List UInt8} (hl : l ≠ []) (h : (firstT l).1 = 0) (p : Nat) : Own (tokA l p) :=
  ⟨fun e => by have := (first_len hl h).1; rw [show (firstT l).2.2.1 = [] from e] at this; exact absurd this (by simp),
   by
    show firstT (firstT l).2.2.1 = _
    rw [first_own hl h]
    refine Prod.ext h rfl⟩
theorem scanR_own (n : Nat) : ∀ (l : List UInt8) (p : Nat), ∀ t ∈ (scanR n l p).1, Own t := by
  induction n with
  | zero => intro l p t h; cases h
  | succ n ih =>
    intro l p t h
    by_cases hl : l = []
    · subst hl; rw [scanR_nil] at h; cases h
    · by_cases h0 : (firstT l).1 = 0
      · rw [scanR_tok hl h0] at h
        unfold comb at h
        split at h
        · rcases List.mem_append.1 h with h | h
          · rw [List.mem_singleton] at h; subst h; exact own_first hl h0 p
          · exact ih _ _ _ h
        · cases h
      · rw [scanR_bad hl h0] at h; cases h
theorem textL_two (t u : Tok) (r : List Tok) : textL (t :: u :: r) = t.tx ++ 32 :: textL (u :: r) := by simp [textL]
theorem textL_one (t : Tok) : textL [t] = t.tx := by simp [textL]
theorem scan_text (ts : List Tok) : (∀ t ∈ ts, Own t) → skipN false (textL ts) = 0 ∧ ∀ n p, (textL ts).length < n → ∃ us, scanR n (textL ts) p = (us, 0, 0) ∧ us.map shape = ts.map shape := by
  induction ts with
  | nil => intro _; exact ⟨rfl, fun n p _ => ⟨[], scanR_nil n p, rfl⟩⟩
  | cons t r ih =>
    intro ho
    have hot := ho t (by simp)
    have h0 : (firstT t.tx).1 = 0 := by rw [hot.fst]
    have hs := first_skip hot.ne h0
    rw [show (firstT t.tx).2.2.1 = t.tx by rw [hot.fst]] at hs
    cases r with
    | nil =>
      rw [textL_one]
      refine ⟨hs.1, fun n p hn => ⟨[tokA t.tx p], ?_, ?_⟩⟩
      · obtain ⟨n, rfl⟩ : ∃ k, n = k + 1 := ⟨n - 1, by omega⟩
        rw [scanR_tok hot.ne h0]
        have ha : aft t.tx = [] := by unfold aft; rw [hot.fst]; simp
        rw [ha]
        rw [List.drop_nil, scanR_nil]; rfl
      · simp [shape, tokA, hot.fst]
    | cons u r =>
      obtain ⟨i1, i2⟩ := ih (fun x hx => ho x (List.mem_cons_of_mem _ hx))
      rw [textL_two]
      refine ⟨hs.2 _, fun n p hn => ?_⟩
      obtain ⟨n, rfl⟩ : ∃ k, n = k + 1 := ⟨n - 1, by omega⟩
      have hf : firstT (t.tx ++ 32 :: textL (u :: r)) = (0, t.kd, t.tx, t.nv) := by rw [first_app sep32 hot.ne, hot.fst]
      have hne : t.tx ++ 32 :: textL (u :: r) ≠ [] := by simp
      rw [scanR_tok hne (by rw [hf])]
      have ha : aft (t.tx ++ 32 :: textL (u :: r)) = 32 :: textL (u :: r) := by unfold aft; rw [hf]; simp
      have hk : skipN false (32 :: textL (u :: r)) = 1 := by rw [skipN, if_pos (by decide), i1]
      rw [ha, hk, hf]
      rw [List.length_append, List.length_cons] at hn
      obtain ⟨us, e1, e2⟩ := i2 n (p + t.tx.length + 1) (by omega)
      refine ⟨⟨t.kd, t.tx, t.nv, p⟩ :: us, ?_, ?_⟩
      · show comb [tokA _ p] (scanR n (textL (u :: r)) (p + t.tx.length + 1)) = _
        rw [e1]
        unfold tokA
        rw [hf]; rfl
      · rw [List.map_cons, List.map_cons, e2]; rfl
theorem textL_shape {a b : List Tok} (h : a.map shape = b.map shape) : textL a = textL b := by
  have hx : ∀ a b : List Tok, a.map shape = b.map shape → (a.flatMap fun u => 32 :: u.tx) = b.flatMap fun u => 32 :: u.tx := by
    intro a
    induction a with
    | nil => intro b h; cases b with
      | nil => rfl
      | cons t b => cases h
    | cons t a ih => intro b h; cases b with
      | nil => cases h
      | cons u b =>
        rw [List.map_cons, List.map_cons] at h
        obtain ⟨h1, h2⟩ := List.cons.inj h
        have : t.tx = u.tx := congrArg (fun x => x.2.1) h1
        rw [List.flatMap_cons, List.flatMap_cons, ih b h2, this]
  match a, b, h with
  | [], [], _ => rfl
  | t :: a, u :: b, h =>
    rw [List.map_cons, List.map_cons] at h
    obtain ⟨h1, h2⟩ := List.cons.inj h
    have : t.tx = u.tx := congrArg (fun x => x.2.1) h1
    show t.tx ++ _ = u.tx ++ _
    rw [this, hx a b h2]
def sumL (ts : List Tok) : Nat := (ts.map fun t => t.tx.length + 1).sum
theorem textL_len (ts : List Tok) : (textL ts).length ≤ sumL ts := by
  have hx : ∀ ts : List Tok, (ts.flatMap fun u => 32 :: u.tx).length = sumL ts := by
    intro ts
    induction ts with
    | nil => rfl
    | cons t ts ih => rw [List.flatMap_cons, List.length_append, ih]; simp [sumL]
  cases ts with
  | nil => simp [textL]
  | cons t r => rw [textL, List.length_append, hx]; simp [sumL]
theorem scanR_sum (n : Nat) : ∀ (l : List UInt8) (p : Nat), sumL (scanR n l p).1 ≤ 2 * l.length ∧ (scanR n l p).1.length ≤ l.length := by
  induction n with
  | zero => intro l p; simp [scanR, sumL]
  | succ n ih =>
    intro l p
    by_cases hl : l = []
    · subst hl; rw [scanR_nil]; simp [sumL]
    · by_cases h0 : (firstT l).1 = 0
      · rw [scanR_tok hl h0]
        have h1 := first_len hl h0
        have := ih ((aft l).drop (skipN false (aft l))) (p + (firstT l).2.2.1.length + skipN false (aft l))
        have h2 : ((aft l).drop (skipN false (aft l))).length + (firstT l).2.2.1.length ≤ l.length := by
          unfold aft; rw [List.length_drop, List.length_drop]; omega
        unfold comb
        split
        · simp only [sumL, List.map_append, List.sum_append, List.map_cons, List.map_nil, List.sum_cons, List.sum_nil, tokA, List.length_append, List.length_cons, List.length_nil] at this ⊢
          omega
        · simp [sumL]
      · rw [scanR_bad hl h0]; simp [sumL]
theorem scanL_sum (l : List UInt8) : sumL (scanL l).1 ≤ 2 * l.length ∧ (scanL l).1.length ≤ l.length := by
  unfold scanL
  split
  · simp [sumL]
  · have := scanR_sum (l.length + 1) (l.drop (skipN false l)) (skipN false l)
    rw [List.length_drop] at this
    omega
theorem scanL_ok0 {l : List UInt8} (h : (scanL l).2.1 = 0) : (scanL l).2 = (0, 0) := by
  unfold scanL at h ⊢
  split at h
  · cases h
  · rw [if_neg (by assumption)]; exact scanR_ok0 _ _ _ h
theorem scanL_bad {l : List UInt8} (h : (scanL l).2.1 ≠ 0) : (scanL l).1 = [] := by
  unfold scanL at h ⊢
  split at h
  · rw [if_pos (by assumption)]
  · rw [if_neg (by assumption)]; exact scanR_err_nil _ _ _ h
/-- What is written of a text's tokens has these tokens. -/
theorem back_scan {l : List UInt8} (h : (textL (scanL l).1).length ≤ 4096) : (scanL (textL (scanL l).1)).2.1 = 0 ∧ (scanL (textL (scanL l).1)).1.map shape = (scanL l).1.map shape := by
  have ho : ∀ t ∈ (scanL l).1, Own t := by
    unfold scanL
    split
    · intro t ht; cases ht
    · exact scanR_own _ _ _
  obtain ⟨i1, i2⟩ := scan_text (scanL l).1 ho
  obtain ⟨us, e1, e2⟩ := i2 ((textL (scanL l).1).length + 1) 0 (by omega)
  have : scanL (textL (scanL l).1) = (us, 0, 0) := by
    rw [scanL_small h]
    unfold scanS
    rw [i1]
    exact e1
  rw [this]
  exact ⟨rfl, e2⟩

/-! two texts -/
theorem skip_join (b l : List UInt8) : ∀ st, skipN st (l ++ 10 :: b) = if skipN st l < l.length then skipN st l else l.length + 1 + skipN false b := by
  induction l with
  | nil => intro st; cases st <;> simp [skipN, isBlk]
  | cons c r ih =>
    intro st
    rw [List.cons_append]
    cases st with
    | true =>
      rw [skipN, skipN]
      by_cases h : c.toNat = 10
      · rw [if_pos h, if_pos h, ih false, List.length_cons]
        split <;> split <;> omega
      · rw [if_neg h, if_neg h, ih true, List.length_cons]
        split <;> split <;> omega
    | false =>
      rw [skipN, skipN]
      by_cases h : isBlk c = true
      · rw [if_pos h, if_pos h, ih false, List.length_cons]
        split <;> split <;> omega
      · rw [if_neg h, if_neg h]
        have e : (c = 45 ∧ (r ++ 10 :: b).head? = some 45) ↔ (c = 45 ∧ r.head? = some 45) := by
          cases r with
          | nil => simp
          | cons d r => simp
        by_cases h2 : c = 45 ∧ r.head? = some 45
        · rw [if_pos (e.2 h2), if_pos h2, ih true, List.length_cons]
          split <;> split <;> omega
        · rw [if_neg (fun x => h2 (e.1 x)), if_neg h2, if_pos (by simp)]
theorem join_scan (b : List UInt8) (k : Nat) : ∀ (l : List UInt8), l.length ≤ k → ∀ (n N M p : Nat), l.length < n → (l ++ 10 :: b).length < N → b.length < M →
    scanS N (l ++ 10 :: b) p = if (scanS n l p).2.1 = 0 then comb (scanS n l p).1 (scanS M b (p + l.length + 1)) else ([], (scanS n l p).2) := by
  induction k with
  | zero =>
    intro l hk n N M p h1 h2 h3
    obtain rfl : l = [] := List.eq_nil_of_length_eq_zero (by omega)
    have e : scanS n [] p = ([], 0, 0) := scanR_nil _ _
    rw [e, if_pos rfl]
    show scanS N (10 :: b) p = comb [] _
    rw [comb_nil (scanS M b _) (fun h => scanR_err_nil _ _ _ h)]
    have hk : skipN false (10 :: b) = 1 + skipN false b := by rw [skipN, if_pos (by decide)]
    unfold scanS
    rw [hk, Nat.add_comm 1, List.drop_succ_cons]
    rw [List.nil_append, List.length_cons] at h2
    rw [scanR_fuel N M _ _ (by rw [List.length_drop]; omega) (by rw [List.length_drop]; omega), List.length_nil]
    congr 1
    omega
  | succ k ih =>
    intro l hk n N M p h1 h2 h3
    have hj := skip_join b l false
    have hle := skipN_le l false
    by_cases hs : skipN false l < l.length
    · rw [if_pos hs] at hj
      have hne : l.drop (skipN false l) ≠ [] := by
        intro e
        have := congrArg List.length e
        rw [List.length_drop] at this; simp at this; omega
      obtain ⟨n, rfl⟩ : ∃ x, n = x + 1 := ⟨n - 1, by omega⟩
      obtain ⟨N, rfl⟩ : ∃ x, N = x + 1 := ⟨N - 1, by omega⟩
      have hd : (l ++ 10 :: b).drop (skipN false l) = l.drop (skipN false l) ++ 10 :: b := by rw [List.drop_append_of_le_length hle]
      unfold scanS
      rw [hj, hd]
      have hf := first_app sep10 hne b
      by_cases h0 : (firstT (l.drop (skipN false l))).1 = 0
      · have hlen := first_len hne h0
        have hal : (aft (l.drop (skipN false l))).length + 1 ≤ l.length - skipN false l := by
          unfold aft; rw [List.length_drop, List.length_drop] at *; omega
        have ha : aft (l.drop (skipN false l) ++ 10 :: b) = aft (l.drop (skipN false l)) ++ 10 :: b := by
          unfold aft; rw [hf, List.drop_append_of_le_length hlen.2.1]
        have ht : tokA (l.drop (skipN false l) ++ 10 :: b) (p + skipN false l) = tokA (l.drop (skipN false l)) (p + skipN false l) := by unfold tokA; rw [hf]
        rw [scanR_tokS (by simp) (by rw [hf]; exact h0), scanR_tokS hne h0, ha, ht, hf]
        rw [List.length_append, List.length_cons] at h2
        rw [ih (aft (l.drop (skipN false l))) (by omega) n N M (p + skipN false l + (firstT (l.drop (skipN false l))).2.2.1.length) (by omega) (by rw [List.length_append, List.length_cons]; omega) h3]
        rw [comb_err]
        have hp : p + skipN false l + (firstT (l.drop (skipN false l))).2.2.1.length + (aft (l.drop (skipN false l))).length + 1 = p + l.length + 1 := by
          have := hlen.2.1
          unfold aft; rw [List.length_drop, List.length_drop] at *; omega
        rw [hp]
        by_cases he : (scanS n (aft (l.drop (skipN false l))) (p + skipN false l + (firstT (l.drop (skipN false l))).2.2.1.length)).2.1 = 0
        · rw [if_pos he, if_pos he, comb_comb, comb_ok _ he]; rfl
        · rw [if_neg he, if_neg he, comb_bad [_] (q := ([], _)) he]
      · rw [scanR_bad (by simp) (by rw [hf]; exact h0), scanR_bad hne h0, hf, if_neg h0]
    · rw [if_neg hs] at hj
      have hd : l.drop (skipN false l) = [] := List.drop_of_length_le (by omega)
      have e : scanS n l p = ([], 0, 0) := by unfold scanS; rw [hd]; exact scanR_nil _ _
      rw [e, if_pos rfl]
      show scanS N (l ++ 10 :: b) p = comb [] _
      rw [comb_nil (scanS M b _) (fun h => scanR_err_nil _ _ _ h)]
      rw [List.length_append, List.length_cons] at h2
      unfold scanS
      have hdd : (l ++ 10 :: b).drop (l.length + 1 + skipN false b) = b.drop (skipN false b) := by
        rw [List.drop_append, List.drop_of_length_le (by omega), List.nil_append, show l.length + 1 + skipN false b - l.length = skipN false b + 1 by omega, List.drop_succ_cons]
      rw [hj, hdd]
      rw [scanR_fuel N M _ _ (by rw [List.length_drop]; omega) (by rw [List.length_drop]; omega)]
      congr 1
      omega
theorem scanR_shift (n : Nat) : ∀ (l : List UInt8) (p d : Nat), (scanR n l (p + d)).1.map shape = (scanR n l p).1.map shape ∧ (scanR n l (p + d)).2.1 = (scanR n l p).2.1 ∧ ((scanR n l p).2.1 ≠ 0 → (scanR n l (p + d)).2.2 = (scanR n l p).2.2 + d) := by
  induction n with
  | zero => intro l p d; exact ⟨rfl, rfl, fun h => absurd rfl h⟩
  | succ n ih =>
    intro l p d
    by_cases hl : l = []
    · subst hl; rw [scanR_nil, scanR_nil]; exact ⟨rfl, rfl, fun h => absurd rfl h⟩
    · by_cases h0 : (firstT l).1 = 0
      · rw [scanR_tok hl h0, scanR_tok hl h0]
        have := ih ((aft l).drop (skipN false (aft l))) (p + (firstT l).2.2.1.length + skipN false (aft l)) d
        rw [show p + d + (firstT l).2.2.1.length + skipN false (aft l) = p + (firstT l).2.2.1.length + skipN false (aft l) + d by omega, comb_err, comb_err]
        refine ⟨?_, this.2⟩
        by_cases he : (scanR n ((aft l).drop (skipN false (aft l))) (p + (firstT l).2.2.1.length + skipN false (aft l))).2.1 = 0
        · rw [comb_ok _ he, comb_ok _ (this.2.1.trans he)]
          show List.map shape (_ ++ _) = List.map shape (_ ++ _)
          rw [List.map_append, List.map_append, this.1]; rfl
        · rw [comb_bad _ he, comb_bad _ (by rw [this.2.1]; exact he)]
      · rw [scanR_bad hl h0, scanR_bad hl h0]
        exact ⟨rfl, rfl, fun _ => rfl⟩
/-- The tokens of two texts with a line's end between. -/
theorem joins (a b : List UInt8) (ha : a.length ≤ 2000) (hb : b.length ≤ 2000) :
    ((scanL a).2.1 ≠ 0 → scanL (a ++ 10 :: b) = ([], (scanL a).2)) ∧
    ((scanL a).2.1 = 0 → (scanL b).2.1 ≠ 0 → (scanL (a ++ 10 :: b)).1 = [] ∧ (scanL (a ++ 10 :: b)).2.1 = (scanL b).2.1 ∧ (scanL (a ++ 10 :: b)).2.2 = (scanL b).2.2 + a.length + 1) ∧
    ((scanL a).2.1 = 0 → (scanL b).2.1 = 0 → (scanL (a ++ 10 :: b)).2.1 = 0 ∧ (scanL (a ++ 10 :: b)).1.map shape = ((scanL a).1 ++ (scanL b).1).map shape) := by
  have hl : (a ++ 10 :: b).length = a.length + b.length + 1 := by simp; omega
  rw [scanL_small (l := a) (by omega), scanL_small (l := b) (by omega), scanL_small (l := a ++ 10 :: b) (by omega)]
  have hj := join_scan b a.length a (Nat.le_refl _) (a.length + 1) ((a ++ 10 :: b).length + 1) (b.length + 1) 0 (by omega) (by omega) (by omega)
  rw [hj, Nat.zero_add]
  have hsh := scanR_shift (b.length + 1) (b.drop (skipN false b)) (0 + skipN false b) (a.length + 1)
  rw [show 0 + skipN false b + (a.length + 1) = a.length + 1 + skipN false b by omega] at hsh
  have e1 : scanS (b.length + 1) b (a.length + 1) = scanR (b.length + 1) (b.drop (skipN false b)) (a.length + 1 + skipN false b) := rfl
  have e2 : scanS (b.length + 1) b 0 = scanR (b.length + 1) (b.drop (skipN false b)) (0 + skipN false b) := rfl
  rw [← e1, ← e2] at hsh
  refine ⟨fun h => by rw [if_neg h], fun h hb => ?_, fun h hb => ?_⟩
  · rw [if_pos h]
    have hb' : (scanS (b.length + 1) b (a.length + 1)).2.1 ≠ 0 := by rw [hsh.2.1]; exact hb
    rw [comb_bad _ hb']
    exact ⟨rfl, hsh.2.1, by rw [hsh.2.2 hb]; omega⟩
  · rw [if_pos h]
    have hb' : (scanS (b.length + 1) b (a.length + 1)).2.1 = 0 := by rw [hsh.2.1]; exact hb
    rw [comb_ok _ hb']
    refine ⟨hb', ?_⟩
    show List.map shape (_ ++ _) = List.map shape (_ ++ _)
    rw [List.map_append, List.map_append, hsh.1]

/-! places -/
/-- From place e on: each token at its place, what lies between is skipped. -/
def Chain (l : List UInt8) : Nat → List Tok → Prop
  | e, [] => e + skipN false (l.drop e) = l.length
  | e, t :: r => ∃ k : Nat, t.pl = (k : Int) ∧ k = e + skipN false (l.drop e) ∧ 0 < t.tx.length ∧ k + t.tx.length ≤ l.length ∧ t.tx = (l.drop k).take t.tx.length ∧ Chain l (k + t.tx.length) r
theorem scan_chain (l : List UInt8) (n : Nat) : ∀ e, e ≤ l.length → l.length - e < n → ((scanS n (l.drop e) e).2.1 = 0 → Chain l e (scanS n (l.drop e) e).1) ∧ ((scanS n (l.drop e) e).2.1 ≠ 0 → (scanS n (l.drop e) e).2.2 < l.length) := by
  induction n with
  | zero => intro e h1 h2; omega
  | succ n ih =>
    intro e h1 h2
    have hle := skipN_le (l.drop e) false
    rw [List.length_drop] at hle
    unfold scanS
    rw [List.drop_drop]
    by_cases hl : l.drop (e + skipN false (l.drop e)) = []
    · have : l.length ≤ e + skipN false (l.drop e) := by
        have := congrArg List.length hl
        rw [List.length_drop] at this; simp at this; omega
      rw [hl, scanR_nil]
      refine ⟨fun _ => ?_, fun h => absurd rfl h⟩
      show e + skipN false (l.drop e) = l.length
      omega
    · by_cases h0 : (firstT (l.drop (e + skipN false (l.drop e)))).1 = 0
      · have hf := first_len hl h0
        rw [List.length_drop] at hf
        rw [scanR_tokS hl h0]
        have ha : aft (l.drop (e + skipN false (l.drop e))) = l.drop (e + skipN false (l.drop e) + (firstT (l.drop (e + skipN false (l.drop e)))).2.2.1.length) := by unfold aft; rw [List.drop_drop]
        rw [ha]
        have hi := ih (e + skipN false (l.drop e) + (firstT (l.drop (e + skipN false (l.drop e)))).2.2.1.length) (by omega) (by omega)
        rw [comb_err]
        refine ⟨fun h => ?_, hi.2⟩
        rw [comb_ok _ h]
        exact ⟨e + skipN false (l.drop e), rfl, rfl, hf.1, by show _ + (firstT (l.drop (e + skipN false (l.drop e)))).2.2.1.length ≤ _; omega, hf.2.2, hi.1 h⟩
      · rw [scanR_bad hl h0]
        refine ⟨fun h => absurd h h0, fun _ => ?_⟩
        have : 0 < (l.drop (e + skipN false (l.drop e))).length := List.length_pos_iff.2 hl
        rw [List.length_drop] at this
        show e + skipN false (l.drop e) < l.length
        omega
theorem places {l : List UInt8} (h : l.length ≤ 4096) : ((scanL l).2.1 = 0 → Chain l 0 (scanL l).1) ∧ ((scanL l).2.1 ≠ 0 → (scanL l).2.2 < l.length) := by
  rw [scanL_small h]
  have := scan_chain l (l.length + 1) 0 (Nat.zero_le _) (by omega)
  rwa [List.drop_zero] at this
end Go.Proofs.YtbcgofmhplgfbaaDoor
