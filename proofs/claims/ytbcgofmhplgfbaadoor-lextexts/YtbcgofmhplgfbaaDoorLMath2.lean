/-
  What a token is, again by itself and ahead of a blank; the tokens of what is written, of two texts, and their places. No program stands in this file.
-/
import Derived.Test.YtbcgofmhplgfbaaDoorLMath
namespace Go.Proofs.YtbcgofmhplgfbaaDoor

theorem mark_mem {m : List UInt8} (h : isMark m = true) : m ∈ markL := by simpa [isMark] using h
theorem mark_no : ∀ m ∈ markL, (10 : UInt8) ∉ m ∧ (32 : UInt8) ∉ m := by decide
theorem mark_nil : isMark [] = false := by decide
theorem mkN_le (l : List UInt8) : mkN l ≤ l.length := by
  unfold mkN
  split
  · rw [List.length_take]; omega
  · split
    · rename_i h
      match l, h with
      | [], h => rw [List.take_nil, mark_nil] at h; cases h
      | _ :: _, _ => simp
    · omega
theorem mkN_le2 (l : List UInt8) : mkN l ≤ 2 := by
  unfold mkN
  split
  · rw [List.length_take]; omega
  · split <;> omega
theorem wordT_tx {w : List UInt8} (h : (wordT w).1 = 0) : (wordT w).2.2.1 = w := by
  unfold wordT at h ⊢
  split
  · rfl
  · rename_i h1
    rw [if_neg h1] at h
    split
    · rename_i h2
      rw [if_pos h2] at h; cases h
    · rfl
theorem numT_tx {w : List UInt8} (h : (numT w).1 = 0) : (numT w).2.2.1 = w := by
  unfold numT at h ⊢
  split
  · rfl
  · rename_i h1
    rw [h1] at h; cases h
theorem first_let {c : UInt8} {r : List UInt8} (h : isLet c = true) : firstT (c :: r) = wordT ((c :: r).take (runL inW (c :: r))) := by
  unfold firstT; rw [if_pos (runL_pos.2 h)]
theorem first_dig {c : UInt8} {r : List UInt8} (h : isLet c = false) (h2 : isDig c = true) : firstT (c :: r) = numT ((c :: r).take (runL isDig (c :: r))) := by
  unfold firstT; rw [if_neg (by rw [runL_pos, h]; simp), if_pos (runL_pos.2 h2)]
theorem first_mark {c : UInt8} {r : List UInt8} (h : isLet c = false) (h2 : isDig c = false) : firstT (c :: r) = if 0 < mkN (c :: r) then (0, 4, (c :: r).take (mkN (c :: r)), 0) else (15, 0, [], 0) := by
  unfold firstT; rw [if_neg (by rw [runL_pos, h]; simp), if_neg (by rw [runL_pos, h2]; simp)]
theorem first_tx {l : List UInt8} (hl : l ≠ []) (h : (firstT l).1 = 0) : ∃ k, 0 < k ∧ k ≤ l.length ∧ (firstT l).2.2.1 = l.take k := by
  obtain ⟨c, r, rfl⟩ := List.exists_cons_of_ne_nil hl
  rcases h1 : isLet c with _ | _
  · rcases h2 : isDig c with _ | _
    · rw [first_mark h1 h2] at h ⊢
      split at h
      · rename_i h3
        rw [if_pos h3]
        exact ⟨_, h3, mkN_le _, rfl⟩
      · cases h
    · rw [first_dig h1 h2] at h ⊢
      rw [numT_tx h]
      exact ⟨_, runL_pos.2 h2, runL_le _ _, rfl⟩
  · rw [first_let h1] at h ⊢
    rw [wordT_tx h]
    exact ⟨_, runL_pos.2 (by simp [inW, h1]), runL_le _ _, rfl⟩
theorem first_len {l : List UInt8} (hl : l ≠ []) (h : (firstT l).1 = 0) : 0 < (firstT l).2.2.1.length ∧ (firstT l).2.2.1.length ≤ l.length ∧ (firstT l).2.2.1 = l.take (firstT l).2.2.1.length := by
  obtain ⟨k, h1, h2, h3⟩ := first_tx hl h
  have : (firstT l).2.2.1.length = k := by rw [h3, List.length_take]; omega
  rw [this]
  exact ⟨h1, h2, h3⟩
theorem mk_app {c : UInt8} (hc : ∀ m ∈ markL, c ∉ m) {l : List UInt8} (hl : l ≠ []) (b : List UInt8) : mkN (l ++ c :: b) = mkN l := by
  match l, hl with
  | [d], _ =>
    have h2 : isMark [d, c] = false := by
      cases e : isMark [d, c]
      · rfl
      · exact absurd (by simp) (hc _ (mark_mem e))
    show (if isMark [d, c] then _ else if isMark [d] then 1 else 0) = (if isMark [d] then 1 else if isMark [d] then 1 else 0)
    rw [h2, if_neg (by simp)]
    split <;> rfl
  | d :: e :: r, _ => rfl
/-- What ends every token. -/
structure Sep (c : UInt8) : Prop where
  l : isLet c = false
  w : inW c = false
  d : isDig c = false
  m : ∀ m ∈ markL, c ∉ m
theorem sep10 : Sep 10 := ⟨by decide, by decide, by decide, fun m h => (mark_no m h).1⟩
theorem sep32 : Sep 32 := ⟨by decide, by decide, by decide, fun m h => (mark_no m h).2⟩
theorem take_app {l : List UInt8} {k : Nat} (h : k ≤ l.length) (b : List UInt8) : (l ++ b).take k = l.take k := by
  rw [List.take_append_of_le_length h]
theorem first_app {c : UInt8} (hc : Sep c) {l : List UInt8} (hl : l ≠ []) (b : List UInt8) : firstT (l ++ c :: b) = firstT l := by
  unfold firstT
  rw [runL_app hc.l, runL_app hc.w, runL_app hc.d, mk_app hc.m hl, take_app (runL_le _ _), take_app (runL_le _ _), take_app (mkN_le _)]
/-- A token's text is that token again. -/
theorem first_own {l : List UInt8} (hl : l ≠ []) (h : (firstT l).1 = 0) : firstT (firstT l).2.2.1 = firstT l := by
  obtain ⟨c, r, rfl⟩ := List.exists_cons_of_ne_nil hl
  rcases h1 : isLet c with _ | _
  · rcases h2 : isDig c with _ | _
    · rw [first_mark h1 h2] at h ⊢
      split at h
      · rename_i h3
        rw [if_pos h3]
        show firstT ((c :: r).take (mkN (c :: r))) = _
        have hle := mkN_le2 (c :: r)
        have hm : mkN ((c :: r).take (mkN (c :: r))) = mkN (c :: r) := by
          unfold mkN at h3 hle ⊢
          by_cases h4 : isMark ((c :: r).take 2) = true
          · rw [if_pos h4] at h3 hle ⊢
            have : (c :: r).take ((c :: r).take 2).length = (c :: r).take 2 := by
              rw [List.length_take]
              by_cases h5 : 2 ≤ (c :: r).length
              · rw [Nat.min_eq_left h5]
              · rw [Nat.min_eq_right (by omega), List.take_of_length_le (by omega), List.take_of_length_le (by omega)]
            rw [this, List.take_take, Nat.min_self, if_pos h4]
          · rw [if_neg h4] at h3 hle ⊢
            by_cases h5 : isMark ((c :: r).take 1) = true
            · rw [if_pos h5]
              show (if isMark ([c].take 2) = true then ([c].take 2).length else _) = 1
              rw [if_pos (by simpa using h5)]; rfl
            · rw [if_neg h5] at h3; omega
        obtain ⟨k, hk⟩ : ∃ k, mkN (c :: r) = k + 1 := ⟨mkN (c :: r) - 1, by omega⟩
        rw [hk] at hm h3 ⊢
        rw [List.take_succ_cons] at hm ⊢
        rw [first_mark h1 h2, hm, if_pos (by omega)]
        rw [List.take_succ_cons, List.take_take, Nat.min_self]
      · cases h
    · rw [first_dig h1 h2] at h ⊢
      rw [numT_tx h]
      have ha := take_all isDig (c :: r)
      have hp : 0 < runL isDig (c :: r) := runL_pos.2 h2
      obtain ⟨k, hk⟩ : ∃ k, runL isDig (c :: r) = k + 1 := ⟨runL isDig (c :: r) - 1, by omega⟩
      rw [hk, List.take_succ_cons] at ha ⊢
      rw [first_dig h1 h2, runL_all ha, List.take_length]
  · rw [first_let h1] at h ⊢
    rw [wordT_tx h]
    have ha := take_all inW (c :: r)
    have hp : 0 < runL inW (c :: r) := runL_pos.2 (by simp [inW, h1])
    obtain ⟨k, hk⟩ : ∃ k, runL inW (c :: r) = k + 1 := ⟨runL inW (c :: r) - 1, by omega⟩
    rw [hk, List.take_succ_cons] at ha ⊢
    rw [first_let h1, runL_all ha, List.take_length]
theorem mark_skip : ∀ m ∈ markL, skipN false m = 0 ∧ ∀ b, skipN false (m ++ 32 :: b) = 0 := by
  intro m hm
  simp only [markL, List.mem_cons, List.not_mem_nil, or_false] at hm
  rcases hm with h | h | h | h | h | h | h | h | h | h | h | h | h | h | h | h | h | h | h | h | h | h <;> subst h <;> exact ⟨rfl, fun _ => rfl⟩
theorem skip_head {c : UInt8} (h1 : isBlk c = false) (h2 : c ≠ 45) (r : List UInt8) : skipN false (c :: r) = 0 := by
  rw [skipN, if_neg (by rw [h1]; simp), if_neg (fun e => h2 e.1)]
theorem let_head {c : UInt8} (h : isLet c = true ∨ isDig c = true) : isBlk c = false ∧ c ≠ 45 := by
  have hn : (97 ≤ c.toNat ∧ c.toNat ≤ 122) ∨ (48 ≤ c.toNat ∧ c.toNat ≤ 57) := by simpa [isLet, isDig] using h
  constructor
  · simp [isBlk]; omega
  · rintro rfl; revert hn; decide
/-- At a token nothing is skipped. -/
theorem first_skip {l : List UInt8} (hl : l ≠ []) (h : (firstT l).1 = 0) : skipN false (firstT l).2.2.1 = 0 ∧ ∀ b, skipN false ((firstT l).2.2.1 ++ 32 :: b) = 0 := by
  obtain ⟨c, r, rfl⟩ := List.exists_cons_of_ne_nil hl
  rcases h1 : isLet c with _ | _
  · rcases h2 : isDig c with _ | _
    · rw [first_mark h1 h2] at h ⊢
      split at h
      · rename_i h3
        rw [if_pos h3]
        apply mark_skip
        show (c :: r).take (mkN (c :: r)) ∈ markL
        apply mark_mem
        unfold mkN at h3 ⊢
        by_cases h4 : isMark ((c :: r).take 2) = true
        · rw [if_pos h4]
          have : (c :: r).take ((c :: r).take 2).length = (c :: r).take 2 := by
            rw [List.length_take]
            by_cases h5 : 2 ≤ (c :: r).length
            · rw [Nat.min_eq_left h5]
            · rw [Nat.min_eq_right (by omega), List.take_of_length_le (by omega), List.take_of_length_le (by omega)]
          rw [this]; exact h4
        · rw [if_neg h4] at h3 ⊢
          split
          · assumption
          · rename_i h5
            rw [if_neg h5] at h3; omega
      · cases h
    · rw [first_dig h1 h2] at h ⊢
      rw [numT_tx h]
      have hh := let_head (c := c) (.inr h2)
      have hp : 0 < runL isDig (c :: r) := runL_pos.2 h2
      obtain ⟨k, hk⟩ : ∃ k, runL isDig (c :: r) = k + 1 := ⟨runL isDig (c :: r) - 1, by omega⟩
      rw [hk, List.take_succ_cons]
      exact ⟨skip_head hh.1 hh.2 _, fun b => skip_head hh.1 hh.2 _⟩
  · rw [first_let h1] at h ⊢
    rw [wordT_tx h]
    have hh := let_head (c := c) (.inl h1)
    have hp : 0 < runL inW (c :: r) := runL_pos.2 (by simp [inW, h1])
    obtain ⟨k, hk⟩ : ∃ k, runL inW (c :: r) = k + 1 := ⟨runL inW (c :: r) - 1, by omega⟩
    rw [hk, List.take_succ_cons]
    exact ⟨skip_head hh.1 hh.2 _, fun b => skip_head hh.1 hh.2 _⟩

/-! the tokens -/
theorem scanR_nil (n p : Nat) : scanR n [] p = ([], 0, 0) := by cases n <;> rfl
theorem scanR_bad {n p : Nat} {l : List UInt8} (hl : l ≠ []) (h : (firstT l).1 ≠ 0) : scanR (n + 1) l p = ([], (firstT l).1, p) := by
  obtain ⟨c, r, rfl⟩ := List.exists_cons_of_ne_nil hl
  rw [scanR, if_neg h]
/-- What is left behind a token, and where. -/
def aft (l : List UInt8) : List UInt8 := l.drop (firstT l).2.2.1.length
def tokA (l : List UInt8) (p : Nat) : Tok := ⟨(firstT l).2.1, (firstT l).2.2.1, (firstT l).2.2.2, p⟩
theorem scanR_tok {n p : Nat} {l : List UInt8} (hl : l ≠ []) (h : (firstT l).1 = 0) :
    scanR (n + 1) l p = comb [tokA l p] (scanR n ((aft l).drop (skipN false (aft l))) (p + (firstT l).2.2.1.length + skipN false (aft l))) := by
  obtain ⟨c, r, rfl⟩ := List.exists_cons_of_ne_nil hl
  rw [scanR, if_pos h]; rfl
theorem aft_len {l : List UInt8} (hl : l ≠ []) (h : (firstT l).1 = 0) : ((aft l).drop (skipN false (aft l))).length + 1 ≤ l.length := by
  have := first_len hl h
  unfold aft
  rw [List.length_drop, List.length_drop]
  omega
theorem scanR_fuel (n : Nat) : ∀ (m : Nat) (l : List UInt8) (p : Nat), l.length < n → l.length < m → scanR n l p = scanR m l p := by
  induction n with
  | zero => intro m l p h; omega
  | succ n ih =>
    intro m l p h1 h2
    obtain ⟨m, rfl⟩ : ∃ k, m = k + 1 := ⟨m - 1, by omega⟩
    by_cases hl : l = []
    · subst hl; rw [scanR_nil, scanR_nil]
    · by_cases h : (firstT l).1 = 0
      · have := aft_len hl h
        rw [scanR_tok hl h, scanR_tok hl h, ih m _ _ (by omega) (by omega)]
      · rw [scanR_bad hl h, scanR_bad hl h]
theorem scanR_err_nil (n : Nat) : ∀ (l : List UInt8) (p : Nat), (scanR n l p).2.1 ≠ 0 → (scanR n l p).1 = [] := by
  induction n with
  | zero => intro l p h; exact absurd rfl h
  | succ n ih =>
    intro l p h
    by_cases hl : l = []
    · subst hl; rw [scanR_nil]
    · by_cases h0 : (firstT l).1 = 0
      · rw [scanR_tok hl h0] at h ⊢
        rw [comb_err] at h
        rw [comb_bad _ h]
      · rw [scanR_bad hl h0]
theorem scanR_ok0 (n : Nat) : ∀ (l : List UInt8) (p : Nat), (scanR n l p).2.1 = 0 → (scanR n l p).2 = (0, 0) := by
  induction n with
  | zero => intro l p _; rfl
  | succ n ih =>
    intro l p h
    by_cases hl : l = []
    · subst hl; rw [scanR_nil]
    · by_cases h0 : (firstT l).1 = 0
      · rw [scanR_tok hl h0] at h ⊢
        rw [comb_err] at h ⊢
        exact ih _ _ h
      · rw [scanR_bad hl h0] at h; exact absurd h h0
end Go.Proofs.YtbcgofmhplgfbaaDoor
