/-
  Texts and their tokens as plain lists of bytes: what is skipped, the token at hand, the tokens of a text. No program stands in this file.
-/
import Derived.Lib.ParseIntB
import Derived.Lib.ItoaNum
namespace Go.Proofs.YtbcgofmhplgfbaaDoor

def isLet (c : UInt8) : Bool := decide (97 ≤ c.toNat) && decide (c.toNat ≤ 122)
def isDig (c : UInt8) : Bool := decide (48 ≤ c.toNat) && decide (c.toNat ≤ 57)
def inW (c : UInt8) : Bool := isLet c || isDig c || c.toNat == 95
def isBlk (c : UInt8) : Bool := c.toNat == 32 || c.toNat == 9 || c.toNat == 10 || c.toNat == 13
def inLin (c : UInt8) : Bool := !(c.toNat == 10)
/-- How many bytes at the beginning fit. -/
def runL (p : UInt8 → Bool) (l : List UInt8) : Nat := (l.takeWhile p).length

def wordL : List (List UInt8) := [[110, 111, 100, 101], [114, 101, 116, 117, 114, 110, 115], [118, 97, 114], [108, 101, 116], [116, 101, 108], [105, 102], [116, 104, 101, 110], [101, 108, 115, 101], [102, 98, 121], [112, 114, 101], [119, 104, 101, 110], [117, 110, 108, 101, 115, 115], [109, 101, 114, 103, 101], [110, 111, 116], [116, 114, 117, 101], [102, 97, 108, 115, 101], [105, 110, 116], [98, 111, 111, 108]]
def markL : List (List UInt8) := [[60, 60], [62, 62], [60, 62], [60, 61], [62, 61], [45, 62], [40], [41], [58], [44], [59], [61], [60], [62], [43], [45], [42], [47], [37], [38], [124], [94]]
def isWord (l : List UInt8) : Bool := wordL.contains l
def isMark (l : List UInt8) : Bool := markL.contains l
def isName (l : List UInt8) : Bool := decide (l.length ≤ 16) && decide (0 < runL isLet l) && decide (runL inW l = l.length) && !isWord l

/-- How many bytes of blanks and remarks stand ahead; true: within a remark. -/
def skipN : Bool → List UInt8 → Nat
  | _, [] => 0
  | true, c :: r => if c.toNat = 10 then 1 + skipN false r else 1 + skipN true r
  | false, c :: r => if isBlk c then 1 + skipN false r else if c = 45 ∧ r.head? = some 45 then 1 + skipN true r else 0

def readN (l : List UInt8) : Option Int := match Lib.parseIntB 32 l with
  | .ok v => if Lib.itoa v = l then some v else none
  | _ => none
/-- A fault (or 0), a kind, a text and a number. -/
abbrev Fst := Int × Int × List UInt8 × Int
def wordT (w : List UInt8) : Fst := if isWord w then (0, 3, w, 0) else if 16 < w.length then (3, 0, [], 0) else (0, 1, w, 0)
def numT (w : List UInt8) : Fst := match readN w with
  | some v => (0, 2, w, v)
  | none => (16, 0, [], 0)
def mkN (l : List UInt8) : Nat := if isMark (l.take 2) then (l.take 2).length else if isMark (l.take 1) then 1 else 0
/-- The token with which a text begins. -/
def firstT (l : List UInt8) : Fst :=
  if 0 < runL isLet l then wordT (l.take (runL inW l))
  else if 0 < runL isDig l then numT (l.take (runL isDig l))
  else if 0 < mkN l then (0, 4, l.take (mkN l), 0) else (15, 0, [], 0)

structure Tok where
  kd : Int
  tx : List UInt8
  nv : Int
  pl : Int
/-- Tokens, a fault and a place. -/
abbrev Toks := List Tok × Int × Nat
def comb (a : List Tok) (q : Toks) : Toks := if q.2.1 = 0 then (a ++ q.1, q.2) else ([], q.2)
/-- The tokens from a place on at which one stands, or the end is. -/
def scanR : Nat → List UInt8 → Nat → Toks
  | 0, _, _ => ([], 0, 0)
  | _ + 1, [], _ => ([], 0, 0)
  | n + 1, c :: r, p =>
    if (firstT (c :: r)).1 = 0 then
      comb [⟨(firstT (c :: r)).2.1, (firstT (c :: r)).2.2.1, (firstT (c :: r)).2.2.2, p⟩]
        (scanR n (((c :: r).drop (firstT (c :: r)).2.2.1.length).drop (skipN false ((c :: r).drop (firstT (c :: r)).2.2.1.length)))
          (p + (firstT (c :: r)).2.2.1.length + skipN false ((c :: r).drop (firstT (c :: r)).2.2.1.length)))
    else ([], (firstT (c :: r)).1, p)
def scanL (l : List UInt8) : Toks := if 4096 < l.length then ([], 3, 0) else scanR (l.length + 1) (l.drop (skipN false l)) (skipN false l)
def textL : List Tok → List UInt8
  | [] => []
  | t :: r => t.tx ++ r.flatMap fun u => 32 :: u.tx
def shape (t : Tok) : Int × List UInt8 × Int := (t.kd, t.tx, t.nv)

theorem comb_nil (q : Toks) (h : q.2.1 ≠ 0 → q.1 = []) : comb [] q = q := by
  obtain ⟨a, e, p⟩ := q
  unfold comb
  split
  · rfl
  · rename_i h1
    have := h h1
    simp at this
    rw [this]
theorem comb_comb (a b : List Tok) (q : Toks) : comb a (comb b q) = comb (a ++ b) q := by
  unfold comb
  by_cases h : q.2.1 = 0 <;> simp [h]
theorem comb_err (a : List Tok) (q : Toks) : (comb a q).2 = q.2 := by
  unfold comb; split <;> rfl
theorem comb_bad (a : List Tok) {q : Toks} (h : q.2.1 ≠ 0) : comb a q = ([], q.2) := if_neg h
theorem comb_ok (a : List Tok) {q : Toks} (h : q.2.1 = 0) : comb a q = (a ++ q.1, q.2) := if_pos h

/-! runs -/
theorem runL_le (p : UInt8 → Bool) (l : List UInt8) : runL p l ≤ l.length := by
  unfold runL
  induction l with
  | nil => simp
  | cons c l ih => rw [List.takeWhile_cons]; split <;> simp; omega
theorem runL_cons (p : UInt8 → Bool) (c : UInt8) (l : List UInt8) : runL p (c :: l) = if p c then 1 + runL p l else 0 := by
  unfold runL
  rw [List.takeWhile_cons]
  split <;> simp; omega
theorem runL_pos {p : UInt8 → Bool} {c : UInt8} {l : List UInt8} : 0 < runL p (c :: l) ↔ p c = true := by
  rw [runL_cons]; split <;> simp_all; omega
theorem take_run (p : UInt8 → Bool) (l : List UInt8) : l.take (runL p l) = l.takeWhile p := by
  unfold runL
  induction l with
  | nil => rfl
  | cons c l ih =>
    rw [List.takeWhile_cons]
    split
    · simpa using ih
    · rfl
theorem take_all (p : UInt8 → Bool) (l : List UInt8) : ∀ c ∈ l.take (runL p l), p c = true := by
  rw [take_run]
  intro c hc
  induction l with
  | nil => cases hc
  | cons d l ih =>
    rw [List.takeWhile_cons] at hc
    split at hc
    · rcases List.mem_cons.1 hc with rfl | h
      · assumption
      · exact ih h
    · cases hc
theorem runL_all {p : UInt8 → Bool} {w : List UInt8} (h : ∀ c ∈ w, p c = true) : runL p w = w.length := by
  induction w with
  | nil => rfl
  | cons c w ih =>
    rw [runL_cons, if_pos (h c (by simp)), ih (fun d hd => h d (by simp [hd])), List.length_cons]; omega
theorem runL_app {p : UInt8 → Bool} {c : UInt8} (h : p c = false) (l b : List UInt8) : runL p (l ++ c :: b) = runL p l := by
  induction l with
  | nil => rw [List.nil_append, runL_cons, h]; rfl
  | cons d l ih => rw [List.cons_append, runL_cons, runL_cons, ih]
/-- A place up to which all fit, and at which one does not, or the end is. -/
theorem runL_at {p : UInt8 → Bool} {l : List UInt8} {k : Nat} (hk : k ≤ l.length) (h : ∀ j (hj : j < k), p (l[j]'(by omega)) = true) (he : ∀ hl : k < l.length, p (l[k]'hl) = false) : runL p l = k := by
  induction l generalizing k with
  | nil => simp at hk; subst hk; rfl
  | cons c l ih =>
    rw [runL_cons]
    cases k with
    | zero => rw [if_neg]; have := he (by simp); simp at this; simp [this]
    | succ k =>
      rw [if_pos (by have := h 0 (by omega); simpa using this)]
      have := ih (k := k) (by simpa using hk) (fun j hj => by have := h (j + 1) (by omega); simpa using this) (fun hl => by have := he (by simp; omega); simpa using this)
      omega

/-! what is skipped -/
theorem skipN_le (l : List UInt8) : ∀ b, skipN b l ≤ l.length := by
  induction l with
  | nil => intro b; cases b <;> simp [skipN]
  | cons c r ih =>
    intro b
    have h1 := ih true; have h2 := ih false
    cases b <;> simp only [skipN, List.length_cons] <;> (repeat' split) <;> omega
theorem skip_blank (l : List UInt8) : skipN false l = runL isBlk l + skipN false (l.drop (runL isBlk l)) := by
  induction l with
  | nil => rfl
  | cons c r ih =>
    rw [runL_cons]
    by_cases h : isBlk c = true
    · rw [if_pos h, skipN, if_pos h, Nat.add_comm 1 (runL isBlk r), List.drop_succ_cons]; omega
    · rw [if_neg h]; simp
theorem skip_line (l : List UInt8) : skipN true l = runL inLin l + skipN false (l.drop (runL inLin l)) := by
  induction l with
  | nil => rfl
  | cons c r ih =>
    rw [runL_cons]
    by_cases h : c.toNat = 10
    · rw [if_neg (by simp [inLin, h])]
      have hb : isBlk c = true := by simp [isBlk, h]
      simp [skipN, h, hb]
    · rw [if_pos (by simp [inLin, h]), skipN, if_neg h, Nat.add_comm 1 (runL inLin r), List.drop_succ_cons]; omega
theorem skip_dash {l : List UInt8} (h : l.take 2 = [45, 45]) : skipN false l = skipN true l := by
  obtain ⟨r, rfl⟩ : ∃ r, l = 45 :: 45 :: r := by
    match l, h with
    | [], h => cases h
    | [a], h => cases h
    | a :: b :: r, h => simp at h; exact ⟨r, by rw [h.1, h.2]⟩
  have a : skipN false (45 :: 45 :: r) = 1 + skipN true (45 :: r) := by rw [skipN.eq_3 (45 : UInt8) (45 :: r), if_neg (by decide), if_pos ⟨rfl, rfl⟩]
  have b : skipN true (45 :: 45 :: r) = 1 + skipN true (45 :: r) := by rw [skipN.eq_2 (45 : UInt8) (45 :: r), if_neg (by decide)]
  rw [a, b]
theorem skip_stop {l : List UInt8} (hb : runL isBlk l = 0) (h : l.take 2 ≠ [45, 45]) : skipN false l = 0 := by
  match l with
  | [] => rfl
  | c :: r =>
    rw [runL_cons] at hb
    have hc : ¬ isBlk c = true := by intro e; rw [if_pos e] at hb; omega
    rw [skipN, if_neg hc, if_neg]
    rintro ⟨rfl, e⟩
    match r, e with
    | d :: r, e => simp at e; subst e; exact h rfl
/-- Behind what is skipped nothing more is skipped. -/
theorem skip_done (l : List UInt8) : ∀ b, (skipN b l < l.length ∨ b = false) → skipN false (l.drop (skipN b l)) = 0 := by
  induction l with
  | nil => intro b _; cases b <;> rfl
  | cons c r ih =>
    intro b hb
    cases b with
    | true =>
      rw [skipN] at hb ⊢
      split at hb
      · rename_i h
        rw [if_pos h, Nat.add_comm 1, List.drop_succ_cons]
        exact ih false (.inr rfl)
      · rename_i h
        rw [if_neg h, Nat.add_comm 1, List.drop_succ_cons]
        rcases hb with hb | hb
        · exact ih true (.inl (by simp at hb; omega))
        · cases hb
    | false =>
      by_cases h : isBlk c = true
      · rw [skipN, if_pos h, Nat.add_comm 1, List.drop_succ_cons]
        exact ih false (.inr rfl)
      · by_cases h2 : c = 45 ∧ r.head? = some 45
        · rw [skipN, if_neg h, if_pos h2, Nat.add_comm 1, List.drop_succ_cons]
          by_cases hl : skipN true r < r.length
          · exact ih true (.inl hl)
          · have := skipN_le r true
            rw [List.drop_of_length_le (by omega)]; rfl
        · have e : skipN false (c :: r) = 0 := by rw [skipN, if_neg h, if_neg h2]
          rw [e, List.drop_zero, e]
end Go.Proofs.YtbcgofmhplgfbaaDoor
