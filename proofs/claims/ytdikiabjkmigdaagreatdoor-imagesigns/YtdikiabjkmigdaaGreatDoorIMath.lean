/-
  Plain mathematics of instructions: an instruction is a pair (Op, N); its width, its fault, its bytes; codes as bytes and back. No program stands in this file.
-/
import Derived.Test.YtdikiabjkmigdaaGreatDoorOMath
namespace Go.Proofs.YtdikiabjkmigdaaGreatDoor
set_option maxRecDepth 20000
open Go.RowKit

/-- How many bytes N has; 0: there is no such Op. -/
def wid (o : Int) : Nat := if o = 1 then 4 else if o = 10 ∨ o = 11 then 2 else if 2 ≤ o ∧ o ≤ 9 then 1 else 0
/-- The format of an Op. -/
def fmtV (o : Int) : Int := if o = 1 then 1 else if 2 ≤ o ∧ o ≤ 7 then 2 else if o = 8 then 3 else if o = 9 then 4 else if o = 10 ∨ o = 11 then 5 else 0
/-- What is wrong of an instruction. -/
def rgtE (o x : Int) : Int :=
  if o = 1 then 0 else if o = 8 then (if 1 ≤ x ∧ x ≤ 2 then 0 else 9) else if o = 9 then (if 1 ≤ x ∧ x ≤ 16 then 0 else 9)
  else if o = 10 ∨ o = 11 then (if 0 ≤ x ∧ x ≤ 65535 then 0 else 10) else if 2 ≤ o ∧ o ≤ 7 then (if 0 ≤ x ∧ x ≤ 255 then 0 else 10) else 9
/-- N as an unsigned word. -/
def plN (x : Int) : Nat := (x % 4294967296).toNat
def insB (o x : Int) : List UInt8 := byt o.toNat :: leB (wid o) (plN x)
def bytI (o x : Int) : List UInt8 := if rgtE o x = 0 then insB o x else []
def sizI (o x : Int) : Nat := if rgtE o x = 0 then 1 + wid o else 0
theorem wid_le (o : Int) : wid o ≤ 4 := by unfold wid; split; omega; split; omega; split <;> omega
theorem rgt_op {o x : Int} (h : rgtE o x = 0) : 1 ≤ o ∧ o ≤ 11 := by
  unfold rgtE at h
  by_cases h1 : o = 1
  · omega
  · by_cases h2 : o = 8
    · omega
    · by_cases h3 : o = 9
      · omega
      · by_cases h4 : o = 10 ∨ o = 11
        · omega
        · by_cases h5 : 2 ≤ o ∧ o ≤ 7
          · omega
          · rw [if_neg h1, if_neg h2, if_neg h3, if_neg h4, if_neg h5] at h; omega
theorem wid_pos {o : Int} (h : 1 ≤ o ∧ o ≤ 11) : 1 ≤ wid o := by
  unfold wid; split; omega; split; omega; rw [if_pos (by omega)]; omega
theorem wid_zero {o : Int} (h : wid o = 0) : ¬ (1 ≤ o ∧ o ≤ 11) := fun g => by have := wid_pos g; omega
theorem wid_out {o : Int} (h : ¬ (1 ≤ o ∧ o ≤ 11)) : wid o = 0 := by
  unfold wid; rw [if_neg (by omega), if_neg (by omega), if_neg (by omega)]
theorem rgt_bad {o x : Int} (h : wid o = 0) : rgtE o x = 9 := by
  have := wid_zero h
  unfold rgtE; rw [if_neg (by omega), if_neg (by omega), if_neg (by omega), if_neg (by omega), if_neg (by omega)]
theorem rgt_range {o x : Int} (hx : -2147483648 ≤ x ∧ x ≤ 2147483647) (h : rgtE o x = 0) : plN x < 256 ^ wid o ∧ (wid o < 4 → (plN x : Int) = x) := by
  have ho := rgt_op h
  unfold plN
  rcases (show o = 1 ∨ o = 2 ∨ o = 3 ∨ o = 4 ∨ o = 5 ∨ o = 6 ∨ o = 7 ∨ o = 8 ∨ o = 9 ∨ o = 10 ∨ o = 11 by omega) with rfl | rfl | rfl | rfl | rfl | rfl | rfl | rfl | rfl | rfl | rfl <;> simp [rgtE, wid] at h ⊢ <;> omega
theorem insB_len (o x : Int) : (insB o x).length = 1 + wid o := by unfold insB; rw [List.length_cons, leB_len]; omega
theorem bytI_ok {o x : Int} (h : rgtE o x = 0) : bytI o x = insB o x := if_pos h
theorem bytI_bad {o x : Int} (h : rgtE o x ≠ 0) : bytI o x = [] := if_neg h
theorem bytI_len (o x : Int) : (bytI o x).length = sizI o x := by
  unfold bytI sizI; split
  · exact insB_len o x
  · rfl
theorem sizI_ok {o x : Int} (h : rgtE o x = 0) : sizI o x = 1 + wid o := if_pos h
theorem sizI_bad {o x : Int} (h : rgtE o x ≠ 0) : sizI o x = 0 := if_neg h
theorem sizI_le (o x : Int) : sizI o x ≤ 5 := by unfold sizI; have := wid_le o; split <;> omega

/-- Whether the instruction at a place is read, what it is, and where it ends. -/
def opAt (l : List UInt8) (a : Nat) : Int := (((l.drop a).headD 0).toNat : Int)
def numAt (l : List UInt8) (a : Nat) : Int := wrap32 (leN ((l.drop (a + 1)).take (wid (opAt l a))))
def rdE (l : List UInt8) (a : Int) : Int :=
  if a < 0 ∨ (l.length : Int) < a then 1 else if a = l.length then 2 else if wid (opAt l a.toNat) = 0 then 9
  else if l.length < a.toNat + 1 + wid (opAt l a.toNat) then 2 else rgtE (opAt l a.toNat) (numAt l a.toNat)
def rdO (l : List UInt8) (a : Int) : Int := if rdE l a = 0 then opAt l a.toNat else 0
def rdX (l : List UInt8) (a : Int) : Int := if rdE l a = 0 then numAt l a.toNat else 0
def rdT (l : List UInt8) (a : Int) : Int := if rdE l a = 0 then a + 1 + wid (opAt l a.toNat) else 0
theorem opAt_get {l : List UInt8} {a : Nat} (h : a < l.length) : opAt l a = (l[a].toNat : Int) := by
  unfold opAt; rw [drop_step l a h]; rfl
theorem rdE_out {l : List UInt8} {a : Int} (h : a < 0 ∨ (l.length : Int) < a) : rdE l a = 1 := if_pos h
theorem rdE_end (l : List UInt8) : rdE l (l.length : Int) = 2 := by unfold rdE; rw [if_neg (by omega), if_pos rfl]
theorem rdE_op {l : List UInt8} {a : Nat} (h : a < l.length) (hw : wid (opAt l a) = 0) : rdE l (a : Int) = 9 := by
  unfold rdE; rw [if_neg (by omega), if_neg (by omega), Int.toNat_natCast, if_pos hw]
theorem rdE_short {l : List UInt8} {a : Nat} (h : a < l.length) (hw : ¬ wid (opAt l a) = 0) (h2 : ¬ (a + 1 + wid (opAt l a) ≤ l.length)) : rdE l (a : Int) = 2 := by
  unfold rdE; rw [if_neg (by omega), if_neg (by omega), Int.toNat_natCast, if_neg hw, if_pos (by omega)]
theorem rdE_in {l : List UInt8} {a : Nat} (hw : ¬ wid (opAt l a) = 0) (h2 : a + 1 + wid (opAt l a) ≤ l.length) : rdE l (a : Int) = rgtE (opAt l a) (numAt l a) := by
  unfold rdE; rw [if_neg (by omega), if_neg (by omega), Int.toNat_natCast, if_neg hw, if_neg (by omega)]
theorem rd_bad {l : List UInt8} {a : Int} (h : rdE l a ≠ 0) : rdO l a = 0 ∧ rdX l a = 0 ∧ rdT l a = 0 := ⟨if_neg h, if_neg h, if_neg h⟩
theorem rd_ok {l : List UInt8} {a : Nat} (h : rdE l (a : Int) = 0) : rdO l a = opAt l a ∧ rdX l a = numAt l a ∧ rdT l a = ((a + 1 + wid (opAt l a) : Nat) : Int) := by
  refine ⟨if_pos h, if_pos h, (if_pos h).trans ?_⟩
  rw [Int.toNat_natCast]; omega
/-- What is read is in its bounds. -/
theorem rd_zero {l : List UInt8} {a : Nat} (h : rdE l (a : Int) = 0) : a + 1 + wid (opAt l a) ≤ l.length ∧ 1 ≤ wid (opAt l a) ∧ rgtE (opAt l a) (numAt l a) = 0 := by
  by_cases h0 : a < l.length
  · by_cases h1 : wid (opAt l a) = 0
    · rw [rdE_op h0 h1] at h; omega
    · by_cases h2 : a + 1 + wid (opAt l a) ≤ l.length
      · exact ⟨h2, by omega, by rw [← rdE_in h1 h2]; exact h⟩
      · rw [rdE_short h0 h1 h2] at h; omega
  · by_cases h1 : a = l.length
    · subst h1; rw [rdE_end] at h; omega
    · rw [rdE_out (by omega)] at h; omega
theorem wrap32_rng (n : Int) : -2147483648 ≤ wrap32 n ∧ wrap32 n ≤ 2147483647 := by unfold wrap32; omega
theorem numAt_rng (l : List UInt8) (a : Nat) : -2147483648 ≤ numAt l a ∧ numAt l a ≤ 2147483647 := wrap32_rng _
theorem plN_wrap {n : Nat} (h : n < 4294967296) : plN (wrap32 n) = n := by unfold plN wrap32; omega
theorem wrap_plN {x : Int} (hx : -2147483648 ≤ x ∧ x ≤ 2147483647) : wrap32 (plN x) = x := by unfold plN wrap32; omega
theorem p256_le {k : Nat} (h : k ≤ 4) : 256 ^ k ≤ 4294967296 := by
  rcases (show k = 0 ∨ k = 1 ∨ k = 2 ∨ k = 3 ∨ k = 4 by omega) with rfl | rfl | rfl | rfl | rfl <;> decide
/-- The bytes that were read are those of the instruction. -/
theorem rd_bytes {l : List UInt8} {a : Nat} (h : rdE l (a : Int) = 0) : (l.drop a).take (1 + wid (opAt l a)) = insB (opAt l a) (numAt l a) := by
  obtain ⟨h1, h2, h3⟩ := rd_zero h
  have h0 : a < l.length := by omega
  have hl : ((l.drop (a + 1)).take (wid (opAt l a))).length = wid (opAt l a) := by simp; omega
  have hlt := leN_lt ((l.drop (a + 1)).take (wid (opAt l a)))
  rw [hl] at hlt
  have hp := p256_le (wid_le (opAt l a))
  unfold insB
  rw [show plN (numAt l a) = leN ((l.drop (a + 1)).take (wid (opAt l a))) from plN_wrap (by omega)]
  have e := leB_leN ((l.drop (a + 1)).take (wid (opAt l a)))
  rw [hl] at e
  rw [e, drop_step l a h0, Nat.add_comm 1, List.take_succ_cons, opAt_get h0, Int.toNat_natCast, byt_of]
/-- Where an instruction's bytes stand it is read. -/
theorem rd_there (p s : List UInt8) {o x : Int} (hx : -2147483648 ≤ x ∧ x ≤ 2147483647) (h : rgtE o x = 0) :
    rdE (p ++ insB o x ++ s) (p.length : Int) = 0 ∧ opAt (p ++ insB o x ++ s) p.length = o ∧ numAt (p ++ insB o x ++ s) p.length = x := by
  have ho := rgt_op h
  have hw := wid_pos ho
  have hr := (rgt_range hx h).1
  have e1 : opAt (p ++ insB o x ++ s) p.length = o := by
    unfold opAt
    rw [List.append_assoc, List.drop_left]
    show ((byt o.toNat).toNat : Int) = o
    rw [byt_toNat]; omega
  have e2 : numAt (p ++ insB o x ++ s) p.length = x := by
    unfold numAt
    rw [e1, List.append_assoc, ← List.drop_drop, List.drop_left]
    unfold insB
    rw [List.cons_append, List.drop_succ_cons, List.drop_zero, List.take_left' (leB_len _ _), leN_leB, Nat.mod_eq_of_lt hr]
    exact wrap_plN hx
  refine ⟨?_, e1, e2⟩
  rw [rdE_in (by rw [e1]; omega) (by rw [e1, List.length_append, List.length_append, insB_len]; omega), e1, e2]
  exact h

/-- Codes. -/
def okI (i : Int × Int) : Prop := -2147483648 ≤ i.2 ∧ i.2 ≤ 2147483647
def badE : List (Int × Int) → Int
  | [] => 0
  | i :: l => if rgtE i.1 i.2 = 0 then badE l else rgtE i.1 i.2
def allB (l : List (Int × Int)) : List UInt8 := l.flatMap fun i => insB i.1 i.2
def encE (l : List (Int × Int)) : Int := if 600 < l.length then 3 else badE l
def encL (l : List (Int × Int)) : List UInt8 := if encE l = 0 then allB l else []
theorem badE_app (l m : List (Int × Int)) (h : badE l = 0) : badE (l ++ m) = badE m := by
  induction l with
  | nil => rfl
  | cons i l ih =>
    unfold badE at h
    by_cases hi : rgtE i.1 i.2 = 0
    · rw [if_pos hi] at h
      rw [List.cons_append, badE, if_pos hi, ih h]
    · rw [if_neg hi] at h; exact absurd h hi
theorem badE_app_bad (l m : List (Int × Int)) (h : badE l ≠ 0) : badE (l ++ m) = badE l := by
  induction l with
  | nil => exact absurd rfl h
  | cons i l ih =>
    rw [List.cons_append, badE, badE]
    rw [badE] at h
    by_cases hi : rgtE i.1 i.2 = 0
    · rw [if_pos hi] at h ⊢; rw [if_pos hi]; exact ih h
    · rw [if_neg hi, if_neg hi]
theorem badE_mem {l : List (Int × Int)} (h : badE l = 0) : ∀ i ∈ l, rgtE i.1 i.2 = 0 := by
  induction l with
  | nil => intro i hi; cases hi
  | cons j l ih =>
    rw [badE] at h
    by_cases hj : rgtE j.1 j.2 = 0
    · rw [if_pos hj] at h
      intro i hi
      rcases List.mem_cons.1 hi with rfl | hi
      · exact hj
      · exact ih h i hi
    · rw [if_neg hj] at h; exact absurd h hj
theorem badE_take {l : List (Int × Int)} {j : Nat} (h : j < l.length) (hb : badE (l.take j) = 0) : badE (l.take (j + 1)) = rgtE l[j].1 l[j].2 ∧ (rgtE l[j].1 l[j].2 ≠ 0 → badE l = rgtE l[j].1 l[j].2) := by
  have e : badE (l.take (j + 1)) = rgtE l[j].1 l[j].2 := by
    rw [List.take_succ_eq_append_getElem h, badE_app _ _ hb]
    show (if rgtE l[j].1 l[j].2 = 0 then badE [] else rgtE l[j].1 l[j].2) = _
    split
    · rename_i h0; rw [h0]; rfl
    · rfl
  refine ⟨e, fun hn => ?_⟩
  have h2 := badE_app_bad (l.take (j + 1)) (l.drop (j + 1)) (by rw [e]; exact hn)
  rw [List.take_append_drop] at h2
  rw [h2, e]
theorem allB_app (l m : List (Int × Int)) : allB (l ++ m) = allB l ++ allB m := by simp [allB]
theorem allB_take {l : List (Int × Int)} {j : Nat} (h : j < l.length) : allB (l.take (j + 1)) = allB (l.take j) ++ insB l[j].1 l[j].2 := by
  rw [List.take_succ_eq_append_getElem h, allB_app]; simp [allB]
theorem allB_len_le (l : List (Int × Int)) : (allB l).length ≤ 5 * l.length := by
  induction l with
  | nil => simp [allB]
  | cons i l ih =>
    have := wid_le i.1
    rw [show allB (i :: l) = insB i.1 i.2 ++ allB l from rfl, List.length_append, insB_len, List.length_cons]; omega
theorem encE_big {l : List (Int × Int)} (h : 600 < l.length) : encE l = 3 := if_pos h
theorem encE_small {l : List (Int × Int)} (h : ¬ 600 < l.length) : encE l = badE l := if_neg h
theorem encL_bad {l : List (Int × Int)} (h : encE l ≠ 0) : encL l = [] := if_neg h
theorem encL_ok {l : List (Int × Int)} (h : encE l = 0) : encL l = allB l := if_pos h
theorem badE_nonneg (l : List (Int × Int)) : badE l = 0 ∨ badE l = 9 ∨ badE l = 10 := by
  induction l with
  | nil => exact .inl rfl
  | cons i l ih =>
    rw [badE]
    split
    · exact ih
    · unfold rgtE
      split; simp
      split; split <;> simp
      split; split <;> simp
      split; split <;> simp
      split
      · split <;> simp
      · simp

/-- The decoding from a place on, with what was read ahead: instructions, fault, place. -/
def decG (l : List UInt8) : Nat → List (Int × Int) → Int → List (Int × Int) × Int × Int
  | 0, out, _ => (out, 0, 0)
  | f + 1, out, a =>
    if a < l.length then
      if out.length = 600 then ([], 3, a)
      else if rdE l a = 0 then decG l f (out ++ [(rdO l a, rdX l a)]) (rdT l a) else ([], rdE l a, a)
    else (out, 0, 0)
def decA (l : List UInt8) : List (Int × Int) × Int × Int := decG l (l.length + 1) [] 0
theorem decG_end {l : List UInt8} {f : Nat} {out : List (Int × Int)} {a : Int} (h : ¬ a < l.length) : decG l f out a = (out, 0, 0) := by
  cases f with
  | zero => rfl
  | succ f => rw [decG, if_neg h]
theorem decG_big {l : List UInt8} {f : Nat} {out : List (Int × Int)} {a : Int} (h : a < l.length) (h6 : out.length = 600) : decG l (f + 1) out a = ([], 3, a) := by
  rw [decG, if_pos h, if_pos h6]
theorem decG_bad {l : List UInt8} {f : Nat} {out : List (Int × Int)} {a : Int} (h : a < l.length) (h6 : ¬ out.length = 600) (hb : rdE l a ≠ 0) : decG l (f + 1) out a = ([], rdE l a, a) := by
  rw [decG, if_pos h, if_neg h6, if_neg hb]
theorem decG_go {l : List UInt8} {f : Nat} {out : List (Int × Int)} {a : Int} (h : a < l.length) (h6 : ¬ out.length = 600) (hb : rdE l a = 0) : decG l (f + 1) out a = decG l f (out ++ [(rdO l a, rdX l a)]) (rdT l a) := by
  rw [decG, if_pos h, if_neg h6, if_pos hb]
/-- What comes of a decoding. -/
theorem decG_only (l : List UInt8) (f : Nat) (out : List (Int × Int)) (a : Nat) (ha : a ≤ l.length) (hf : l.length < a + f) (hB : badE out = 0) (hA : allB out = l.take a) (h6 : out.length ≤ 600) (hok : ∀ i ∈ out, okI i) :
    ((decG l f out a).2.1 = 0 → allB (decG l f out a).1 = l ∧ badE (decG l f out a).1 = 0 ∧ (decG l f out a).1.length ≤ 600 ∧ (decG l f out a).2.2 = 0) ∧
    ((decG l f out a).2.1 ≠ 0 → (decG l f out a).1 = [] ∧ 0 ≤ (decG l f out a).2.2 ∧ (decG l f out a).2.2 < l.length) ∧ (∀ i ∈ (decG l f out a).1, okI i) := by
  induction f generalizing out a with
  | zero => omega
  | succ f ih =>
    by_cases h : (a : Int) < l.length
    · by_cases h60 : out.length = 600
      · rw [decG_big h h60]
        exact ⟨fun h => absurd h (by show (3 : Int) ≠ 0; decide), fun _ => ⟨rfl, Int.natCast_nonneg a, h⟩, fun i hi => by cases hi⟩
      · by_cases hb : rdE l (a : Int) = 0
        · rw [decG_go h h60 hb]
          obtain ⟨e1, e2, e3⟩ := rd_ok hb
          obtain ⟨g1, g2, g3⟩ := rd_zero hb
          rw [e1, e2, e3]
          refine ih _ _ g1 (by omega) ?_ ?_ (by simp; omega) ?_
          · rw [badE_app _ _ hB]
            show (if rgtE (opAt l a) (numAt l a) = 0 then badE [] else _) = 0
            rw [if_pos g3]; rfl
          · rw [allB_app, hA]
            have e4 := rd_bytes hb
            show l.take a ++ allB [(opAt l a, numAt l a)] = _
            rw [show allB [(opAt l a, numAt l a)] = insB (opAt l a) (numAt l a) by simp [allB], ← e4, Nat.add_assoc a 1]
            exact List.take_add.symm
          · intro i hi
            rcases List.mem_append.1 hi with hi | hi
            · exact hok i hi
            · rw [List.mem_singleton] at hi; subst hi; exact numAt_rng l a
        · rw [decG_bad h h60 hb]
          exact ⟨fun h => absurd h hb, fun _ => ⟨rfl, Int.natCast_nonneg a, h⟩, fun i hi => by cases hi⟩
    · rw [decG_end h]
      have : a = l.length := by omega
      refine ⟨fun _ => ⟨?_, hB, h6, rfl⟩, fun h => absurd rfl h, hok⟩
      rw [hA, this, List.take_length]
theorem decA_only (l : List UInt8) :
    ((decA l).2.1 = 0 → allB (decA l).1 = l ∧ badE (decA l).1 = 0 ∧ (decA l).1.length ≤ 600 ∧ (decA l).2.2 = 0) ∧
    ((decA l).2.1 ≠ 0 → (decA l).1 = [] ∧ 0 ≤ (decA l).2.2 ∧ (decA l).2.2 < l.length) ∧ (∀ i ∈ (decA l).1, okI i) :=
  decG_only l (l.length + 1) [] 0 (Nat.zero_le _) (by omega) rfl (by simp [allB]) (by simp) (by intro i hi; cases hi)
theorem decG_back (l : List (Int × Int)) (hok : ∀ i ∈ l, okI i) (hb : badE l = 0) (h6 : l.length ≤ 600) (f j : Nat) (hj : j ≤ l.length) (hf : l.length < j + f) : decG (allB l) f (l.take j) ((allB (l.take j)).length : Int) = (l, 0, 0) := by
  induction f generalizing j with
  | zero => omega
  | succ f ih =>
    by_cases h : j < l.length
    · have hg := badE_mem hb l[j] (List.getElem_mem h)
      have hi := hok l[j] (List.getElem_mem h)
      have hs : allB l = allB (l.take j) ++ insB l[j].1 l[j].2 ++ allB (l.drop (j + 1)) := by
        rw [← allB_take h, ← allB_app, List.take_append_drop]
      obtain ⟨g1, g2, g3⟩ := rd_there (allB (l.take j)) (allB (l.drop (j + 1))) hi hg
      rw [← hs] at g1 g2 g3
      obtain ⟨e1, e2, e3⟩ := rd_ok g1
      have hlen : ((allB (l.take j)).length : Int) < (allB l).length := by
        rw [hs, List.length_append, List.length_append, insB_len]; omega
      rw [decG_go hlen (by rw [List.length_take]; omega) g1, e1, e2, e3, g2, g3]
      have := ih (j + 1) h (by omega)
      rw [allB_take h, List.length_append, insB_len, List.take_succ_eq_append_getElem h] at this
      rw [Nat.add_assoc]
      exact this
    · have : j = l.length := by omega
      subst this
      rw [List.take_length, decG_end (by omega)]
theorem decG_fuel (l : List UInt8) (f g : Nat) (out : List (Int × Int)) (a : Nat) (hf : l.length < a + f) (hg : l.length < a + g) : decG l f out a = decG l g out a := by
  induction f generalizing g out a with
  | zero => rw [decG_end (by omega), decG_end (by omega)]
  | succ f ih =>
    by_cases h : (a : Int) < l.length
    · obtain ⟨g, rfl⟩ : ∃ k, g = k + 1 := ⟨g - 1, by omega⟩
      by_cases h60 : out.length = 600
      · rw [decG_big h h60, decG_big h h60]
      · by_cases hb : rdE l (a : Int) = 0
        · rw [decG_go h h60 hb, decG_go h h60 hb, (rd_ok hb).2.2]
          exact ih _ _ _ (by omega) (by omega)
        · rw [decG_bad h h60 hb, decG_bad h h60 hb]
    · rw [decG_end h, decG_end h]
theorem allB_ge (l : List (Int × Int)) : l.length ≤ (allB l).length := by
  induction l with
  | nil => simp
  | cons i l ih => rw [show allB (i :: l) = insB i.1 i.2 ++ allB l from rfl, List.length_append, insB_len, List.length_cons]; omega
theorem decA_back (l : List (Int × Int)) (hok : ∀ i ∈ l, okI i) (hb : badE l = 0) (h6 : l.length ≤ 600) : decA (allB l) = (l, 0, 0) := by
  have h := decG_back l hok hb h6 (l.length + 1) 0 (Nat.zero_le _) (by omega)
  have hl := allB_ge l
  unfold decA
  have e : decG (allB l) ((allB l).length + 1) [] 0 = decG (allB l) ((allB l).length + 1) [] ((0 : Nat) : Int) := rfl
  rw [e]
  by_cases hz : l.length + 1 = (allB l).length + 1
  · rw [← hz]; exact h
  · have : decG (allB l) ((allB l).length + 1) (l.take 0) (((allB (l.take 0)).length : Nat) : Int) = (l, 0, 0) := decG_back l hok hb h6 _ 0 (Nat.zero_le _) (by omega)
    exact this
end Go.Proofs.YtdikiabjkmigdaaGreatDoor
