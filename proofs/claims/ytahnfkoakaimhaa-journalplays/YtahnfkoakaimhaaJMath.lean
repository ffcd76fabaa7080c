/-
  Plain mathematics of a journal: a record as it is laid, the valid record at the beginning of words, a sector's records as a walk. No program stands in this file.
-/
import Derived.Test.YtahnfkoakaimhaaKMath
import Derived.Test.YtahnfkoakaimhaaFMath
namespace Go.Proofs.Ytahnfkoakaimhaa
open Go.RowKit

def sumW (l : List UInt32) : UInt32 := word (crcOn 0 (bytesL l))
def headW (n : Nat) (r : List UInt32) : List UInt32 := word n :: word r.length :: r
/-- A record as it is laid: its number, its length, its words, the checksum and the mark. -/
def laidW (n : Nat) (r : List UInt32) : List UInt32 := headW n r ++ [sumW (headW n r), 0]
theorem headW_len (n : Nat) (r : List UInt32) : (headW n r).length = r.length + 2 := rfl
theorem laidW_len (n : Nat) (r : List UInt32) : (laidW n r).length = r.length + 4 := by unfold laidW; rw [List.length_append, headW_len]; rfl
theorem sumW_toNat (l : List UInt32) : (sumW l).toNat = crcOn 0 (bytesL l) := by
  unfold sumW; rw [word_toNat]; have := crcOn_lt 0 (bytesL l); omega
def okR (n : Nat) (r : List UInt32) : Prop := 1 ≤ n ∧ n ≤ 2147483647 ∧ 1 ≤ r.length ∧ r.length ≤ 64
def numW (l : List UInt32) : Nat := (l.getD 0 0).toNat
def lenW (l : List UInt32) : Nat := (l.getD 1 0).toNat
def goodW (l : List UInt32) : Prop := 1 ≤ numW l ∧ numW l ≤ 2147483647 ∧ 1 ≤ lenW l ∧ lenW l ≤ 64 ∧ lenW l + 4 ≤ l.length ∧ l.getD (lenW l + 2) 0 = sumW (l.take (lenW l + 2)) ∧ l.getD (lenW l + 3) 0 = 0
instance (l : List UInt32) : Decidable (goodW l) := by unfold goodW; infer_instance
/-- The valid record at the beginning of words. -/
def validW (l : List UInt32) : Option (Nat × List UInt32) := if goodW l then some (numW l, (l.drop 2).take (lenW l)) else none
theorem valid_laid {n : Nat} {r t : List UInt32} (h : okR n r) : validW (laidW n r ++ t) = some (n, r) := by
  obtain ⟨h1, h2, h3, h4⟩ := h
  have e1 : numW (laidW n r ++ t) = n := by
    show (word n).toNat = n
    rw [word_toNat]; omega
  have e2 : lenW (laidW n r ++ t) = r.length := by
    show (word r.length).toNat = r.length
    rw [word_toNat]; omega
  have e3 : (laidW n r ++ t).drop 2 = r ++ ([sumW (headW n r), 0] ++ t) := by
    unfold laidW headW; simp
  have e4 : (laidW n r ++ t).take (r.length + 2) = headW n r := by
    unfold laidW; rw [List.append_assoc, ← headW_len n r, List.take_left]
  have e5 : ∀ j, (laidW n r ++ t).getD (r.length + 2 + j) 0 = (sumW (headW n r) :: 0 :: t).getD j 0 := by
    intro j
    unfold laidW
    rw [List.append_assoc, List.getD_eq_getElem?_getD, List.getElem?_append_right (by rw [headW_len]; omega), headW_len, Nat.add_sub_cancel_left, ← List.getD_eq_getElem?_getD]
    rfl
  have hg : goodW (laidW n r ++ t) := by
    unfold goodW
    rw [e1, e2, e4]
    refine ⟨h1, h2, h3, h4, ?_, ?_, ?_⟩
    · rw [List.length_append, laidW_len]; omega
    · exact e5 0
    · exact e5 1
  unfold validW
  rw [if_pos hg, e1, e2, e3, List.take_left]
theorem laid_valid {l : List UInt32} {n : Nat} {r : List UInt32} (h : validW l = some (n, r)) : okR n r ∧ ∃ t, l = laidW n r ++ t := by
  unfold validW at h
  split at h
  · rename_i hg
    obtain ⟨h1, h2, h3, h4, h5, h6, h7⟩ := hg
    rcases l with _ | ⟨a, _ | ⟨b, l'⟩⟩
    · simp at h5
    · simp at h5
    · have ea : numW (a :: b :: l') = a.toNat := rfl
      have eb : lenW (a :: b :: l') = b.toNat := rfl
      rw [ea, eb] at h
      rw [ea] at h1 h2
      rw [eb] at h3 h4 h5 h6 h7
      obtain ⟨rfl, rfl⟩ : a.toNat = n ∧ (l'.take b.toNat) = r := by simpa using h
      have hl : b.toNat + 2 ≤ l'.length := by simp only [List.length_cons] at h5; omega
      have hr : (l'.take b.toNat).length = b.toNat := by simp; omega
      refine ⟨⟨h1, h2, by omega, by omega⟩, (l'.drop b.toNat).drop 2, ?_⟩
      have hd : headW a.toNat (l'.take b.toNat) = a :: b :: l'.take b.toNat := by unfold headW; rw [hr, word_of, word_of]
      have hs : (a :: b :: l').take (b.toNat + 2) = a :: b :: l'.take b.toNat := rfl
      have g1 : (a :: b :: l').getD (b.toNat + 2) 0 = l'[b.toNat] := by
        rw [List.getD_eq_getElem?_getD]; show (l'[b.toNat]?).getD 0 = _; rw [List.getElem?_eq_getElem (by omega)]; rfl
      have g2 : (a :: b :: l').getD (b.toNat + 3) 0 = l'[b.toNat + 1] := by
        rw [List.getD_eq_getElem?_getD]; show (l'[b.toNat + 1]?).getD 0 = _; rw [List.getElem?_eq_getElem (by omega)]; rfl
      rw [g1, hs] at h6
      rw [g2] at h7
      unfold laidW
      rw [hd, ← h6, ← h7]
      have e : l' = l'.take b.toNat ++ (l'[b.toNat] :: l'[b.toNat + 1] :: (l'.drop b.toNat).drop 2) := by
        conv => lhs; rw [← List.take_append_drop b.toNat l']
        congr 1
        rw [List.drop_eq_getElem_cons (by omega), List.drop_eq_getElem_cons (show b.toNat + 1 < l'.length by omega), List.drop_succ_cons, List.drop_succ_cons, List.drop_zero]
      conv => lhs; rw [e]
      simp
  · cases h

/-- What is known of a sector behind some of its records: the last one's number and words, and how many words they take. -/
structure SV where
  num : Nat
  rcd : List UInt32
  used : Nat
def sv0 : SV := ⟨0, [], 0⟩
def stepW (ws : List UInt32) (s : SV) : Option SV :=
  match validW (ws.drop s.used) with
  | none => none
  | some (n, r) => if s.num = 0 ∨ n = s.num + 1 then some ⟨n, r, s.used + (r.length + 4)⟩ else none
def walkF (ws : List UInt32) : Nat → SV → SV
  | 0, s => s
  | k + 1, s => match stepW ws s with
    | none => s
    | some s' => walkF ws k s'
/-- A sector's records. -/
def walkW (ws : List UInt32) : SV := walkF ws ws.length sv0
def cleanB (ws : List UInt32) (u : Nat) : Bool := (ws.drop u).all (· == ones32)
theorem stepW_some {ws : List UInt32} {s s' : SV} (h : stepW ws s = some s') : okR s'.num s'.rcd ∧ (s.num = 0 ∨ s'.num = s.num + 1) ∧ s'.used = s.used + (s'.rcd.length + 4) ∧ ∃ t, ws.drop s.used = laidW s'.num s'.rcd ++ t := by
  unfold stepW at h
  split at h
  · cases h
  · rename_i n r hv
    split at h
    · rename_i hc
      obtain rfl := Option.some.inj h
      obtain ⟨h1, t, h2⟩ := laid_valid hv
      exact ⟨h1, hc, rfl, t, h2⟩
    · cases h
theorem stepW_of {ws t : List UInt32} {s : SV} {n : Nat} {r : List UInt32} (h : okR n r) (hc : s.num = 0 ∨ n = s.num + 1) (hd : ws.drop s.used = laidW n r ++ t) : stepW ws s = some ⟨n, r, s.used + (r.length + 4)⟩ := by
  unfold stepW
  rw [hd, valid_laid h]
  exact if_pos hc
theorem stepW_used {ws : List UInt32} {s s' : SV} (h : stepW ws s = some s') : s.used + 5 ≤ s'.used ∧ s'.used ≤ ws.length := by
  obtain ⟨h1, _, h3, t, h4⟩ := stepW_some h
  have hl := congrArg List.length h4
  rw [List.length_drop, List.length_append, laidW_len] at hl
  have := h1.2.2.1
  omega
theorem walkF_more {ws : List UInt32} (k : Nat) : ∀ (s : SV) (m : Nat), ws.length - s.used ≤ k → ws.length - s.used ≤ m → walkF ws k s = walkF ws m s := by
  induction k with
  | zero =>
    intro s m hk hm
    cases m with
    | zero => rfl
    | succ m =>
      rw [walkF, walkF]
      rcases h : stepW ws s with _ | s'
      · rfl
      · have := stepW_used h; omega
  | succ k ih =>
    intro s m hk hm
    cases m with
    | zero =>
      rw [walkF, walkF]
      rcases h : stepW ws s with _ | s'
      · rfl
      · have := stepW_used h; omega
    | succ m =>
      rw [walkF, walkF]
      rcases h : stepW ws s with _ | s'
      · rfl
      · have := stepW_used h
        exact ih s' m (by omega) (by omega)
/-- From s on the walk ends at v. -/
def Ends (ws : List UInt32) (s v : SV) : Prop := walkF ws (ws.length - s.used) s = v
theorem Ends.start (ws : List UInt32) : Ends ws sv0 (walkW ws) := rfl
theorem Ends.next {ws : List UInt32} {s s' v : SV} (h : Ends ws s v) (hs : stepW ws s = some s') : Ends ws s' v := by
  have := stepW_used hs
  unfold Ends at h ⊢
  obtain ⟨k, hk⟩ : ∃ k, ws.length - s.used = k + 1 := ⟨ws.length - s.used - 1, by omega⟩
  rw [hk, walkF, hs] at h
  rw [← h]
  exact walkF_more _ _ _ (by omega) (by show _ ≤ k; omega)
theorem Ends.last {ws : List UInt32} {s v : SV} (h : Ends ws s v) (hs : stepW ws s = none) : v = s := by
  unfold Ends at h
  cases hk : ws.length - s.used with
  | zero => rw [hk] at h; exact h.symm
  | succ k => rw [hk, walkF, hs] at h; exact h.symm
inductive Reach (ws : List UInt32) : SV → SV → Prop
  | refl (s : SV) : Reach ws s s
  | step {s s' v : SV} : stepW ws s = some s' → Reach ws s' v → Reach ws s v
theorem Reach.used {ws : List UInt32} {s v : SV} (h : Reach ws s v) : s.used ≤ v.used := by
  induction h with
  | refl => exact Nat.le_refl _
  | step hs _ ih => have := stepW_used hs; omega
theorem Reach.snoc {ws : List UInt32} {s v v' : SV} (h : Reach ws s v) (hs : stepW ws v = some v') : Reach ws s v' := by
  induction h with
  | refl => exact .step hs (.refl _)
  | step h1 _ ih => exact .step h1 (ih hs)
theorem Reach.ends {ws : List UInt32} {s v : SV} (h : Reach ws s v) (hs : stepW ws v = none) : ∀ x, Ends ws s x → x = v := by
  induction h with
  | refl => intro x hx; exact hx.last hs
  | step h1 _ ih => intro x hx; exact ih hs x (hx.next h1)
theorem walk_reach (ws : List UInt32) : Reach ws sv0 (walkW ws) ∧ stepW ws (walkW ws) = none := by
  have key : ∀ (k : Nat) (s : SV), ws.length - s.used ≤ k → Reach ws s (walkF ws k s) ∧ stepW ws (walkF ws k s) = none := by
    intro k
    induction k with
    | zero =>
      intro s hk
      refine ⟨.refl _, ?_⟩
      rcases h : stepW ws s with _ | s'
      · exact h
      · have := stepW_used h; omega
    | succ k ih =>
      intro s hk
      rw [walkF]
      rcases h : stepW ws s with _ | s'
      · exact ⟨.refl _, h⟩
      · have := stepW_used h
        obtain ⟨h1, h2⟩ := ih s' (by omega)
        exact ⟨.step h h1, h2⟩
  exact key _ _ (Nat.sub_le _ _)
theorem walk_is {ws : List UInt32} {v : SV} (h : Reach ws sv0 v) (hs : stepW ws v = none) : walkW ws = v := h.ends hs _ (Ends.start ws)
/-- Numbers and words of what was reached are right. -/
theorem Reach.good {ws : List UInt32} {s v : SV} (h : Reach ws s v) (hs : s = sv0 ∨ okR s.num s.rcd) : v = sv0 ∨ okR v.num v.rcd := by
  induction h with
  | refl => exact hs
  | step h1 _ ih => exact ih (.inr (stepW_some h1).1)
theorem Reach.len {ws : List UInt32} {s v : SV} (h : Reach ws s v) (hs : s.used ≤ ws.length) : v.used ≤ ws.length := by
  induction h with
  | refl => exact hs
  | step h1 _ ih => exact ih (stepW_used h1).2
theorem walk_good (ws : List UInt32) : walkW ws = sv0 ∨ okR (walkW ws).num (walkW ws).rcd := (walk_reach ws).1.good (.inl rfl)
theorem walk_used (ws : List UInt32) : (walkW ws).used ≤ ws.length := (walk_reach ws).1.len (Nat.zero_le _)
theorem walk_num (ws : List UInt32) : (walkW ws).num ≤ 2147483647 := by
  rcases walk_good ws with h | h
  · rw [h]; exact Nat.zero_le _
  · exact h.2.1
theorem walk_none {ws : List UInt32} (h : (walkW ws).num = 0) : walkW ws = sv0 := by
  rcases walk_good ws with h1 | h1
  · exact h1
  · have := h1.1; omega
/-- What was reached hangs only on the words that it takes. -/
theorem Reach.same {ws zs : List UInt32} {s v : SV} (h : Reach ws s v) (hz : ∃ t, zs = ws.take v.used ++ t) : Reach zs s v := by
  induction h with
  | refl => exact .refl _
  | @step s s' v h1 h2 ih =>
    refine .step ?_ (ih hz)
    obtain ⟨ho, hc, hu, t, ht⟩ := stepW_some h1
    obtain ⟨tz, rfl⟩ := hz
    have hle := h2.used
    have hlen := (h2.len (stepW_used h1).2)
    have e : (ws.take v.used ++ tz).drop s.used = laidW s'.num s'.rcd ++ (t.take (v.used - s'.used) ++ tz) := by
      rw [List.drop_append_of_le_length (by simp; omega), List.drop_take, ht, List.take_append, laidW_len, List.append_assoc]
      rw [List.take_of_length_le (by rw [laidW_len]; omega), show v.used - s.used - (s'.rcd.length + 4) = v.used - s'.used by omega]
    rw [stepW_of ho hc e, ← hu]
theorem getElem?_laid0 (n : Nat) (r t : List UInt32) : (laidW n r ++ t)[0]? = some (word n) := rfl
theorem getElem?_laid1 (n : Nat) (r t : List UInt32) : (laidW n r ++ t)[1]? = some (word r.length) := rfl
theorem getElem?_mark (n : Nat) (r t : List UInt32) : (laidW n r ++ t)[r.length + 3]? = some 0 := by
  unfold laidW
  rw [List.append_assoc, List.getElem?_append_right (by rw [headW_len]; omega), headW_len, show r.length + 3 - (r.length + 2) = 1 by omega]
  rfl
theorem word_ones {n : Nat} (h : n ≤ 2147483647) : word n ≠ ones32 := by
  intro e
  have := congrArg UInt32.toNat e
  rw [word_toNat, ones32_toNat] at this
  omega
theorem ones_zero : ones32 ≠ 0 := by decide
/-- Words whose first one is erased are no record. -/
theorem step_erased {ws : List UInt32} {s : SV} (h : ws[s.used]? = some ones32 ∨ ws.length ≤ s.used) : stepW ws s = none := by
  rcases hs : stepW ws s with _ | s'
  · rfl
  · obtain ⟨ho, _, _, t, ht⟩ := stepW_some hs
    have h0 := congrArg (fun l : List UInt32 => l[0]?) ht
    simp only [List.getElem?_drop, Nat.add_zero] at h0
    rw [getElem?_laid0] at h0
    rcases h with h | h
    · rw [h] at h0; exact absurd (Option.some.inj h0).symm (word_ones ho.2.1)
    · rw [List.getElem?_eq_none h] at h0; cases h0
theorem walk_erased {ws : List UInt32} (h : ws[0]? = some ones32 ∨ ws.length = 0) : walkW ws = sv0 :=
  walk_is (.refl _) (step_erased (by rcases h with h | h; exact .inl h; exact .inr (by show _ ≤ 0; omega)))
end Go.Proofs.Ytahnfkoakaimhaa
