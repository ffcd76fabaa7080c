/-
  Plain mathematics of a journal: words laid one behind the other into a flash, whole or torn; which sector is current; what an Append leaves. No program stands in this file.
-/
import Derived.Test.YtahnfkoakaimhaaJMath
import Derived.Test.YtahnfkoakaimhaaFRef2
namespace Go.Proofs.Ytahnfkoakaimhaa
open Go.RowKit

/-- Words l put in place of those from a on. -/
def putW (ws : List UInt32) (a : Nat) (l : List UInt32) : List UInt32 := ws.take a ++ (l ++ ws.drop (a + l.length))
def progsS (s : FS) (a : Nat) : List UInt32 → FS
  | [] => s
  | v :: l => if proE s a = 0 then progsS (proS s a v) (a + 1) l else proS s a v
def progsE (s : FS) (a : Nat) : List UInt32 → Int
  | [] => 0
  | v :: l => if proE s a = 0 then progsE (proS s a v) (a + 1) l else proE s a
theorem putW_len {ws l : List UInt32} {a : Nat} (h : a + l.length ≤ ws.length) : (putW ws a l).length = ws.length := by
  unfold putW; simp; omega
theorem putW_at {ws l : List UInt32} {a : Nat} (h : a + l.length ≤ ws.length) (i : Nat) : (putW ws a l)[i]? = if i < a then ws[i]? else if i < a + l.length then l[i - a]? else ws[i]? := by
  unfold putW
  have hl : (ws.take a).length = a := by simp; omega
  rw [List.getElem?_append, hl]
  split
  · rename_i h1; rw [List.getElem?_take, if_pos h1]
  · rename_i h1
    rw [List.getElem?_append]
    split
    · rename_i h2; rw [if_pos (by omega)]
    · rename_i h2
      rw [if_neg (by omega), List.getElem?_drop]
      congr 1; omega
theorem putW_one {ws : List UInt32} {a : Nat} (x : UInt32) (h : a < ws.length) : ws.set a x = putW ws a [x] := by
  unfold putW; rw [List.set_eq_take_append_cons_drop, if_pos h]; rfl
theorem putW_nil (ws : List UInt32) (a : Nat) : putW ws a [] = ws := by unfold putW; simp
theorem putW_cons {ws l : List UInt32} {a : Nat} (x : UInt32) (h : a + (l.length + 1) ≤ ws.length) : putW (putW ws a [x]) (a + 1) l = putW ws a (x :: l) := by
  have h1 : a + [x].length ≤ ws.length := by simp; omega
  apply List.ext_getElem?
  intro i
  rw [putW_at (by rw [putW_len h1]; omega), putW_at h1, putW_at (by simpa using h)]
  simp only [List.length_cons, List.length_nil]
  by_cases c1 : i < a
  · rw [if_pos (show i < a + 1 by omega), if_pos c1, if_pos c1]
  · by_cases c2 : i = a
    · subst c2
      rw [if_pos (Nat.lt_succ_self _), if_neg c1, if_pos (show i < i + (0 + 1) by omega), if_neg c1, if_pos (show i < i + (l.length + 1) by omega), Nat.sub_self]; rfl
    · rw [if_neg (show ¬ i < a + 1 by omega), if_neg c1, if_neg c1, if_neg (show ¬ i < a + (0 + 1) by omega)]
      by_cases c3 : i < a + 1 + l.length
      · rw [if_pos c3, if_pos (show i < a + (l.length + 1) by omega), show i - a = (i - (a + 1)) + 1 by omega]; rfl
      · rw [if_neg c3, if_neg (show ¬ i < a + (l.length + 1) by omega)]
theorem pw_whole (v : UInt32) : pw ones32 v ones32 = v := by
  unfold pw
  apply UInt32.toBitVec_inj.1
  simp only [UInt32.toBitVec_and, UInt32.toBitVec_not]
  have e : ones32.toBitVec = BitVec.allOnes 32 := rfl
  rw [e, BitVec.and_allOnes, BitVec.not_not, BitVec.allOnes_and]
theorem proS_some {s : FS} {a : Nat} (v : UInt32) (hon : s.on = true) (ha : s.ws[a]? = some ones32) :
    (∃ x, s.plan = some (0, x) ∧ proE s a = 7 ∧ proS s a v = ⟨putW s.ws a [pw ones32 v x], false, s.ops, none⟩) ∨ (proE s a = 0 ∧ proS s a v = ⟨putW s.ws a [v], true, s.ops + 1, decP s.plan⟩) := by
  have hl : a < s.ws.length := (List.getElem?_eq_some_iff.1 ha).1
  have hr : refE s.on (a : Int) s.ws.length = 0 := by unfold refE; rw [if_pos hon, if_pos (by omega)]
  have hg : s.ws.getD a 0 = ones32 := by rw [List.getD_eq_getElem?_getD, ha]; rfl
  have hw : ∀ m, proW s.ws (a : Int).toNat v m = putW s.ws a [pw ones32 v m] := by
    intro m
    unfold proW
    rw [Int.toNat_natCast, hg, putW_one _ hl]
  unfold proE proS
  rw [if_pos hr, if_pos hr]
  rcases plan_cases s.plan with ⟨x, hx⟩ | hp
  · left
    refine ⟨x, hx, by rw [hx]; rfl, ?_⟩
    rw [opS_yes hx, hw]
  · right
    refine ⟨hp, ?_⟩
    rw [opS_no hp, hw, pw_whole, hon]
theorem progs_spec (l : List UInt32) : ∀ (s : FS) (a : Nat), s.on = true → (∀ j, j < l.length → s.ws[a + j]? = some ones32) →
    (progsE s a l = 0 ∧ (progsS s a l).on = true ∧ (progsS s a l).ws = putW s.ws a l ∧ (progsS s a l).ops = s.ops + l.length) ∨
    (progsE s a l = 7 ∧ (progsS s a l).on = false ∧ (∃ k x, s.plan = some (k, x)) ∧ ∃ i m, i < l.length ∧ (progsS s a l).ws = putW s.ws a (l.take i ++ [pw ones32 (l.getD i 0) m])) := by
  induction l with
  | nil => intro s a hon _; exact .inl ⟨rfl, hon, (putW_nil _ _).symm, rfl⟩
  | cons v l ih =>
    intro s a hon hj
    have h0 := hj 0 (by simp)
    rw [Nat.add_zero] at h0
    have hlt : a < s.ws.length := (List.getElem?_eq_some_iff.1 h0).1
    have hall : a + (l.length + 1) ≤ s.ws.length := by
      have := hj l.length (by simp)
      have := (List.getElem?_eq_some_iff.1 this).1
      omega
    rcases proS_some v hon h0 with ⟨x, hp, he, hs⟩ | ⟨he, hs⟩
    · right
      have hE : progsE s a (v :: l) = 7 := by rw [progsE, he]; rfl
      have hS : progsS s a (v :: l) = proS s a v := by rw [progsS, if_neg (by rw [he]; decide)]
      rw [hE, hS, hs]
      exact ⟨rfl, rfl, ⟨0, x, hp⟩, 0, x, Nat.succ_pos _, rfl⟩
    · have hE : progsE s a (v :: l) = progsE (proS s a v) (a + 1) l := by rw [progsE, if_pos he]
      have hS : progsS s a (v :: l) = progsS (proS s a v) (a + 1) l := by rw [progsS, if_pos he]
      rw [hE, hS, hs]
      have hl1 : a + [v].length ≤ s.ws.length := by simp; omega
      rcases ih ⟨putW s.ws a [v], true, s.ops + 1, decP s.plan⟩ (a + 1) rfl (by
        intro j hjl
        show (putW s.ws a [v])[a + 1 + j]? = _
        rw [putW_at hl1, if_neg (by omega), if_neg (show ¬ a + 1 + j < a + [v].length by simp only [List.length_cons, List.length_nil]; omega)]
        have := hj (j + 1) (Nat.succ_lt_succ hjl)
        rwa [show a + 1 + j = a + (j + 1) by omega]) with ⟨h1, h2, h3, h4⟩ | ⟨h1, h2, ⟨k, x, hp⟩, i, m, hi, h3⟩
      · left
        refine ⟨h1, h2, ?_, ?_⟩
        · rw [h3]; exact putW_cons v hall
        · rw [h4]; simp; omega
      · right
        refine ⟨h1, h2, ?_, i + 1, m, Nat.succ_lt_succ hi, ?_⟩
        · have hp2 : decP s.plan = some (k, x) := hp
          rcases hq : s.plan with _ | ⟨k2, x2⟩
          · rw [hq] at hp2; cases hp2
          · exact ⟨k2, x2, rfl⟩
        · rw [h3]
          rw [show List.take (i + 1) (v :: l) ++ [pw ones32 ((v :: l).getD (i + 1) 0) m] = v :: (l.take i ++ [pw ones32 (l.getD i 0) m]) from rfl]
          exact putW_cons v (by simp; omega)

/-- A sector's words. -/
def sect (ws : List UInt32) (k : Nat) : List UInt32 := (ws.drop (256 * k)).take 256
theorem sect_at (ws : List UInt32) (k i : Nat) : (sect ws k)[i]? = if i < 256 then ws[256 * k + i]? else none := by
  unfold sect; rw [List.getElem?_take]; split
  · rw [List.getElem?_drop]
  · rfl
theorem sect_len {ws : List UInt32} {k : Nat} (h : 256 * (k + 1) ≤ ws.length) : (sect ws k).length = 256 := by unfold sect; simp; omega
theorem sect_put {ws l : List UInt32} {k u : Nat} (h : 256 * (k + 1) ≤ ws.length) (hu : u + l.length ≤ 256) : sect (putW ws (256 * k + u) l) k = putW (sect ws k) u l := by
  apply List.ext_getElem?
  intro i
  have hs := sect_len h
  rw [sect_at, putW_at (by omega), putW_at (by omega), sect_at]
  by_cases c : i < 256
  · rw [if_pos c]
    by_cases c1 : i < u
    · rw [if_pos c1, if_pos (show 256 * k + i < 256 * k + u by omega), if_pos c]
    · rw [if_neg c1, if_neg (show ¬ 256 * k + i < 256 * k + u by omega)]
      by_cases c2 : i < u + l.length
      · rw [if_pos c2, if_pos (show 256 * k + i < 256 * k + u + l.length by omega), show 256 * k + i - (256 * k + u) = i - u by omega]
      · rw [if_neg c2, if_neg (show ¬ 256 * k + i < 256 * k + u + l.length by omega), if_pos c]
  · rw [if_neg c, if_neg (by omega), if_neg (by omega), if_neg c]
theorem sect_put_other {ws l : List UInt32} {k k' u : Nat} (h : 256 * (k + 1) ≤ ws.length) (hu : u + l.length ≤ 256) (hk : k' ≠ k) : sect (putW ws (256 * k + u) l) k' = sect ws k' := by
  apply List.ext_getElem?
  intro i
  rw [sect_at, sect_at]
  by_cases c : i < 256
  · rw [if_pos c, if_pos c, putW_at (by omega)]
    by_cases c1 : 256 * k' + i < 256 * k + u
    · rw [if_pos c1]
    · rw [if_neg c1, if_neg (by omega)]
  · rw [if_neg c, if_neg c]
theorem era_at (ws : List UInt32) (k : Nat) (m : UInt32) (i : Nat) (h : 256 * (k + 1) ≤ ws.length) : (sect (eraW ws (256 * k) m) k)[i]? = if i < m.toNat % 257 ∧ i < 256 then some ones32 else (sect ws k)[i]? := by
  rw [sect_at, sect_at]
  unfold eraW
  rw [fillW_at]
  by_cases c : i < 256
  · rw [if_pos c, if_pos c]
    by_cases c1 : i < m.toNat % 257
    · rw [if_pos (show 256 * k ≤ 256 * k + i ∧ 256 * k + i < 256 * k + m.toNat % 257 ∧ 256 * k + i < ws.length by omega), if_pos ⟨c1, c⟩]
    · rw [if_neg (show ¬ (256 * k ≤ 256 * k + i ∧ 256 * k + i < 256 * k + m.toNat % 257 ∧ 256 * k + i < ws.length) by omega), if_neg (by omega)]
  · rw [if_neg c, if_neg c, if_neg (by omega)]
theorem era_other (ws : List UInt32) (k k' : Nat) (m : UInt32) (hk : k' ≠ k) : sect (eraW ws (256 * k) m) k' = sect ws k' := by
  apply List.ext_getElem?
  intro i
  rw [sect_at, sect_at]
  by_cases c : i < 256
  · rw [if_pos c, if_pos c]
    unfold eraW
    have : m.toNat % 257 ≤ 256 := by omega
    rw [fillW_at, if_neg (by omega)]
  · rw [if_neg c, if_neg c]
theorem clean_at {ws : List UInt32} {u j : Nat} (h : cleanB ws u = true) (hu : u ≤ j) (hj : j < ws.length) : ws[j]? = some ones32 := by
  unfold cleanB at h
  rw [List.all_eq_true] at h
  have hm : ws[j] ∈ ws.drop u := by
    rw [List.mem_drop_iff_getElem]
    exact ⟨j - u, by omega, by congr 1; omega⟩
  have := h _ hm
  rw [List.getElem?_eq_getElem hj]
  rw [beq_iff_eq] at this
  rw [this]
theorem clean_of {ws : List UInt32} {u : Nat} (h : ∀ j, u ≤ j → j < ws.length → ws[j]? = some ones32) : cleanB ws u = true := by
  unfold cleanB
  rw [List.all_eq_true]
  intro x hx
  obtain ⟨j, hj, rfl⟩ := List.mem_drop_iff_getElem.1 hx
  have := h (u + j) (by omega) (by omega)
  rw [List.getElem?_eq_getElem (by omega)] at this
  rw [beq_iff_eq]
  exact Option.some.inj this
/-- A record that was laid whole behind the others is the last one. -/
theorem walk_put {w0 r : List UInt32} {n : Nat} (hl : w0.length = 256) (hc : cleanB w0 (walkW w0).used = true) (ho : okR n r) (hn : (walkW w0).num = 0 ∨ n = (walkW w0).num + 1) (hf : (walkW w0).used + (r.length + 4) ≤ 256) :
    walkW (putW w0 (walkW w0).used (laidW n r)) = ⟨n, r, (walkW w0).used + (r.length + 4)⟩ ∧ cleanB (putW w0 (walkW w0).used (laidW n r)) ((walkW w0).used + (r.length + 4)) = true := by
  have hL := laidW_len n r
  have hp : (walkW w0).used + (laidW n r).length ≤ w0.length := by omega
  have hcl : ∀ j, (walkW w0).used + (r.length + 4) ≤ j → j < 256 → (putW w0 (walkW w0).used (laidW n r))[j]? = some ones32 := by
    intro j h1 h2
    rw [putW_at hp, if_neg (by omega), if_neg (by omega)]
    exact clean_at hc (by omega) (by omega)
  refine ⟨?_, clean_of (fun j h1 h2 => hcl j h1 (by rw [putW_len hp] at h2; omega))⟩
  obtain ⟨h1, _⟩ := walk_reach w0
  have h2 : Reach (putW w0 (walkW w0).used (laidW n r)) sv0 (walkW w0) := h1.same ⟨_, rfl⟩
  have hd : (putW w0 (walkW w0).used (laidW n r)).drop (walkW w0).used = laidW n r ++ w0.drop ((walkW w0).used + (laidW n r).length) := by
    unfold putW
    have hl2 : (w0.take (walkW w0).used).length = (walkW w0).used := by simp; omega
    conv => lhs; arg 1; rw [← hl2]
    exact List.drop_left
  refine walk_is (h2.snoc (stepW_of ho hn hd)) (step_erased ?_)
  by_cases c : (walkW w0).used + (r.length + 4) < 256
  · exact .inl (hcl _ (Nat.le_refl _) c)
  · exact .inr (by rw [putW_len hp]; show _ ≤ (walkW w0).used + (r.length + 4); omega)
/-- A record that was torn leaves the records as they were, or is the last one. -/
theorem walk_torn {w0 r : List UInt32} {n i : Nat} {m : UInt32} (hl : w0.length = 256) (hc : cleanB w0 (walkW w0).used = true) (ho : okR n r) (hn : (walkW w0).num = 0 ∨ n = (walkW w0).num + 1) (hf : (walkW w0).used + (r.length + 4) ≤ 256) (hi : i < (laidW n r).length) :
    walkW (putW w0 (walkW w0).used ((laidW n r).take i ++ [pw ones32 ((laidW n r).getD i 0) m])) = walkW w0 ∨ walkW (putW w0 (walkW w0).used ((laidW n r).take i ++ [pw ones32 ((laidW n r).getD i 0) m])) = ⟨n, r, (walkW w0).used + (r.length + 4)⟩ := by
  have hL := laidW_len n r
  obtain ⟨x, hx⟩ : ∃ x, x = (laidW n r).take i ++ [pw ones32 ((laidW n r).getD i 0) m] := ⟨_, rfl⟩
  have hxl : x.length = i + 1 := by rw [hx]; simp; omega
  have hx1 : ∀ j, j < i → x[j]? = (laidW n r)[j]? := by
    intro j hj
    rw [hx, List.getElem?_append_left (by simp; omega), List.getElem?_take, if_pos hj]
  have hx2 : x[i]? = some (pw ones32 ((laidW n r).getD i 0) m) := by
    rw [hx, List.getElem?_append_right (by simp; omega)]
    simp [show min i (laidW n r).length = i by omega]
  rw [← hx]
  have hp : (walkW w0).used + x.length ≤ w0.length := by omega
  obtain ⟨h1, _⟩ := walk_reach w0
  have h2 : Reach (putW w0 (walkW w0).used x) sv0 (walkW w0) := h1.same ⟨_, rfl⟩
  rcases hs : stepW (putW w0 (walkW w0).used x) (walkW w0) with _ | s'
  · exact .inl (walk_is h2 hs)
  · obtain ⟨ho', _, _, t, ht⟩ := stepW_some hs
    have hy : ∀ j, (putW w0 (walkW w0).used x)[(walkW w0).used + j]? = (laidW s'.num s'.rcd ++ t)[j]? := by
      intro j; rw [← ht, List.getElem?_drop]
    have hM := hy (s'.rcd.length + 3)
    rw [getElem?_mark, putW_at hp, if_neg (by omega)] at hM
    have hMi : s'.rcd.length + 3 ≤ i := by
      apply Nat.le_of_not_lt
      intro hlt
      rw [if_neg (by omega)] at hM
      by_cases c : (walkW w0).used + (s'.rcd.length + 3) < w0.length
      · rw [clean_at hc (by omega) c] at hM
        exact ones_zero (Option.some.inj hM)
      · rw [List.getElem?_eq_none (by omega)] at hM; cases hM
    have h1' := hy 1
    rw [getElem?_laid1, putW_at hp, if_neg (by omega), if_pos (by omega), Nat.add_sub_cancel_left, hx1 1 (by omega)] at h1'
    have e1 : (laidW n r)[1]? = some (word r.length) := rfl
    rw [e1] at h1'
    have hlen : r.length = s'.rcd.length := by
      have := congrArg UInt32.toNat (Option.some.inj h1')
      rw [word_toNat, word_toNat] at this
      have := ho.2.2.2
      have := ho'.2.2.2
      omega
    have hii : i = r.length + 3 := by omega
    rw [if_pos (by omega), Nat.add_sub_cancel_left, ← hlen, ← hii, hx2] at hM
    have hz := Option.some.inj hM
    have hxx : x = laidW n r := by
      rw [hx, hz]
      have hb : (laidW n r).take i = headW n r ++ [sumW (headW n r)] := by
        rw [hii]
        unfold laidW
        rw [show r.length + 3 = (headW n r).length + 1 by rw [headW_len], List.take_length_add_append]
        rfl
      rw [hb]; unfold laidW; simp
    rw [hxx]
    exact .inr (walk_put hl hc ho hn hf).1
end Go.Proofs.Ytahnfkoakaimhaa
