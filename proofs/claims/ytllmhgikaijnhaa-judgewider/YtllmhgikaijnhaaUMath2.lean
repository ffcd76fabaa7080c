/-
  Plain mathematics of checked codes: one behind the other, in a wider frame, ways through it, and the longest way. No program stands in this file.
-/
import Derived.Test.YtllmhgikaijnhaaUMath
namespace Go.Proofs.Ytllmhgikaijnhaa

theorem tg_shift (o x : Int) (k m : Nat) (t : Nat) : t ∈ tg o x (k + m) ↔ ∃ u ∈ tg o x k, t = u + m := by
  unfold tg
  split
  · simp; omega
  · split
    · simp
      constructor
      · rintro (h | h)
        · exact .inl (by omega)
        · exact .inr (by omega)
      · rintro (h | h)
        · exact .inl (by omega)
        · exact .inr (by omega)
    · simp; omega
theorem top_max {d1 d2 d : Nat → Int} {n1 n2 : Nat} {D1 D2 D : Int} (h1 : Top d1 n1 D1) (h2 : Top d2 n2 D2) (h : Top d (n1 + n2) D) (ha : ∀ t, t ≤ n1 → d t = d1 t) (hb : ∀ t, t ≤ n2 → d (t + n1) = d2 t) : D = max D1 D2 := by
  apply le_ext
  intro B
  rw [h B, Int.max_le, h1 B, h2 B]
  constructor
  · intro ⟨a, b⟩
    exact ⟨⟨a, fun t ht => by rw [← ha t ht]; exact b t (by omega)⟩, a, fun t ht => by rw [← hb t ht]; exact b _ (by omega)⟩
  · intro ⟨⟨a, b⟩, _, c⟩
    refine ⟨a, fun t ht => ?_⟩
    by_cases h : t ≤ n1
    · rw [ha t h]; exact b t h
    · have := c (t - n1) (by omega)
      rw [← hb (t - n1) (by omega), show t - n1 + n1 = t by omega] at this
      exact this
theorem get_left {a b : List (Int × Int)} {k : Nat} (h : k < a.length) (h2 : k < (a ++ b).length) : (a ++ b)[k] = a[k] := List.getElem_append_left h
theorem get_right {a b : List (Int × Int)} {k : Nat} (h : k < b.length) (h2 : k + a.length < (a ++ b).length) : (a ++ b)[k + a.length] = b[k] := by
  rw [List.getElem_append_right (by omega)]
  simp
/-- Two accepted codes, one behind the other. -/
theorem fin_join {f : Fr} {a b : List (Int × Int)} {d1 g1 d2 g2 : Nat → Int} (F1 : Fin f a d1 g1) (F2 : Fin f b d2 g2) :
    Fin f (a ++ b) (fun t => if t ≤ a.length then d1 t else d2 (t - a.length)) (fun t => if t ≤ a.length then g1 t else g1 a.length + g2 (t - a.length)) := by
  have hl : (a ++ b).length = a.length + b.length := List.length_append
  have dl : ∀ t, (fun t => if t ≤ a.length then d1 t else d2 (t - a.length)) (t + a.length) = d2 t := by
    intro t
    simp only
    by_cases h : t = 0
    · subst h; rw [if_pos (by omega), Nat.zero_add, F1.dn, F2.d0]
    · rw [if_neg (by omega), Nat.add_sub_cancel]
  have gl : ∀ t, (fun t => if t ≤ a.length then g1 t else g1 a.length + g2 (t - a.length)) (t + a.length) = g1 a.length + g2 t := by
    intro t
    simp only
    by_cases h : t = 0
    · subst h; rw [if_pos (by omega), Nat.zero_add, F2.g0]; omega
    · rw [if_neg (by omega), Nat.add_sub_cancel]
  have d1' : ∀ t, t ≤ a.length → (fun t => if t ≤ a.length then d1 t else d2 (t - a.length)) t = d1 t := fun t h => if_pos h
  have g1' : ∀ t, t ≤ a.length → (fun t => if t ≤ a.length then g1 t else g1 a.length + g2 (t - a.length)) t = g1 t := fun t h => if_pos h
  generalize (fun t => if t ≤ a.length then d1 t else d2 (t - a.length)) = d at dl d1' ⊢
  generalize (fun t => if t ≤ a.length then g1 t else g1 a.length + g2 (t - a.length)) = g at gl g1' ⊢
  refine ⟨by rw [d1' 0 (by omega), F1.d0], by rw [g1' 0 (by omega), F1.g0], fun k hk => ?_, fun t h0 hn => ?_, ?_⟩
  · by_cases h : k < a.length
    · rw [get_left h hk, d1' k (by omega), g1' k (by omega)]
      obtain ⟨s1, s2, s3, s4, s5, s6⟩ := F1.step k h
      exact ⟨s1, s2, s3, s4, s5, fun t ht => by
        obtain ⟨r1, r2, r3⟩ := s6 t ht
        rw [d1' t r1, g1' t r1]
        exact ⟨by omega, r2, r3⟩⟩
    · obtain ⟨j, rfl⟩ : ∃ j, k = j + a.length := ⟨k - a.length, by omega⟩
      have hj : j < b.length := by omega
      rw [get_right hj hk, dl j, gl j]
      obtain ⟨s1, s2, s3, s4, s5, s6⟩ := F2.step j hj
      refine ⟨s1, s2, s3, s4, s5, fun t ht => ?_⟩
      obtain ⟨u, hu, rfl⟩ := (tg_shift _ _ _ _ _).1 ht
      obtain ⟨r1, r2, r3⟩ := s6 u hu
      rw [dl u, gl u]
      exact ⟨by omega, r2, by omega⟩
  · by_cases h : t ≤ a.length
    · obtain ⟨j, hj, j1, j2, j3⟩ := F1.src t h0 h
      exact ⟨j, by omega, j1, by rw [get_left hj (by omega)]; exact j2, by rw [g1' t h, g1' j (by omega)]; exact j3⟩
    · obtain ⟨u, rfl⟩ : ∃ u, t = u + a.length := ⟨t - a.length, by omega⟩
      obtain ⟨j, hj, j1, j2, j3⟩ := F2.src u (by omega) (by omega)
      refine ⟨j + a.length, by omega, by omega, by rw [get_right hj (by omega)]; exact (tg_shift _ _ _ _ _).2 ⟨u, j2, rfl⟩, by rw [gl u, gl j]; omega⟩
  · rw [hl, Nat.add_comm, dl, F2.dn]
theorem joins_check {f : Fr} {a b : List (Int × Int)} (ha : (checkM f a).2.2.1 = 0) (hb : (checkM f b).2.2.1 = 0) (h6 : a.length + b.length ≤ 600) :
    (checkM f (a ++ b)).2.2.1 = 0 ∧ (checkM f (a ++ b)).1 = max (checkM f a).1 (checkM f b).1 ∧ (checkM f (a ++ b)).2.1 = (checkM f a).2.1 + (checkM f b).2.1 := by
  obtain ⟨hf, _, _, d1, g1, F1, T1, E1⟩ := check_fin ha
  obtain ⟨_, _, _, d2, g2, F2, T2, E2⟩ := check_fin hb
  have F := fin_join F1 F2
  have hl : (a ++ b).length = a.length + b.length := List.length_append
  obtain ⟨c1, c2, c3⟩ := fin_check hf (by omega) F
  refine ⟨c1, ?_, ?_⟩
  · rw [hl] at c2
    refine top_max T1 T2 c2 (fun t h => if_pos h) fun t h => ?_
    by_cases h0 : t = 0
    · subst h0
      show (if 0 + a.length ≤ a.length then d1 (0 + a.length) else _) = d2 0
      rw [if_pos (by omega), Nat.zero_add, F1.dn, F2.d0]
    · show (if t + a.length ≤ a.length then _ else d2 (t + a.length - a.length)) = d2 t
      rw [if_neg (by omega), Nat.add_sub_cancel]
  · rw [c3, E1, E2, hl]
    by_cases h0 : b.length = 0
    · show (if a.length + b.length ≤ a.length then g1 (a.length + b.length) else _) = _
      rw [if_pos (by omega), h0, F2.g0]; simp
    · show (if a.length + b.length ≤ a.length then _ else g1 a.length + g2 (a.length + b.length - a.length)) = _
      rw [if_neg (by omega), Nat.add_sub_cancel_left]
/-- A wider frame. -/
def Wid (f g : Fr) : Prop := f.s ≤ g.s ∧ f.o ≤ g.o ∧ f.n ≤ g.n ∧ f.i ≤ g.i ∧ f.u ≤ g.u
theorem insd_wide {f g : Fr} (hf : okF f) (h : Wid f g) {o x : Int} (hi : insd f o x) : insd g o x := by
  unfold insd roomV at hi ⊢
  unfold okF at hf
  unfold Wid at h
  by_cases h1 : o = 2 ∨ o = 3
  · rw [if_pos h1] at hi ⊢; omega
  · by_cases h2 : o = 4
    · rw [if_neg h1, if_pos h2] at hi ⊢; omega
    · by_cases h3 : o = 5
      · rw [if_neg h1, if_neg h2, if_pos h3] at hi ⊢; omega
      · by_cases h4 : o = 6
        · rw [if_neg h1, if_neg h2, if_neg h3, if_pos h4] at hi ⊢; omega
        · by_cases h5 : o = 7
          · rw [if_neg h1, if_neg h2, if_neg h3, if_neg h4, if_pos h5] at hi ⊢; omega
          · rw [if_neg h1, if_neg h2, if_neg h3, if_neg h4, if_neg h5]; omega
theorem top_same {d : Nat → Int} {n : Nat} {D E : Int} (h1 : Top d n D) (h2 : Top d n E) : D = E := le_ext fun B => (h1 B).trans (h2 B).symm
theorem wider_check {f g : Fr} {l : List (Int × Int)} (hw : Wid f g) (hg : okF g) (h : (checkM f l).2.2.1 = 0) : (checkM g l).2.2.1 = 0 ∧ (checkM g l).1 = (checkM f l).1 ∧ (checkM g l).2.1 = (checkM f l).2.1 := by
  obtain ⟨hf, h6, _, d, q, F, T, E⟩ := check_fin h
  have G : Fin g l d q := ⟨F.d0, F.g0, fun k hk => by
    obtain ⟨s1, s2, s3⟩ := F.step k hk
    exact ⟨s1, insd_wide hf hw s2, s3⟩, F.src, F.dn⟩
  obtain ⟨c1, c2, c3⟩ := fin_check hg h6 G
  exact ⟨c1, top_same c2 T, c3.trans E.symm⟩
/-- What holds of an accepted code, position by position. -/
theorem fin_g_le {f : Fr} {l : List (Int × Int)} {d g : Nat → Int} (F : Fin f l d g) : ∀ m k, k + m = l.length → g k ≤ g l.length := by
  intro m
  induction m using Nat.strongRecOn with
  | ind m ih =>
    intro k hk
    by_cases h : m = 0
    · rw [show k = l.length by omega]; exact Int.le_refl _
    · have hkl : k < l.length := by omega
      obtain ⟨t, ht⟩ := tg_one l[k].1 l[k].2 k
      obtain ⟨r1, _, r3⟩ := (F.step k hkl).2.2.2.2.2 t ht
      have hgt := tg_gt ht
      have := ih (l.length - t) (by omega) t (by omega)
      omega
/-- The most instructions from each position on, as the law reckons them: by a list that is filled from behind. -/
structure Most (l : List (Int × Int)) (k : Nat) (ms : List Int) : Prop where
  len : ms.length = l.length + 1
  last : gd ms l.length = 0
  at_ : ∀ j (h : j < l.length), k ≤ j → (∀ t ∈ tg l[j].1 l[j].2 j, gd ms t + 1 ≤ gd ms j) ∧ ∃ t ∈ tg l[j].1 l[j].2 j, gd ms j = gd ms t + 1
theorem most_fuel {f : Fr} {l : List (Int × Int)} {d g : Nat → Int} (F : Fin f l d g) {ms : List Int} (M : Most l 0 ms) : gd ms 0 = g l.length := by
  have up : ∀ m k, k + m = l.length → g k + gd ms k ≤ g l.length := by
    intro m
    induction m using Nat.strongRecOn with
    | ind m ih =>
      intro k hk
      by_cases h : m = 0
      · rw [show k = l.length by omega, M.last]; omega
      · have hkl : k < l.length := by omega
        obtain ⟨t, ht, he⟩ := (M.at_ k hkl (by omega)).2
        obtain ⟨r1, _, r3⟩ := (F.step k hkl).2.2.2.2.2 t ht
        have hgt := tg_gt ht
        have := ih (l.length - t) (by omega) t (by omega)
        omega
  have back : ∀ t, t ≤ l.length → g t + gd ms t = g l.length → gd ms 0 = g l.length := by
    intro t
    induction t using Nat.strongRecOn with
    | ind t ih =>
      intro ht he
      by_cases h : t = 0
      · subst h; rw [F.g0] at he; omega
      · obtain ⟨j, hj, j1, j2, j3⟩ := F.src t (by omega) ht
        have h1 := (M.at_ j hj (by omega)).1 t j2
        have h2 := up (l.length - j) j (by omega)
        exact ih j j1 (by omega) (by omega)
  exact back l.length (Nat.le_refl _) (by rw [M.last]; omega)
end Go.Proofs.Ytllmhgikaijnhaa
