/-
  Plain mathematics of runs: what was accepted has no fault and ends in time; fuel; values that nothing touches; sums. No program stands in this file.
-/
import Derived.Test.YtmjelcoljmefeaaVHelp2
import Derived.Test.YtmjelcoljmefeaaVPkg4
namespace Go.Proofs.Ytmjelcoljmefeaa
open Go.RowKit

-- what was accepted
theorem vstep_tg {old ins : List Int} {o x : Int} {s : VS} : (vstep old ins o x s).p ∈ tg o x s.p := by
  show s.p + 1 + (if vjmp o s.st then x.toNat else 0) ∈ tg o x s.p
  unfold tg
  by_cases h10 : o = 10
  · have j : vjmp o s.st := .inl h10
    rw [if_pos j, if_pos h10]; exact List.mem_singleton_self _
  · by_cases h11 : o = 11
    · rw [if_neg h10, if_pos h11]
      by_cases ht : topV s.st = 0
      · have j : vjmp o s.st := .inr ⟨h11, ht⟩
        rw [if_pos j]; simp
      · have j : ¬ vjmp o s.st := by rintro (h | ⟨_, h⟩); exact h10 h; exact ht h
        rw [if_neg j]; simp
    · have j : ¬ vjmp o s.st := by rintro (h | ⟨h, _⟩); exact h10 h; exact h11 h
      rw [if_neg j, if_neg h10, if_neg h11]; simp
theorem fin_lt {f : Fr} {l : List (Int × Int)} {d g : Nat → Int} (F : Fin f l d g) : ∀ (m p : Nat), p < l.length → l.length - p ≤ m → g p + 1 ≤ g l.length := by
  intro m
  induction m with
  | zero => intro p h hm; omega
  | succ m ih =>
    intro p h hm
    obtain ⟨t, ht⟩ := tg_one l[p].1 l[p].2 p
    obtain ⟨h1, _, h3⟩ := (F.step p h).2.2.2.2.2 t ht
    have h4 := tg_gt ht
    by_cases e : t = l.length
    · subst e; exact h3
    · have := ih t (by omega) (by omega)
      omega
theorem safe_run {f : Fr} {l : List (Int × Int)} {d g : Nat → Int} {old ins : List Int} (F : Fin f l d g) : ∀ (m u : Nat) (s : VS), s.p ≤ l.length → (s.st.length : Int) = d s.p → (u : Int) ≤ g s.p → g l.length ≤ (u : Int) + m →
    (vrun f l old ins m u s).1 = 0 ∧ ((vrun f l old ins m u s).2.1 : Int) ≤ g l.length := by
  intro m
  induction m with
  | zero =>
    intro u s hp hd hu hm
    by_cases h : s.p < l.length
    · have := fin_lt F _ s.p h (Nat.le_refl _)
      omega
    · obtain e : s.p = l.length := by omega
      rw [vrun_end (by omega)]
      rw [e, F.dn] at hd
      rw [e] at hu
      exact ⟨if_pos (by omega), hu⟩
  | succ m ih =>
    intro u s hp hd hu hm
    by_cases h : s.p < l.length
    · have e : l[s.p]? = some (l[s.p].1, l[s.p].2) := get_of' h
      obtain ⟨s1, s2, s3, s4, s5, s6⟩ := F.step s.p h
      have hf : vfault f l.length l[s.p].1 l[s.p].2 s = 0 := by
        refine vfault_mk s1 s2 (by omega) (by omega) fun hj => ?_
        unfold tg at s6
        rcases hj with h10 | ⟨h11, _⟩
        · rw [if_pos h10] at s6; exact (s6 _ (List.mem_singleton_self _)).1
        · rw [if_neg (by omega), if_pos h11] at s6; exact (s6 (s.p + 1 + l[s.p].2.toNat) (by simp)).1
      rw [vrun_go e hf]
      obtain ⟨t1, t2, t3⟩ := s6 _ (vstep_tg (old := old) (ins := ins))
      have hl := vstep_len (old := old) (ins := ins) (x := l[s.p].2) (s := s) (o := l[s.p].1) (by omega)
      exact ih _ _ t1 (by rw [hl, t2, hd]) (by omega) (by omega)
    · obtain e : s.p = l.length := by omega
      rw [vrun_end (by omega)]
      rw [e, F.dn] at hd
      rw [e] at hu
      exact ⟨if_pos (by omega), hu⟩
theorem vm_ok {f : Fr} {l : List (Int × Int)} {old first ins : List Int} {x : Int} (h : (vmV f l old first ins x).1 = 0) :
    ¬ vbad f old.length first.length ins.length x ∧ ¬ 600 < l.length ∧ (vrun f l old ins x.toNat 0 (vini f first)).1 = 0 ∧ vmV f l old first ins x = (0, (vrun f l old ins x.toNat 0 (vini f first)).2.2.ce, (vrun f l old ins x.toNat 0 (vini f first)).2.2.ou, (vrun f l old ins x.toNat 0 (vini f first)).2.1) := by
  by_cases h1 : vbad f old.length first.length ins.length x
  · rw [vm_bad h1] at h; simp at h
  · by_cases h2 : 600 < l.length
    · rw [vm_big h1 h2] at h; simp at h
    · rw [vm_run h1 h2] at h ⊢
      by_cases h3 : (vrun f l old ins x.toNat 0 (vini f first)).1 = 0
      · exact ⟨h1, h2, h3, vm_end h3⟩
      · rw [vm_fault h3] at h; exact absurd h h3
theorem vm_zero {f : Fr} {l : List (Int × Int)} {old first ins : List Int} {x : Int} (h : (vmV f l old first ins x).1 ≠ 0) : vmV f l old first ins x = ((vmV f l old first ins x).1, [], [], 0) := by
  by_cases h1 : vbad f old.length first.length ins.length x
  · rw [vm_bad h1]
  · by_cases h2 : 600 < l.length
    · rw [vm_big h1 h2]
    · rw [vm_run h1 h2] at h ⊢
      by_cases h3 : (vrun f l old ins x.toNat 0 (vini f first)).1 = 0
      · rw [vm_end h3] at h; exact absurd rfl h
      · rw [vm_fault h3]
theorem vm_lens {f : Fr} {l : List (Int × Int)} {old first ins : List Int} {x : Int} (h : (vmV f l old first ins x).1 = 0) (ho : rngL old) (hi : rngL ins) (hr : rngL first) (hl : ∀ i ∈ l, rng i.2) :
    ((vmV f l old first ins x).2.1.length : Int) = f.n ∧ ((vmV f l old first ins x).2.2.1.length : Int) = f.u ∧ ((vmV f l old first ins x).2.2.2 : Int) ≤ x := by
  obtain ⟨h1, h2, h3, h4⟩ := vm_ok h
  have hok : okF f := Decidable.byContradiction fun hn => h1 (.inl hn)
  have hn : (first.length : Int) = f.n := Decidable.byContradiction fun hn => h1 (.inr (.inr (.inl hn)))
  have hx : ¬ x < 0 := fun hn => h1 (.inr (.inr (.inr (.inr hn))))
  have I := vi_run ho hi hl x.toNat 0 _ (vi_ini (n := l.length) hok hn hr)
  have U := (used_run (f := f) (l := l) (old := old) (ins := ins) x.toNat 0 (vini f first)).2
  rw [h4]
  exact ⟨I.lc, I.lo, by show ((vrun f l old ins x.toNat 0 (vini f first)).2.1 : Int) ≤ x; omega⟩
theorem used_p {f : Fr} {l : List (Int × Int)} {old ins : List Int} : ∀ (m u : Nat) (s : VS), u ≤ s.p → (vrun f l old ins m u s).2.1 ≤ (vrun f l old ins m u s).2.2.p := by
  intro m
  induction m with
  | zero =>
    intro u s hu
    by_cases h : s.p < l.length
    · rw [vrun_fuel h]; exact hu
    · rw [vrun_end (by omega)]; exact hu
  | succ m ih =>
    intro u s hu
    by_cases h : s.p < l.length
    · have e : l[s.p]? = some (l[s.p].1, l[s.p].2) := get_of' h
      by_cases hf : vfault f l.length l[s.p].1 l[s.p].2 s = 0
      · rw [vrun_go e hf]
        have := vstep_p (s := s) (old := old) (ins := ins) (o := l[s.p].1) (x := l[s.p].2)
        exact ih _ _ (by omega)
      · rw [vrun_bad e hf]; exact hu
    · rw [vrun_end (by omega)]; exact hu
theorem vm_used {f : Fr} {l : List (Int × Int)} {old first ins : List Int} {x : Int} (h : (vmV f l old first ins x).1 = 0) (ho : rngL old) (hi : rngL ins) (hr : rngL first) (hl : ∀ i ∈ l, rng i.2) : (vmV f l old first ins x).2.2.2 ≤ 600 := by
  obtain ⟨h1, h2, h3, h4⟩ := vm_ok h
  have hok : okF f := Decidable.byContradiction fun hn => h1 (.inl hn)
  have hn : (first.length : Int) = f.n := Decidable.byContradiction fun hn => h1 (.inr (.inr (.inl hn)))
  have I := (vi_run (f := f) ho hi hl x.toNat 0 _ (vi_ini (n := l.length) hok hn hr)).p
  have U := used_p (f := f) (l := l) (old := old) (ins := ins) x.toNat 0 (vini f first) (Nat.zero_le _)
  rw [h4]
  show (vrun f l old ins x.toNat 0 (vini f first)).2.1 ≤ 600
  omega
theorem safe_vm {f : Fr} {l : List (Int × Int)} {old first ins : List Int} (h : (checkM f l).2.2.1 = 0) (ho : (old.length : Int) = f.o) (hf : (first.length : Int) = f.n) (hi : (ins.length : Int) = f.i) : (vmV f l old first ins (checkM f l).2.1).1 = 0 := by
  obtain ⟨ok, hl, _, d, g, F, _, hg⟩ := check_fin h
  have h0 := (gs_nonneg F l.length (Nat.le_refl _)).1
  rw [hg]
  rw [vm_run (by unfold vbad; rw [ho, hf, hi]; simp [ok]; omega) (by omega)]
  obtain ⟨h1, _⟩ := safe_run (old := old) (ins := ins) F (g l.length).toNat 0 (vini f first) (Nat.zero_le _) (by rw [show (vini f first).p = 0 from rfl, F.d0]; rfl) (by rw [show (vini f first).p = 0 from rfl, F.g0]; simp) (by omega)
  rw [vm_end h1]

-- fuel
theorem fuel_vm {f : Fr} {l : List (Int × Int)} {old first ins : List Int} {x : Int} (h : (vmV f l old first ins x).1 = 0) (y : Int) (hy : 0 ≤ y) :
    (((vmV f l old first ins x).2.2.2 : Int) ≤ y → vmV f l old first ins y = vmV f l old first ins x) ∧ (y < ((vmV f l old first ins x).2.2.2 : Int) → vmV f l old first ins y = (14, [], [], 0)) := by
  obtain ⟨h1, h2, h3, h4⟩ := vm_ok h
  have h1' : ¬ vbad f old.length first.length ins.length y := by
    unfold vbad at h1 ⊢
    intro hn
    rcases hn with hn | hn | hn | hn | hn
    · exact h1 (.inl hn)
    · exact h1 (.inr (.inl hn))
    · exact h1 (.inr (.inr (.inl hn)))
    · exact h1 (.inr (.inr (.inr (.inl hn))))
    · omega
  obtain ⟨k1, k2⟩ := fuel_run (f := f) (l := l) (old := old) (ins := ins) x.toNat 0 (vini f first) h3 y.toNat
  rw [h4, vm_run h1' h2]
  refine ⟨fun hle => ?_, fun hlt => ?_⟩
  · rw [k1 (by have : ((vrun f l old ins x.toNat 0 (vini f first)).2.1 : Int) ≤ y := hle; omega), vm_end h3]
  · have e := k2 (by have : y < ((vrun f l old ins x.toNat 0 (vini f first)).2.1 : Int) := hlt; omega)
    rw [vm_fault (by rw [e]; omega), e]

-- what nothing touches
theorem touch_of {l : List (Int × Int)} {o x : Int} {k j : Nat} (hu : l[j]? = some (o, x)) (hx : x = (k : Int)) : touchB l o k = true := by
  unfold touchB
  rw [List.any_eq_true]
  exact ⟨(o, x), List.mem_of_getElem? hu, by simp [hx]⟩
theorem nonneg_of {o x : Int} (hr : rgtE o x = 0) (h1 : o ≠ 1) (h2 : o ≠ 8) (h3 : o ≠ 9) : 0 ≤ x := by
  have ho := rgt_op hr
  unfold rgtE at hr
  rw [if_neg h1, if_neg h2, if_neg h3] at hr
  by_cases h4 : o = 10 ∨ o = 11
  · rw [if_pos h4] at hr; by_cases h5 : 0 ≤ x ∧ x ≤ 65535
    · exact h5.1
    · rw [if_neg h5] at hr; omega
  · rw [if_neg h4, if_pos (by omega)] at hr
    by_cases h5 : 0 ≤ x ∧ x ≤ 255
    · exact h5.1
    · rw [if_neg h5] at hr; omega
theorem same_run {f : Fr} {l : List (Int × Int)} {old old' ins ins' : List Int} (h4 : ∀ k, touchB l 4 k = true → gd old k = gd old' k) (h6 : ∀ k, touchB l 6 k = true → gd ins k = gd ins' k) :
    ∀ (m u : Nat) (s : VS), vrun f l old ins m u s = vrun f l old' ins' m u s := by
  intro m
  induction m with
  | zero =>
    intro u s
    by_cases h : s.p < l.length
    · rw [vrun_fuel h, vrun_fuel h]
    · rw [vrun_end (by omega), vrun_end (by omega)]
  | succ m ih =>
    intro u s
    by_cases h : s.p < l.length
    · have e : l[s.p]? = some (l[s.p].1, l[s.p].2) := get_of' h
      by_cases hf : vfault f l.length l[s.p].1 l[s.p].2 s = 0
      · rw [vrun_go e hf, vrun_go e hf]
        have hr := (vfault_zero hf).1
        have hv : vstep old ins l[s.p].1 l[s.p].2 s = vstep old' ins' l[s.p].1 l[s.p].2 s := by
          have key : vval old ins l[s.p].1 l[s.p].2 s = vval old' ins' l[s.p].1 l[s.p].2 s := by
            unfold vval
            by_cases q4 : l[s.p].1 = 4
            · have hx := nonneg_of hr (by omega) (by omega) (by omega)
              rw [q4] at e ⊢
              rw [h4 _ (touch_of e (by omega))]
              rfl
            · by_cases q6 : l[s.p].1 = 6
              · have hx := nonneg_of hr (by omega) (by omega) (by omega)
                rw [q6] at e ⊢
                rw [h6 _ (touch_of e (by omega))]
                rfl
              · simp [q4, q6]
          unfold vstep
          rw [key]
        rw [hv]
        exact ih _ _
      · rw [vrun_bad e hf, vrun_bad e hf]
    · rw [vrun_end (by omega), vrun_end (by omega)]
theorem kept_run {f : Fr} {l : List (Int × Int)} {old ins : List Int} : ∀ (m u : Nat) (s : VS) (k : Nat), (touchB l 5 k = false → gd (vrun f l old ins m u s).2.2.ce k = gd s.ce k) ∧ (touchB l 7 k = false → gd (vrun f l old ins m u s).2.2.ou k = gd s.ou k) := by
  intro m
  induction m with
  | zero =>
    intro u s k
    by_cases h : s.p < l.length
    · rw [vrun_fuel h]; exact ⟨fun _ => rfl, fun _ => rfl⟩
    · rw [vrun_end (by omega)]; exact ⟨fun _ => rfl, fun _ => rfl⟩
  | succ m ih =>
    intro u s k
    by_cases h : s.p < l.length
    · have e : l[s.p]? = some (l[s.p].1, l[s.p].2) := get_of' h
      by_cases hf : vfault f l.length l[s.p].1 l[s.p].2 s = 0
      · rw [vrun_go e hf]
        have hr := (vfault_zero hf).1
        obtain ⟨i1, i2⟩ := ih (u + 1) (vstep old ins l[s.p].1 l[s.p].2 s) k
        refine ⟨fun hk => (i1 hk).trans ?_, fun hk => (i2 hk).trans ?_⟩
        · show gd (if l[s.p].1 = 5 then s.ce.set l[s.p].2.toNat (topV s.st) else s.ce) k = gd s.ce k
          by_cases q : l[s.p].1 = 5
          · rw [if_pos q]
            have hx := nonneg_of hr (by omega) (by omega) (by omega)
            rw [q] at e
            have hne : k ≠ l[s.p].2.toNat := fun hk2 => by
              rw [touch_of (k := k) e (by omega)] at hk; cases hk
            unfold gd
            rw [List.getD_eq_getElem?_getD, List.getD_eq_getElem?_getD, List.getElem?_set, if_neg (fun e' => hne e'.symm)]
          · rw [if_neg q]
        · show gd (if l[s.p].1 = 7 then s.ou.set l[s.p].2.toNat (topV s.st) else s.ou) k = gd s.ou k
          by_cases q : l[s.p].1 = 7
          · rw [if_pos q]
            have hx := nonneg_of hr (by omega) (by omega) (by omega)
            rw [q] at e
            have hne : k ≠ l[s.p].2.toNat := fun hk2 => by
              rw [touch_of (k := k) e (by omega)] at hk; cases hk
            unfold gd
            rw [List.getD_eq_getElem?_getD, List.getD_eq_getElem?_getD, List.getElem?_set, if_neg (fun e' => hne e'.symm)]
          · rw [if_neg q]
      · rw [vrun_bad e hf]; exact ⟨fun _ => rfl, fun _ => rfl⟩
    · rw [vrun_end (by omega)]; exact ⟨fun _ => rfl, fun _ => rfl⟩
theorem same_vm {f : Fr} {l : List (Int × Int)} {old old' first ins ins' : List Int} {x : Int} (ho : old'.length = old.length) (hi : ins'.length = ins.length) (h4 : ∀ k, touchB l 4 k = true → gd old k = gd old' k) (h6 : ∀ k, touchB l 6 k = true → gd ins k = gd ins' k) :
    vmV f l old first ins x = vmV f l old' first ins' x := by
  unfold vmV
  rw [ho, hi, same_run h4 h6]
theorem kept_vm {f : Fr} {l : List (Int × Int)} {old first ins : List Int} {x : Int} (h : (vmV f l old first ins x).1 = 0) (k : Nat) : (touchB l 5 k = false → gd (vmV f l old first ins x).2.1 k = gd first k) ∧ (touchB l 7 k = false → gd (vmV f l old first ins x).2.2.1 k = 0) := by
  obtain ⟨_, _, _, h4⟩ := vm_ok h
  rw [h4]
  obtain ⟨k1, k2⟩ := kept_run (f := f) (l := l) (old := old) (ins := ins) x.toNat 0 (vini f first) k
  refine ⟨k1, fun hk => (k2 hk).trans ?_⟩
  show gd (List.replicate f.u.toNat 0) k = 0
  unfold gd
  rw [List.getD_eq_getElem?_getD, List.getElem?_replicate]
  split <;> rfl
end Go.Proofs.Ytmjelcoljmefeaa
