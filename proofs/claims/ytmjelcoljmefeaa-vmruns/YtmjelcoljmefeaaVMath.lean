/-
  Plain mathematics of a run: its state is a position, a stack (the last value is the top), slots, new cells and outputs; the fault of an instruction, the step, the run by fuel. No program stands in this file.
-/
import Derived.Test.YtmjelcoljmefeaaUMath
import Derived.Test.YtmjelcoljmefeaaWRefM
namespace Go.Proofs.Ytmjelcoljmefeaa
open Go.RowKit

structure VS where
  p : Nat
  st : List Int
  sl : List Int
  ce : List Int
  ou : List Int
def topV (st : List Int) : Int := gd st (st.length - 1)
def vjmp (o : Int) (st : List Int) : Prop := o = 10 ∨ (o = 11 ∧ topV st = 0)
instance (o : Int) (st : List Int) : Decidable (vjmp o st) := by unfold vjmp; infer_instance
/-- What is wrong of an instruction in a state; n is the code's length. -/
def vfault (f : Fr) (n : Nat) (o x : Int) (s : VS) : Int :=
  if rgtE o x ≠ 0 then rgtE o x else if ¬ insd f o x then 10
  else if (s.st.length : Int) < tak o ∨ 16 < (s.st.length : Int) - tak o + giv o then 12
  else if vjmp o s.st ∧ n < s.p + 1 + x.toNat then 11 else 0
/-- What is pushed. -/
def vval (old ins : List Int) (o x : Int) (s : VS) : Int :=
  if o = 1 then x else if o = 2 then gd s.sl x.toNat else if o = 4 then gd old x.toNat else if o = 6 then gd ins x.toNat
  else if o = 8 then unV x (topV s.st) else binV x (gd s.st (s.st.length - 2)) (topV s.st)
def vrest (o : Int) (st : List Int) : List Int := st.take (st.length - (tak o).toNat)
def vstep (old ins : List Int) (o x : Int) (s : VS) : VS :=
  ⟨s.p + 1 + (if vjmp o s.st then x.toNat else 0), vrest o s.st ++ (if giv o = 1 then [vval old ins o x s] else []),
    if o = 3 then s.sl.set x.toNat (topV s.st) else s.sl, if o = 5 then s.ce.set x.toNat (topV s.st) else s.ce, if o = 7 then s.ou.set x.toNat (topV s.st) else s.ou⟩
/-- A run: the fault, how many steps, the state. -/
def vrun (f : Fr) (l : List (Int × Int)) (old ins : List Int) : Nat → Nat → VS → Int × Nat × VS
  | 0, u, s => match l[s.p]? with
    | none => (if s.st.length = 0 then 0 else 12, u, s)
    | some _ => (14, u, s)
  | m + 1, u, s => match l[s.p]? with
    | none => (if s.st.length = 0 then 0 else 12, u, s)
    | some i => if vfault f l.length i.1 i.2 s ≠ 0 then (vfault f l.length i.1 i.2 s, u, s) else vrun f l old ins m (u + 1) (vstep old ins i.1 i.2 s)
def vini (f : Fr) (first : List Int) : VS := ⟨0, [], List.replicate f.s.toNat 0, first, List.replicate f.u.toNat 0⟩
def vbad (f : Fr) (no nf ni : Nat) (fuel : Int) : Prop := ¬ okF f ∨ (no : Int) ≠ f.o ∨ (nf : Int) ≠ f.n ∨ (ni : Int) ≠ f.i ∨ fuel < 0
instance (f : Fr) (no nf ni : Nat) (fuel : Int) : Decidable (vbad f no nf ni fuel) := by unfold vbad; infer_instance
/-- What Run answers: the fault, the cells, the outputs, how many steps. -/
def vend (r : Int × Nat × VS) : Int × List Int × List Int × Nat := if r.1 ≠ 0 then (r.1, [], [], 0) else (0, r.2.2.ce, r.2.2.ou, r.2.1)
def vmV (f : Fr) (l : List (Int × Int)) (old first ins : List Int) (fuel : Int) : Int × List Int × List Int × Nat :=
  if vbad f old.length first.length ins.length fuel then (1, [], [], 0) else if 600 < l.length then (3, [], [], 0)
  else vend (vrun f l old ins fuel.toNat 0 (vini f first))

-- values of 32 bits
def rng (v : Int) : Prop := -2147483648 ≤ v ∧ v ≤ 2147483647
def rngL (l : List Int) : Prop := ∀ v ∈ l, rng v
theorem rng_gd {l : List Int} (h : rngL l) (k : Nat) : rng (gd l k) := by
  by_cases hk : k < l.length
  · rw [gd_lt hk]; exact h _ (List.getElem_mem hk)
  · rw [gd_out (by omega)]; unfold rng; omega
theorem rng_set {l : List Int} (h : rngL l) (k : Nat) {v : Int} (hv : rng v) : rngL (l.set k v) := fun u hu => by
  rcases List.mem_or_eq_of_mem_set hu with h1 | rfl
  · exact h u h1
  · exact hv
theorem rng_app {l m : List Int} (h : rngL l) (k : rngL m) : rngL (l ++ m) := fun u hu => by
  rcases List.mem_append.1 hu with h1 | h1
  · exact h u h1
  · exact k u h1
theorem rng_take {l : List Int} (h : rngL l) (k : Nat) : rngL (l.take k) := fun u hu => h u (List.mem_of_mem_take hu)
theorem rng_one {v : Int} (h : rng v) : rngL [v] := fun u hu => by rw [List.mem_singleton] at hu; subst hu; exact h
theorem rng_nil : rngL [] := fun _ h => by cases h
theorem rng_rep (n : Nat) : rngL (List.replicate n 0) := fun u hu => by rw [(List.mem_replicate.1 hu).2]; unfold rng; omega
theorem rng_wf {v : Int} (h : rng v) : (Lit.int .i32 v).wf = true := by
  unfold rng at h
  simp only [Lit.wf, IntKind.min, IntKind.max, IntKind.signed, IntKind.bits, Bool.and_eq_true, decide_eq_true_eq, if_true]
  omega
theorem rng_truV (p : Bool) : rng (truV p) := by unfold truV rng; split <;> omega
theorem rng_wrap (n : Int) : rng (wrap32 n) := wrap32_rng n
theorem rng_bv (v : BitVec 32) : rng v.toInt := by
  have h1 := BitVec.toInt_lt (x := v)
  have h2 := BitVec.le_toInt (x := v)
  unfold rng
  have e : (2 : Int) ^ (32 - 1) = 2147483648 := by decide
  rw [e] at h1 h2
  omega
theorem rng_ite {c : Prop} [Decidable c] {a b : Int} (h : rng a) (k : rng b) : rng (if c then a else b) := by split <;> assumption
theorem rng_zero : rng 0 := by unfold rng; omega
theorem rng_binV {op a b : Int} (ha : rng a) : rng (binV op a b) := by
  have h7 : rng (shrV a b) := by
    have h2 : (1 : Int) ≤ 2 ^ (b % 32).toNat := p2_pos (b % 32).toNat
    exact ediv_bd ha.1 ha.2 h2
  have h8 : rng (bits .and .i32 a b) := by rw [and_bv]; exact rng_bv _
  have h9 : rng (bits .or .i32 a b) := by rw [or_bv]; exact rng_bv _
  have h10 : rng (bits .xor .i32 a b) := by rw [xor_bv]; exact rng_bv _
  unfold binV
  exact rng_ite (rng_wrap _) (rng_ite (rng_wrap _) (rng_ite (rng_wrap _) (rng_ite (rng_ite rng_zero (rng_wrap _)) (rng_ite (rng_wrap _) (rng_ite (rng_wrap _) (rng_ite h7
    (rng_ite h8 (rng_ite h9 (rng_ite h10 (rng_ite (rng_truV _) (rng_ite (rng_truV _) (rng_ite (rng_truV _) (rng_ite (rng_truV _) (rng_ite (rng_truV _) (rng_ite (rng_truV _) rng_zero)))))))))))))))
theorem rng_unV {op a : Int} : rng (unV op a) := rng_ite (rng_wrap _) (rng_ite (rng_truV _) rng_zero)

/-- What holds of every state of a run. -/
structure VI (f : Fr) (n : Nat) (s : VS) : Prop where
  p : s.p ≤ n
  ls : (s.sl.length : Int) = f.s
  lc : (s.ce.length : Int) = f.n
  lo : (s.ou.length : Int) = f.u
  lt : s.st.length ≤ 16
  rt : rngL s.st
  rs : rngL s.sl
  rc : rngL s.ce
  ro : rngL s.ou
theorem vi_ini {f : Fr} {n : Nat} {first : List Int} (hf : okF f) (h1 : (first.length : Int) = f.n) (hr : rngL first) : VI f n (vini f first) := by
  obtain ⟨h2, _, _, _, h3⟩ := hf
  refine ⟨Nat.zero_le _, ?_, h1, ?_, Nat.zero_le _, rng_nil, rng_rep _, hr, rng_rep _⟩
  · simp [vini]; omega
  · simp [vini]; omega
theorem vfault_zero {f : Fr} {n : Nat} {o x : Int} {s : VS} (h : vfault f n o x s = 0) :
    rgtE o x = 0 ∧ insd f o x ∧ tak o ≤ (s.st.length : Int) ∧ (s.st.length : Int) - tak o + giv o ≤ 16 ∧ (vjmp o s.st → s.p + 1 + x.toNat ≤ n) := by
  unfold vfault at h
  by_cases h1 : rgtE o x = 0
  · rw [if_neg (fun hn => hn h1)] at h
    by_cases h2 : insd f o x
    · rw [if_neg (fun hn => hn h2)] at h
      by_cases h4 : (s.st.length : Int) < tak o ∨ 16 < (s.st.length : Int) - tak o + giv o
      · rw [if_pos h4] at h; omega
      · rw [if_neg h4] at h
        by_cases h5 : vjmp o s.st ∧ n < s.p + 1 + x.toNat
        · rw [if_pos h5] at h; omega
        · exact ⟨h1, h2, by omega, by omega, fun hj => Nat.le_of_not_lt fun hlt => h5 ⟨hj, hlt⟩⟩
    · rw [if_pos h2] at h; omega
  · rw [if_pos h1] at h; exact absurd h h1
theorem vfault_mk {f : Fr} {n : Nat} {o x : Int} {s : VS} (h1 : rgtE o x = 0) (h2 : insd f o x) (h3 : tak o ≤ (s.st.length : Int)) (h4 : (s.st.length : Int) - tak o + giv o ≤ 16) (h5 : vjmp o s.st → s.p + 1 + x.toNat ≤ n) : vfault f n o x s = 0 := by
  unfold vfault
  rw [if_neg (fun hn => hn h1), if_neg (fun hn => hn h2), if_neg (by omega), if_neg]
  rintro ⟨hj, hlt⟩
  have := h5 hj
  omega
theorem vrest_len {o : Int} {st : List Int} (h : tak o ≤ (st.length : Int)) : ((vrest o st).length : Int) = (st.length : Int) - tak o := by
  have := (tak_range o).1
  unfold vrest
  rw [List.length_take]
  omega
theorem vstep_len {old ins : List Int} {o x : Int} {s : VS} (h : tak o ≤ (s.st.length : Int)) : ((vstep old ins o x s).st.length : Int) = (s.st.length : Int) - tak o + giv o := by
  have h1 := vrest_len h
  have h2 := giv_range o
  unfold vstep
  by_cases hg : giv o = 1
  · simp only [if_pos hg, List.length_append, List.length_cons, List.length_nil]; omega
  · simp only [if_neg hg, List.length_append, List.length_nil]; omega
theorem rng_vval {old ins : List Int} {o x : Int} {s : VS} (ho : rngL old) (hi : rngL ins) (ht : rngL s.st) (hs : rngL s.sl) (hx : rng x) : rng (vval old ins o x s) := by
  unfold vval
  split; exact hx
  split; exact rng_gd hs _
  split; exact rng_gd ho _
  split; exact rng_gd hi _
  split; exact rng_unV
  exact rng_binV (rng_gd ht _)
theorem vi_step {f : Fr} {n : Nat} {old ins : List Int} {o x : Int} {s : VS} (I : VI f n s) (hp : s.p < n) (h : vfault f n o x s = 0) (ho : rngL old) (hi : rngL ins) (hx : rng x) : VI f n (vstep old ins o x s) := by
  obtain ⟨h1, h2, h3, h4, h5⟩ := vfault_zero h
  have ht := rng_gd I.rt (s.st.length - 1)
  have hl := vstep_len (old := old) (ins := ins) (x := x) h3
  refine ⟨?_, ?_, ?_, ?_, by omega, ?_, ?_, ?_, ?_⟩
  · show s.p + 1 + (if vjmp o s.st then x.toNat else 0) ≤ n
    by_cases hj : vjmp o s.st
    · rw [if_pos hj]; exact h5 hj
    · rw [if_neg hj]; omega
  · show ((if o = 3 then s.sl.set x.toNat (topV s.st) else s.sl).length : Int) = f.s
    rw [← I.ls]; split <;> simp
  · show ((if o = 5 then s.ce.set x.toNat (topV s.st) else s.ce).length : Int) = f.n
    rw [← I.lc]; split <;> simp
  · show ((if o = 7 then s.ou.set x.toNat (topV s.st) else s.ou).length : Int) = f.u
    rw [← I.lo]; split <;> simp
  · refine rng_app (rng_take I.rt _) ?_
    split
    · exact rng_one (rng_vval ho hi I.rt I.rs hx)
    · exact rng_nil
  · show rngL (if o = 3 then s.sl.set x.toNat (topV s.st) else s.sl)
    split
    · exact rng_set I.rs _ ht
    · exact I.rs
  · show rngL (if o = 5 then s.ce.set x.toNat (topV s.st) else s.ce)
    split
    · exact rng_set I.rc _ ht
    · exact I.rc
  · show rngL (if o = 7 then s.ou.set x.toNat (topV s.st) else s.ou)
    split
    · exact rng_set I.ro _ ht
    · exact I.ro

-- the run, one step at a time
section
variable {f : Fr} {l : List (Int × Int)} {old ins : List Int} {m u : Nat} {s : VS}
theorem vrun_end (h : l.length ≤ s.p) : vrun f l old ins m u s = (if s.st.length = 0 then 0 else 12, u, s) := by
  have e : l[s.p]? = none := List.getElem?_eq_none h
  cases m <;> simp [vrun, e]
theorem vrun_fuel (h : s.p < l.length) : vrun f l old ins 0 u s = (14, u, s) := by
  have e : l[s.p]? = some l[s.p] := List.getElem?_eq_getElem h
  simp [vrun, e]
theorem vrun_bad {y x : Int} (hu : l[s.p]? = some (y, x)) (h : vfault f l.length y x s ≠ 0) : vrun f l old ins (m + 1) u s = (vfault f l.length y x s, u, s) := by
  unfold vrun; rw [hu]; exact if_pos h
theorem vrun_go {y x : Int} (hu : l[s.p]? = some (y, x)) (h : vfault f l.length y x s = 0) : vrun f l old ins (m + 1) u s = vrun f l old ins m (u + 1) (vstep old ins y x s) := by
  conv => lhs; unfold vrun
  rw [hu]; exact if_neg (fun hn => hn h)
theorem vstep_p {o x : Int} : s.p < (vstep old ins o x s).p := by show s.p < s.p + 1 + _; omega
end
theorem get_of' {α : Type} {l : List α} {k : Nat} (h : k < l.length) : l[k]? = some l[k] := List.getElem?_eq_getElem h

-- the state at the end keeps what holds of each state
theorem vi_run {f : Fr} {l : List (Int × Int)} {old ins : List Int} (ho : rngL old) (hi : rngL ins) (hl : ∀ i ∈ l, rng i.2) : ∀ (m u : Nat) (s : VS), VI f l.length s → VI f l.length (vrun f l old ins m u s).2.2 := by
  intro m
  induction m with
  | zero =>
    intro u s I
    by_cases h : s.p < l.length
    · rw [vrun_fuel h]; exact I
    · rw [vrun_end (by omega)]; exact I
  | succ m ih =>
    intro u s I
    by_cases h : s.p < l.length
    · have e : l[s.p]? = some (l[s.p].1, l[s.p].2) := get_of' h
      by_cases hf : vfault f l.length l[s.p].1 l[s.p].2 s = 0
      · rw [vrun_go e hf]; exact ih _ _ (vi_step I h hf ho hi (hl _ (List.getElem_mem h)))
      · rw [vrun_bad e hf]; exact I
    · rw [vrun_end (by omega)]; exact I
/-- The number of steps lies between. -/
theorem used_run {f : Fr} {l : List (Int × Int)} {old ins : List Int} : ∀ (m u : Nat) (s : VS), u ≤ (vrun f l old ins m u s).2.1 ∧ (vrun f l old ins m u s).2.1 ≤ u + m := by
  intro m
  induction m with
  | zero =>
    intro u s
    by_cases h : s.p < l.length
    · rw [vrun_fuel h]; exact ⟨Nat.le_refl _, Nat.le_refl _⟩
    · rw [vrun_end (by omega)]; exact ⟨Nat.le_refl _, Nat.le_refl _⟩
  | succ m ih =>
    intro u s
    by_cases h : s.p < l.length
    · have e : l[s.p]? = some (l[s.p].1, l[s.p].2) := get_of' h
      by_cases hf : vfault f l.length l[s.p].1 l[s.p].2 s = 0
      · rw [vrun_go e hf]; have := ih (u + 1) (vstep old ins l[s.p].1 l[s.p].2 s); omega
      · rw [vrun_bad e hf]; exact ⟨Nat.le_refl _, by show u ≤ u + (m + 1); omega⟩
    · rw [vrun_end (by omega)]; exact ⟨Nat.le_refl _, by show u ≤ u + (m + 1); omega⟩
/-- With as much fuel as was taken, or more, it does the same; with less it ends for want of fuel. -/
theorem fuel_run {f : Fr} {l : List (Int × Int)} {old ins : List Int} : ∀ (m u : Nat) (s : VS), (vrun f l old ins m u s).1 = 0 →
    ∀ k, ((vrun f l old ins m u s).2.1 ≤ u + k → vrun f l old ins k u s = vrun f l old ins m u s) ∧ (u + k < (vrun f l old ins m u s).2.1 → (vrun f l old ins k u s).1 = 14) := by
  intro m
  induction m with
  | zero =>
    intro u s h0 k
    by_cases h : s.p < l.length
    · rw [vrun_fuel h] at h0; simp at h0
    · rw [vrun_end (by omega), vrun_end (by omega)]
      exact ⟨fun _ => rfl, fun h => by have : u + k < u := h; omega⟩
  | succ m ih =>
    intro u s h0 k
    by_cases h : s.p < l.length
    · have e : l[s.p]? = some (l[s.p].1, l[s.p].2) := get_of' h
      by_cases hf : vfault f l.length l[s.p].1 l[s.p].2 s = 0
      · rw [vrun_go e hf] at h0 ⊢
        have hu := (used_run (f := f) (l := l) (old := old) (ins := ins) m (u + 1) (vstep old ins l[s.p].1 l[s.p].2 s)).1
        cases k with
        | zero =>
          rw [vrun_fuel h]
          exact ⟨fun h => by omega, fun _ => rfl⟩
        | succ k =>
          rw [vrun_go e hf]
          obtain ⟨i1, i2⟩ := ih (u + 1) _ h0 k
          exact ⟨fun h => i1 (by omega), fun h => i2 (by omega)⟩
      · rw [vrun_bad e hf] at h0; exact absurd h0 hf
    · rw [vrun_end (by omega), vrun_end (by omega)]
      exact ⟨fun _ => rfl, fun h => by have : u + k < u := h; omega⟩
end Go.Proofs.Ytmjelcoljmefeaa
