/-
  Plain mathematics of the checking of codes: a frame is five numbers, a state is two lists (the depth at each position, -1 where none is known; the most instructions up to there). No program stands in this file.
-/
import Derived.Test.YtdikiabjkmigdaaGreatDoorIMath
namespace Go.Proofs.YtdikiabjkmigdaaGreatDoor
set_option maxRecDepth 20000

structure Fr where
  s : Int
  o : Int
  n : Int
  i : Int
  u : Int
def okF (f : Fr) : Prop := (0 ≤ f.s ∧ f.s ≤ 24) ∧ (0 ≤ f.o ∧ f.o ≤ 16) ∧ (0 ≤ f.n ∧ f.n ≤ 16) ∧ (0 ≤ f.i ∧ f.i ≤ 8) ∧ (0 ≤ f.u ∧ f.u ≤ 8)
instance (f : Fr) : Decidable (okF f) := by unfold okF; infer_instance
def frmE (f : Fr) : Int := if okF f then 0 else 1
def tak (o : Int) : Int := if o = 3 ∨ o = 5 ∨ o = 7 ∨ o = 8 ∨ o = 11 then 1 else if o = 9 then 2 else 0
def giv (o : Int) : Int := if o = 1 ∨ o = 2 ∨ o = 4 ∨ o = 6 ∨ o = 8 ∨ o = 9 then 1 else 0
def roomV (f : Fr) (o : Int) : Int := if o = 2 ∨ o = 3 then f.s else if o = 4 then f.o else if o = 5 then f.n else if o = 6 then f.i else if o = 7 then f.u else -1
/-- What the instruction touches is there. -/
def insd (f : Fr) (o x : Int) : Prop := roomV f o < 0 ∨ x < roomV f o
instance (f : Fr) (o x : Int) : Decidable (insd f o x) := by unfold insd; infer_instance
/-- The positions to which control passes. -/
def tg (o x : Int) (k : Nat) : List Nat := if o = 10 then [k + 1 + x.toNat] else if o = 11 then [k + 1, k + 1 + x.toNat] else [k + 1]
def gd (d : List Int) (k : Nat) : Int := d.getD k 0
def preE (f : Fr) (k : Nat) (o x : Int) (d : List Int) : Int :=
  if rgtE o x ≠ 0 then rgtE o x else if ¬ insd f o x then 10 else if gd d k < 0 then 13
  else if gd d k < tak o ∨ 16 < gd d k - tak o + giv o then 12 else if ∃ t ∈ tg o x k, d.length ≤ t then 11 else 0
def putM (v m : Int) : List Nat → List Int → List Int → Option (List Int × List Int)
  | [], d, g => some (d, g)
  | t :: ts, d, g => if 0 ≤ gd d t ∧ gd d t ≠ v then none else putM v m ts (d.set t v) (g.set t (max (gd g t) m))
def stepM (f : Fr) (k : Nat) (o x : Int) (d g : List Int) : Int × List Int × List Int :=
  if preE f k o x d ≠ 0 then (preE f k o x d, d, g) else
    match putM (gd d k - tak o + giv o) (gd g k + 1) (tg o x k) d g with
    | none => (12, d, g)
    | some (d', g') => (0, d', g')
def runM (f : Fr) : List (Int × Int) → Nat → List Int → List Int → Int × Nat × List Int × List Int
  | [], k, d, g => (0, k, d, g)
  | i :: r, k, d, g => if (stepM f k i.1 i.2 d g).1 ≠ 0 then ((stepM f k i.1 i.2 d g).1, k, d, g) else runM f r (k + 1) (stepM f k i.1 i.2 d g).2.1 (stepM f k i.1 i.2 d g).2.2
def deepL (d : List Int) : Int := d.foldl max 0
def ini (n : Nat) : List Int := 0 :: List.replicate n (-1)
def zer (n : Nat) : List Int := List.replicate (n + 1) 0
/-- Depth, Fuel, fault, place. -/
def checkM (f : Fr) (l : List (Int × Int)) : Int × Int × Int × Int :=
  if ¬ okF f then (0, 0, 1, 0) else if 600 < l.length then (0, 0, 3, 0) else
    let r := runM f l 0 (ini l.length) (zer l.length)
    if r.1 ≠ 0 then (0, 0, r.1, (r.2.1 : Int)) else if gd r.2.2.1 l.length ≠ 0 then (0, 0, 12, (l.length : Int))
    else (deepL r.2.2.1, gd r.2.2.2 l.length, 0, 0)

theorem gd_lt {d : List Int} {k : Nat} (h : k < d.length) : gd d k = d[k] := by unfold gd; rw [List.getD_eq_getElem?_getD, List.getElem?_eq_getElem h]; rfl
theorem gd_get {d : List Int} {k : Nat} (h : k < d.length) : d[k]? = some (gd d k) := by rw [gd_lt h, List.getElem?_eq_getElem h]
theorem gd_out {d : List Int} {k : Nat} (h : d.length ≤ k) : gd d k = 0 := by unfold gd; rw [List.getD_eq_getElem?_getD, List.getElem?_eq_none h]; rfl
theorem gd_set {d : List Int} {k t : Nat} {v : Int} (h : t < d.length) : gd (d.set t v) k = if k = t then v else gd d k := by
  unfold gd
  rw [List.getD_eq_getElem?_getD, List.getD_eq_getElem?_getD, List.getElem?_set]
  by_cases e : k = t
  · subst e; simp [h]
  · rw [if_neg e, if_neg (fun e' => e e'.symm)]
theorem tg_gt {o x : Int} {k t : Nat} (h : t ∈ tg o x k) : k < t := by
  unfold tg at h
  split at h
  · simp at h; omega
  · split at h
    · simp at h; omega
    · simp at h; omega
theorem tg_one (o x : Int) (k : Nat) : ∃ t, t ∈ tg o x k := by
  unfold tg; split
  · exact ⟨_, List.mem_singleton_self _⟩
  · split
    · exact ⟨_, List.mem_cons_self⟩
    · exact ⟨_, List.mem_singleton_self _⟩
theorem tak_range (o : Int) : 0 ≤ tak o ∧ tak o ≤ 2 := by unfold tak; split; omega; split <;> omega
theorem giv_range (o : Int) : 0 ≤ giv o ∧ giv o ≤ 1 := by unfold giv; split <;> omega

-- what is put
theorem putM_facts {v m : Int} : ∀ {ts : List Nat} {d g d' g' : List Int}, putM v m ts d g = some (d', g') → (∀ t ∈ ts, t < d.length) → d.length = g.length →
    d'.length = d.length ∧ g'.length = g.length ∧ (∀ t ∈ ts, gd d' t = v) ∧ (∀ t, t ∉ ts → gd d' t = gd d t ∧ gd g' t = gd g t) ∧ (∀ t ∈ ts, gd d t < 0 ∨ gd d t = v) ∧ (∀ t ∈ ts, m ≤ gd g' t) ∧ (∀ t, gd g t ≤ gd g' t) ∧ ∀ t, gd g' t = gd g t ∨ (t ∈ ts ∧ gd g' t = m) := by
  intro ts
  induction ts with
  | nil =>
    intro d g d' g' h _ _
    obtain ⟨rfl, rfl⟩ : d = d' ∧ g = g' := by simpa [putM] using h
    exact ⟨rfl, rfl, by simp, fun _ _ => ⟨rfl, rfl⟩, by simp, by simp, fun _ => Int.le_refl _, fun _ => .inl rfl⟩
  | cons t ts ih =>
    intro d g d' g' h hin hlen
    unfold putM at h
    split at h
    · cases h
    · rename_i hc
      have ht : t < d.length := hin t List.mem_cons_self
      have htg : t < g.length := by omega
      obtain ⟨h1, h2, h3, h4, h5, h6, h7, h8⟩ := ih h (fun u hu => by rw [List.length_set]; exact hin u (List.mem_cons_of_mem _ hu)) (by simpa using hlen)
      rw [List.length_set] at h1 h2
      refine ⟨h1, h2, ?_, ?_, ?_, ?_, ?_, ?_⟩
      · intro u hu
        by_cases hm : u ∈ ts
        · exact h3 u hm
        · rcases List.mem_cons.1 hu with rfl | hu
          · rw [(h4 u hm).1, gd_set ht, if_pos rfl]
          · exact absurd hu hm
      · intro u hu
        obtain ⟨hu1, hu2⟩ := not_or.1 (fun h => hu (List.mem_cons.2 h))
        obtain ⟨e1, e2⟩ := h4 u hu2
        rw [gd_set ht, if_neg hu1] at e1
        rw [gd_set htg, if_neg hu1] at e2
        exact ⟨e1, e2⟩
      · intro u hu
        by_cases hut : u = t
        · subst hut; omega
        · rcases List.mem_cons.1 hu with h | hm
          · exact absurd h hut
          · have := h5 u hm
            rwa [gd_set ht, if_neg hut] at this
      · intro u hu
        by_cases hm : u ∈ ts
        · exact h6 u hm
        · rcases List.mem_cons.1 hu with rfl | hu
          · rw [(h4 u hm).2, gd_set htg, if_pos rfl]; exact Int.le_max_right _ _
          · exact absurd hu hm
      · intro u
        have := h7 u
        rw [gd_set htg] at this
        split at this
        · rename_i e; subst e
          exact Int.le_trans (Int.le_max_left _ _) this
        · exact this
      · intro u
        rcases h8 u with h | ⟨h, h'⟩
        · rw [gd_set htg] at h
          by_cases e : u = t
          · subst e
            rw [if_pos rfl] at h
            by_cases hmx : gd g u ≤ m
            · exact .inr ⟨List.mem_cons_self, by rw [h]; exact Int.max_eq_right hmx⟩
            · exact .inl (by rw [h]; exact Int.max_eq_left (by omega))
          · rw [if_neg e] at h; exact .inl h
        · exact .inr ⟨List.mem_cons_of_mem _ h, h'⟩
theorem putM_some {v m : Int} : ∀ {ts : List Nat} {d g : List Int}, (∀ t ∈ ts, t < d.length ∧ (gd d t < 0 ∨ gd d t = v)) → ∃ r, putM v m ts d g = some r := by
  intro ts
  induction ts with
  | nil => intro d g _; exact ⟨_, rfl⟩
  | cons t ts ih =>
    intro d g h
    unfold putM
    obtain ⟨ht, hv⟩ := h t List.mem_cons_self
    rw [if_neg (by omega)]
    refine ih fun u hu => ?_
    obtain ⟨h1, h2⟩ := h u (List.mem_cons_of_mem _ hu)
    rw [List.length_set, gd_set ht]
    refine ⟨h1, ?_⟩
    split
    · exact .inr rfl
    · exact h2

-- the greatest depth
theorem foldl_max_le : ∀ (d : List Int) (a B : Int), d.foldl max a ≤ B ↔ a ≤ B ∧ ∀ x ∈ d, x ≤ B := by
  intro d
  induction d with
  | nil => intro a B; simp
  | cons x d ih =>
    intro a B
    rw [List.foldl_cons, ih]
    constructor
    · intro ⟨h1, h2⟩
      have := Int.le_max_left a x
      have := Int.le_max_right a x
      exact ⟨by omega, fun y hy => by rcases List.mem_cons.1 hy with rfl | hy; omega; exact h2 y hy⟩
    · intro ⟨h1, h2⟩
      exact ⟨Int.max_le.2 ⟨h1, h2 x List.mem_cons_self⟩, fun y hy => h2 y (List.mem_cons_of_mem _ hy)⟩
theorem deepL_le (d : List Int) (B : Int) : deepL d ≤ B ↔ 0 ≤ B ∧ ∀ t, t < d.length → gd d t ≤ B := by
  unfold deepL
  rw [foldl_max_le]
  constructor
  · intro ⟨h1, h2⟩; exact ⟨h1, fun t ht => by rw [gd_lt ht]; exact h2 _ (List.getElem_mem ht)⟩
  · intro ⟨h1, h2⟩
    refine ⟨h1, fun x hx => ?_⟩
    obtain ⟨t, ht, rfl⟩ := List.mem_iff_getElem.1 hx
    rw [← gd_lt ht]; exact h2 t ht
theorem le_ext {a b : Int} (h : ∀ B, a ≤ B ↔ b ≤ B) : a = b := by
  have h1 := (h b).2 (Int.le_refl _)
  have h2 := (h a).1 (Int.le_refl _)
  omega
theorem deepL_put {v m : Int} {ts : List Nat} {d g d' g' : List Int} (h : putM v m ts d g = some (d', g')) (hin : ∀ t ∈ ts, t < d.length) (hlen : d.length = g.length) (hts : ∃ t, t ∈ ts) :
    deepL d' = max (deepL d) v := by
  obtain ⟨h1, _, h3, h4, h5, _⟩ := putM_facts h hin hlen
  apply le_ext
  intro B
  rw [Int.max_le, deepL_le, deepL_le, h1]
  constructor
  · intro ⟨hB, hall⟩
    obtain ⟨t0, ht0⟩ := hts
    have hv' : v ≤ B := by have := hall t0 (hin t0 ht0); rwa [h3 t0 ht0] at this
    refine ⟨⟨hB, fun t ht => ?_⟩, hv'⟩
    by_cases hm : t ∈ ts
    · have := h5 t hm; omega
    · have := hall t ht; rwa [(h4 t hm).1] at this
  · intro ⟨⟨hB, hall⟩, hv'⟩
    refine ⟨hB, fun t ht => ?_⟩
    by_cases hm : t ∈ ts
    · rw [h3 t hm]; exact hv'
    · rw [(h4 t hm).1]; exact hall t ht

-- what an accepted code is
structure Fin (f : Fr) (l : List (Int × Int)) (d g : Nat → Int) : Prop where
  d0 : d 0 = 0
  g0 : g 0 = 0
  step : ∀ k (h : k < l.length), rgtE l[k].1 l[k].2 = 0 ∧ insd f l[k].1 l[k].2 ∧ 0 ≤ d k ∧ tak l[k].1 ≤ d k ∧ d k - tak l[k].1 + giv l[k].1 ≤ 16 ∧
    ∀ t ∈ tg l[k].1 l[k].2 k, t ≤ l.length ∧ d t = d k - tak l[k].1 + giv l[k].1 ∧ g k + 1 ≤ g t
  src : ∀ t, 0 < t → t ≤ l.length → ∃ j, ∃ h : j < l.length, j < t ∧ t ∈ tg l[j].1 l[j].2 j ∧ g t = g j + 1
  dn : d l.length = 0
/-- What holds of the state ahead of position k. -/
structure Inv (f : Fr) (l : List (Int × Int)) (k : Nat) (d g : List Int) : Prop where
  ld : d.length = l.length + 1
  lg : g.length = l.length + 1
  d0 : gd d 0 = 0
  g0 : gd g 0 = 0
  lo : ∀ t, -1 ≤ gd d t
  go : ∀ t, 0 ≤ gd g t
  step : ∀ j (h : j < l.length), j < k → rgtE l[j].1 l[j].2 = 0 ∧ insd f l[j].1 l[j].2 ∧ 0 ≤ gd d j ∧ tak l[j].1 ≤ gd d j ∧ gd d j - tak l[j].1 + giv l[j].1 ≤ 16 ∧
    ∀ t ∈ tg l[j].1 l[j].2 j, t ≤ l.length ∧ gd d t = gd d j - tak l[j].1 + giv l[j].1 ∧ gd g j + 1 ≤ gd g t
  src : ∀ t, 0 < t → t ≤ l.length → (gd d t = -1 ∧ gd g t = 0) ∨ ∃ j, ∃ h : j < l.length, j < t ∧ j < k ∧ t ∈ tg l[j].1 l[j].2 j ∧ gd g t = gd g j + 1
theorem gd_ini (n t : Nat) : gd (ini n) t = if t = 0 then 0 else if t ≤ n then -1 else 0 := by
  unfold gd ini
  rw [List.getD_eq_getElem?_getD]
  cases t with
  | zero => simp
  | succ t =>
    rw [if_neg (by omega), List.getElem?_cons_succ, List.getElem?_replicate]
    by_cases h : t < n
    · rw [if_pos h, if_pos (by omega)]; rfl
    · rw [if_neg h, if_neg (by omega)]; rfl
theorem gd_zer (n t : Nat) : gd (zer n) t = 0 := by
  unfold gd zer
  rw [List.getD_eq_getElem?_getD, List.getElem?_replicate]
  split <;> rfl
theorem inv_ini (f : Fr) (l : List (Int × Int)) : Inv f l 0 (ini l.length) (zer l.length) := by
  refine ⟨by simp [ini], by simp [zer], by rw [gd_ini, if_pos rfl], gd_zer _ _, fun t => ?_, fun t => by rw [gd_zer]; omega, fun j h hj => by omega, fun t h0 hn => ?_⟩
  · rw [gd_ini]; split; omega; split <;> omega
  · left; rw [gd_ini, gd_zer, if_neg (by omega), if_pos hn]; exact ⟨rfl, rfl⟩
theorem preE_zero {f : Fr} {k : Nat} {o x : Int} {d : List Int} (h : preE f k o x d = 0) : rgtE o x = 0 ∧ insd f o x ∧ 0 ≤ gd d k ∧ tak o ≤ gd d k ∧ gd d k - tak o + giv o ≤ 16 ∧ ∀ t ∈ tg o x k, t < d.length := by
  unfold preE at h
  by_cases h1 : rgtE o x = 0
  · rw [if_neg (fun hn => hn h1)] at h
    by_cases h2 : insd f o x
    · rw [if_neg (fun hn => hn h2)] at h
      by_cases h3 : gd d k < 0
      · rw [if_pos h3] at h; omega
      · rw [if_neg h3] at h
        by_cases h4 : gd d k < tak o ∨ 16 < gd d k - tak o + giv o
        · rw [if_pos h4] at h; omega
        · rw [if_neg h4] at h
          by_cases h5 : ∃ t ∈ tg o x k, d.length ≤ t
          · rw [if_pos h5] at h; omega
          · exact ⟨h1, h2, by omega, by omega, by omega, fun t ht => Nat.lt_of_not_le fun hle => h5 ⟨t, ht, hle⟩⟩
    · rw [if_pos h2] at h; omega
  · rw [if_pos h1] at h; exact absurd h h1
theorem stepM_zero {f : Fr} {k : Nat} {o x : Int} {d g : List Int} (h : (stepM f k o x d g).1 = 0) :
    preE f k o x d = 0 ∧ putM (gd d k - tak o + giv o) (gd g k + 1) (tg o x k) d g = some ((stepM f k o x d g).2.1, (stepM f k o x d g).2.2) := by
  unfold stepM at h ⊢
  by_cases h1 : preE f k o x d = 0
  · rw [if_neg (fun hn => hn h1)] at h ⊢
    refine ⟨h1, ?_⟩
    cases hp : putM (gd d k - tak o + giv o) (gd g k + 1) (tg o x k) d g with
    | none => rw [hp] at h; simp at h
    | some r => rfl
  · rw [if_pos h1] at h; exact absurd h h1
theorem inv_step {f : Fr} {l : List (Int × Int)} {k : Nat} {d g : List Int} (I : Inv f l k d g) (hk : k < l.length) (h : (stepM f k l[k].1 l[k].2 d g).1 = 0) :
    Inv f l (k + 1) (stepM f k l[k].1 l[k].2 d g).2.1 (stepM f k l[k].1 l[k].2 d g).2.2 := by
  obtain ⟨hp, hput⟩ := stepM_zero h
  obtain ⟨p1, p2, p3, p4, p5, p6⟩ := preE_zero hp
  generalize (stepM f k l[k].1 l[k].2 d g).2.1 = d' at hput ⊢
  generalize (stepM f k l[k].1 l[k].2 d g).2.2 = g' at hput ⊢
  obtain ⟨q1, q2, q3, q4, q5, q6, q7, q8⟩ := putM_facts hput p6 (by rw [I.ld, I.lg])
  have hgk := I.go k
  have low : ∀ t, t ≤ k → gd d' t = gd d t ∧ gd g' t = gd g t := fun t ht => q4 t (fun hm => by have := tg_gt hm; omega)
  have keep : ∀ t, 0 ≤ gd d t → gd d' t = gd d t := fun t ht => by
    by_cases hm : t ∈ tg l[k].1 l[k].2 k
    · rw [q3 t hm]; have := q5 t hm; omega
    · exact (q4 t hm).1
  refine ⟨q1.trans I.ld, q2.trans I.lg, ?_, ?_, fun t => ?_, fun t => Int.le_trans (I.go t) (q7 t), fun j hj hjk => ?_, fun t h0 hn => ?_⟩
  · rw [(low 0 (by omega)).1]; exact I.d0
  · rw [(low 0 (by omega)).2]; exact I.g0
  · by_cases hm : t ∈ tg l[k].1 l[k].2 k
    · rw [q3 t hm]; have := giv_range l[k].1; omega
    · rw [(q4 t hm).1]; exact I.lo t
  · by_cases e : j = k
    · subst e
      rw [(low j (Nat.le_refl _)).1, (low j (Nat.le_refl _)).2]
      exact ⟨p1, p2, p3, p4, p5, fun t ht => ⟨by have := p6 t ht; have := I.ld; omega, q3 t ht, q6 t ht⟩⟩
    · obtain ⟨s1, s2, s3, s4, s5, s6⟩ := I.step j hj (by omega)
      rw [(low j (by omega)).1, (low j (by omega)).2]
      refine ⟨s1, s2, s3, s4, s5, fun t ht => ?_⟩
      obtain ⟨r1, r2, r3⟩ := s6 t ht
      have := giv_range l[j].1
      exact ⟨r1, by rw [keep t (by omega)]; exact r2, Int.le_trans r3 (q7 t)⟩
  · rcases q8 t with hg | ⟨hm, hg⟩
    · by_cases hm : t ∈ tg l[k].1 l[k].2 k
      · rcases I.src t h0 hn with ⟨e1, e2⟩ | ⟨j, hj, j1, j2, j3, j4⟩
        · have := q6 t hm; omega
        · exact .inr ⟨j, hj, j1, by omega, j3, by rw [hg, (low j (by omega)).2]; exact j4⟩
      · rcases I.src t h0 hn with ⟨e1, e2⟩ | ⟨j, hj, j1, j2, j3, j4⟩
        · exact .inl ⟨by rw [(q4 t hm).1]; exact e1, by rw [hg]; exact e2⟩
        · exact .inr ⟨j, hj, j1, by omega, j3, by rw [hg, (low j (by omega)).2]; exact j4⟩
    · exact .inr ⟨k, hk, tg_gt hm, by omega, hm, by rw [hg, (low k (Nat.le_refl _)).2]⟩
theorem drop_cons {α : Type} (l : List α) (k : Nat) (h : k < l.length) : l.drop k = l[k] :: l.drop (k + 1) := List.drop_eq_getElem_cons h
theorem run_inv {f : Fr} {l : List (Int × Int)} (m : Nat) : ∀ {k : Nat} {d g : List Int}, Inv f l k d g → k + m = l.length → (runM f (l.drop k) k d g).1 = 0 →
    (runM f (l.drop k) k d g).2.1 = l.length ∧ Inv f l l.length (runM f (l.drop k) k d g).2.2.1 (runM f (l.drop k) k d g).2.2.2 := by
  induction m with
  | zero =>
    intro k d g I hk h
    obtain rfl : k = l.length := by omega
    rw [List.drop_length]
    exact ⟨rfl, I⟩
  | succ m ih =>
    intro k d g I hk h
    rw [drop_cons l k (by omega)] at h ⊢
    unfold runM at h ⊢
    by_cases hs : (stepM f k l[k].1 l[k].2 d g).1 = 0
    · rw [if_neg (fun hn => hn hs)] at h ⊢
      exact ih (inv_step I (by omega) hs) (by omega) h
    · rw [if_pos hs] at h; exact absurd h hs
theorem inv_end {f : Fr} {l : List (Int × Int)} {d g : List Int} (I : Inv f l l.length d g) : 0 ≤ gd d l.length := by
  by_cases hn : l.length = 0
  · rw [hn, I.d0]; omega
  · obtain ⟨_, _, _, s4, _, s6⟩ := I.step (l.length - 1) (by omega) (by omega)
    obtain ⟨t, ht⟩ := tg_one l[l.length - 1].1 l[l.length - 1].2 (l.length - 1)
    obtain ⟨r1, r2, _⟩ := s6 t ht
    have hgt := tg_gt ht
    obtain rfl : t = l.length := by omega
    have := giv_range l[l.length - 1].1
    omega
theorem inv_fin {f : Fr} {l : List (Int × Int)} {d g : List Int} (I : Inv f l l.length d g) (h : gd d l.length = 0) : Fin f l (gd d) (gd g) := by
  refine ⟨I.d0, I.g0, fun k hk => I.step k hk hk, fun t h0 hn => ?_, h⟩
  rcases I.src t h0 hn with ⟨e1, _⟩ | ⟨j, hj, j1, _, j3, j4⟩
  · by_cases e : t = l.length
    · subst e; omega
    · have := (I.step t (by omega) (by omega)).2.2.1; omega
  · exact ⟨j, hj, j1, j3, j4⟩
/-- D is the greatest of 0 and d over the positions. -/
def Top (d : Nat → Int) (n : Nat) (D : Int) : Prop := ∀ B, D ≤ B ↔ 0 ≤ B ∧ ∀ t, t ≤ n → d t ≤ B
theorem check_fin {f : Fr} {l : List (Int × Int)} (h : (checkM f l).2.2.1 = 0) : okF f ∧ l.length ≤ 600 ∧ (checkM f l).2.2.2 = 0 ∧ ∃ d g, Fin f l d g ∧ Top d l.length (checkM f l).1 ∧ (checkM f l).2.1 = g l.length := by
  unfold checkM at h ⊢
  by_cases h1 : okF f
  · by_cases h2 : 600 < l.length
    · rw [if_neg (fun hn => hn h1), if_pos h2] at h; simp at h
    · rw [if_neg (fun hn => hn h1), if_neg h2] at h ⊢
      simp only at h ⊢
      have hr := run_inv (f := f) (l := l) l.length (inv_ini f l) (by omega)
      rw [List.drop_zero] at hr
      by_cases h3 : (runM f l 0 (ini l.length) (zer l.length)).1 = 0
      · rw [if_neg (fun hn => hn h3)] at h ⊢
        obtain ⟨e1, I⟩ := hr h3
        generalize (runM f l 0 (ini l.length) (zer l.length)).2.2.1 = d at h I ⊢
        generalize (runM f l 0 (ini l.length) (zer l.length)).2.2.2 = g at h I ⊢
        by_cases h4 : gd d l.length = 0
        · rw [if_neg (fun hn => hn h4)]
          refine ⟨h1, by omega, rfl, gd d, gd g, inv_fin I h4, fun B => ?_, rfl⟩
          show deepL d ≤ B ↔ _
          rw [deepL_le, I.ld]
          exact ⟨fun ⟨a, b⟩ => ⟨a, fun t ht => b t (by omega)⟩, fun ⟨a, b⟩ => ⟨a, fun t ht => b t (by omega)⟩⟩
        · rw [if_pos h4] at h; simp at h
      · rw [if_pos h3] at h; exact absurd h h3
  · rw [if_pos h1] at h; simp at h
theorem check_bad {f : Fr} {l : List (Int × Int)} (h : (checkM f l).2.2.1 ≠ 0) : (checkM f l).1 = 0 ∧ (checkM f l).2.1 = 0 := by
  unfold checkM at h ⊢
  by_cases h1 : okF f
  · by_cases h2 : 600 < l.length
    · rw [if_neg (fun hn => hn h1), if_pos h2]; exact ⟨rfl, rfl⟩
    · rw [if_neg (fun hn => hn h1), if_neg h2] at h ⊢
      simp only at h ⊢
      by_cases h3 : (runM f l 0 (ini l.length) (zer l.length)).1 = 0
      · rw [if_neg (fun hn => hn h3)] at h ⊢
        by_cases h4 : gd (runM f l 0 (ini l.length) (zer l.length)).2.2.1 l.length = 0
        · rw [if_neg (fun hn => hn h4)] at h; simp at h
        · rw [if_pos h4]; exact ⟨rfl, rfl⟩
      · rw [if_pos h3]; exact ⟨rfl, rfl⟩
  · rw [if_pos h1]; exact ⟨rfl, rfl⟩

-- a code with such depths is accepted
structure Cmp (l : List (Int × Int)) (d g : Nat → Int) (k : Nat) (ds gs : List Int) : Prop where
  ld : ds.length = l.length + 1
  lg : gs.length = l.length + 1
  one : ∀ t, t ≤ l.length → gd ds t = -1 ∨ gd ds t = d t
  d0 : gd ds 0 = d 0
  g0 : gd gs 0 = g 0
  put : ∀ t j, ∀ h : j < l.length, j < k → t ∈ tg l[j].1 l[j].2 j → gd ds t = d t ∧ g j + 1 ≤ gd gs t
  le : ∀ t, t ≤ l.length → gd gs t ≤ g t
theorem cmp_at {f : Fr} {l : List (Int × Int)} {d g : Nat → Int} {ds gs : List Int} {k : Nat} (F : Fin f l d g) (C : Cmp l d g k ds gs) (hk : k ≤ l.length) : gd ds k = d k ∧ gd gs k = g k := by
  by_cases h0 : k = 0
  · subst h0; exact ⟨C.d0, C.g0⟩
  · obtain ⟨j, hj, j1, j2, j3⟩ := F.src k (by omega) hk
    obtain ⟨h1, h2⟩ := C.put k j hj (by omega) j2
    exact ⟨h1, by have := C.le k hk; omega⟩
theorem gs_nonneg {f : Fr} {l : List (Int × Int)} {d g : Nat → Int} (F : Fin f l d g) : ∀ t, t ≤ l.length → 0 ≤ g t ∧ g t ≤ t := by
  intro t
  induction t using Nat.strongRecOn with
  | ind t ih =>
    intro ht
    by_cases h0 : t = 0
    · subst h0; rw [F.g0]; omega
    · obtain ⟨j, hj, j1, _, j3⟩ := F.src t (by omega) ht
      have := ih j j1 (by omega)
      omega
theorem cmp_step {f : Fr} {l : List (Int × Int)} {d g : Nat → Int} {ds gs : List Int} {k : Nat} (F : Fin f l d g) (C : Cmp l d g k ds gs) (hk : k < l.length) :
    (stepM f k l[k].1 l[k].2 ds gs).1 = 0 ∧ Cmp l d g (k + 1) (stepM f k l[k].1 l[k].2 ds gs).2.1 (stepM f k l[k].1 l[k].2 ds gs).2.2 := by
  obtain ⟨e1, e2⟩ := cmp_at F C (by omega)
  obtain ⟨s1, s2, s3, s4, s5, s6⟩ := F.step k hk
  have hp : preE f k l[k].1 l[k].2 ds = 0 := by
    unfold preE
    rw [if_neg (fun hn => hn s1), if_neg (fun hn => hn s2), e1, if_neg (by omega), if_neg (by omega), if_neg]
    rintro ⟨t, ht, hle⟩
    have := (s6 t ht).1
    have := C.ld
    omega
  obtain ⟨r, hr⟩ := putM_some (v := gd ds k - tak l[k].1 + giv l[k].1) (m := gd gs k + 1) (ts := tg l[k].1 l[k].2 k) (d := ds) (g := gs) (fun t ht => by
    obtain ⟨r1, r2, _⟩ := s6 t ht
    refine ⟨by have := C.ld; omega, ?_⟩
    rcases C.one t r1 with h | h
    · left; omega
    · right; rw [h, r2, e1])
  have hz : (stepM f k l[k].1 l[k].2 ds gs).1 = 0 := by unfold stepM; rw [if_neg (fun hn => hn hp), hr]
  obtain ⟨_, hput⟩ := stepM_zero hz
  refine ⟨hz, ?_⟩
  generalize (stepM f k l[k].1 l[k].2 ds gs).2.1 = d' at hput ⊢
  generalize (stepM f k l[k].1 l[k].2 ds gs).2.2 = g' at hput ⊢
  obtain ⟨q1, q2, q3, q4, q5, q6, q7, q8⟩ := putM_facts hput (fun t ht => by have := (s6 t ht).1; have := C.ld; omega) (by rw [C.ld, C.lg])
  rw [e1] at q3
  rw [e2] at q6 q8
  have hd : ∀ t ∈ tg l[k].1 l[k].2 k, gd d' t = d t := fun t ht => by rw [q3 t ht, (s6 t ht).2.1]
  refine ⟨q1.trans C.ld, q2.trans C.lg, fun t ht => ?_, ?_, ?_, fun t j hj hjk htj => ?_, fun t ht => ?_⟩
  · by_cases hm : t ∈ tg l[k].1 l[k].2 k
    · exact .inr (hd t hm)
    · rw [(q4 t hm).1]; exact C.one t ht
  · rw [(q4 0 (fun hm => by have := tg_gt hm; omega)).1]; exact C.d0
  · rw [(q4 0 (fun hm => by have := tg_gt hm; omega)).2]; exact C.g0
  · by_cases e : j = k
    · subst e; exact ⟨hd t htj, q6 t htj⟩
    · obtain ⟨r1, r2⟩ := C.put t j hj (by omega) htj
      refine ⟨?_, Int.le_trans r2 (q7 t)⟩
      by_cases hm : t ∈ tg l[k].1 l[k].2 k
      · exact hd t hm
      · rw [(q4 t hm).1]; exact r1
  · rcases q8 t with h | ⟨h, h'⟩
    · rw [h]; exact C.le t ht
    · rw [h']; exact (s6 t h).2.2
theorem run_cmp {f : Fr} {l : List (Int × Int)} {d g : Nat → Int} (F : Fin f l d g) (m : Nat) : ∀ {k : Nat} {ds gs : List Int}, Cmp l d g k ds gs → k + m = l.length →
    (runM f (l.drop k) k ds gs).1 = 0 ∧ Cmp l d g l.length (runM f (l.drop k) k ds gs).2.2.1 (runM f (l.drop k) k ds gs).2.2.2 := by
  induction m with
  | zero =>
    intro k ds gs C hk
    obtain rfl : k = l.length := by omega
    rw [List.drop_length]
    exact ⟨rfl, C⟩
  | succ m ih =>
    intro k ds gs C hk
    obtain ⟨h1, h2⟩ := cmp_step F C (by omega)
    rw [drop_cons l k (by omega)]
    unfold runM
    rw [if_neg (fun hn => hn h1)]
    exact ih h2 (by omega)
theorem cmp_ini {f : Fr} {l : List (Int × Int)} {d g : Nat → Int} (F : Fin f l d g) : Cmp l d g 0 (ini l.length) (zer l.length) := by
  refine ⟨by simp [ini], by simp [zer], fun t ht => ?_, by rw [gd_ini, if_pos rfl, F.d0], by rw [gd_zer, F.g0], fun t j h hj => by omega, fun t ht => by rw [gd_zer]; exact (gs_nonneg F t ht).1⟩
  rw [gd_ini]
  by_cases h0 : t = 0
  · subst h0; right; rw [if_pos rfl, F.d0]
  · left; rw [if_neg h0, if_pos ht]
theorem fin_check {f : Fr} {l : List (Int × Int)} {d g : Nat → Int} (hf : okF f) (hl : l.length ≤ 600) (F : Fin f l d g) : (checkM f l).2.2.1 = 0 ∧ Top d l.length (checkM f l).1 ∧ (checkM f l).2.1 = g l.length := by
  have hr := run_cmp F l.length (cmp_ini F) (by omega)
  rw [List.drop_zero] at hr
  obtain ⟨h1, C⟩ := hr
  obtain ⟨e1, e2⟩ := cmp_at F C (Nat.le_refl _)
  unfold checkM
  rw [if_neg (fun hn => hn hf), if_neg (by omega)]
  simp only
  rw [if_neg (fun hn => hn h1), if_neg (fun hn => hn (e1.trans F.dn))]
  generalize (runM f l 0 (ini l.length) (zer l.length)).2.2.1 = ds at C e1 ⊢
  refine ⟨rfl, fun B => ?_, e2⟩
  show deepL ds ≤ B ↔ _
  rw [deepL_le, C.ld]
  have hall : ∀ t, t ≤ l.length → gd ds t = d t := fun t ht => by
    by_cases h0 : t = 0
    · subst h0; exact C.d0
    · obtain ⟨j, hj, j1, j2, _⟩ := F.src t (by omega) ht
      exact (C.put t j hj hj j2).1
  exact ⟨fun ⟨a, b⟩ => ⟨a, fun t ht => by rw [← hall t ht]; exact b t (by omega)⟩, fun ⟨a, b⟩ => ⟨a, fun t ht => by rw [hall t (by omega)]; exact b t (by omega)⟩⟩
end Go.Proofs.YtdikiabjkmigdaaGreatDoor
