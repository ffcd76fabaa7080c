/-
  Plain mathematics of reading on: a place and a fault, behind the first fault nothing is read. No program stands in this file.
-/
import Derived.Test.YtdikiabjkmigdaaGreatDoorUMath
namespace Go.Proofs.YtdikiabjkmigdaaGreatDoor
set_option maxRecDepth 20000
open Go.RowKit

structure Im where
  ver : Int
  frm : Int
  el : Int
  fr : Fr
  fs : List Int
  st : List (Int × Int)
  mv : List (Int × Int)
  sf : Int
  mf : Int
def ok32 (v : Int) : Prop := -2147483648 ≤ v ∧ v ≤ 2147483647
/-- The frame of the second code. -/
def mvF (m : Im) : Fr := ⟨0, m.el, m.fr.n, 0, 0⟩
def runE (f : Fr) (l : List (Int × Int)) (x : Int) : Int := if (checkM f l).2.2.1 ≠ 0 then (checkM f l).2.2.1 else if (checkM f l).2.1 ≠ x then 14 else 0
/-- Its parts agree. -/
def agr (m : Im) : Prop := m.frm < m.ver ∧ 0 ≤ m.el ∧ m.el ≤ 16 ∧ m.fr.o = m.fr.n ∧ (m.fs.length : Int) = m.fr.n ∧ (m.frm ≠ 0 ∨ (m.el = 0 ∧ m.mv.length = 0))
instance (m : Im) : Decidable (agr m) := by unfold agr; infer_instance
def chkM (m : Im) : Int := if ¬ agr m then 1 else if runE m.fr m.st m.sf ≠ 0 then runE m.fr m.st m.sf else runE (mvF m) m.mv m.mf
def mids : List UInt8 := [77, 73, 68, 83]
def fsB (fs : List Int) : List UInt8 := bytesL (fs.map fun v => word (plN v))
def fsV (x : List UInt8) : List Int := (wordsK x (x.length / 4)).map fun c => wrap32 c.toNat
def addR (b x : List UInt8) : List UInt8 := b ++ leB 2 x.length ++ x
def hdrM (m : Im) : List UInt8 :=
  mids ++ leB 4 m.ver.toNat ++ leB 4 m.frm.toNat ++ leB 1 m.el.toNat ++ leB 1 m.fr.s.toNat ++ leB 1 m.fr.n.toNat ++ leB 1 m.fr.i.toNat ++ leB 1 m.fr.u.toNat ++ leB 2 m.sf.toNat ++ leB 2 m.mf.toNat
def encM (m : Im) : List UInt8 := addR (addR (addR (hdrM m) (fsB m.fs)) (encL m.st)) (encL m.mv)
/-- Its numbers have room, and its codes are right. -/
structure Fit (m : Im) : Prop where
  ver : 0 ≤ m.ver ∧ m.ver < 4294967296
  frm : 0 ≤ m.frm ∧ m.frm < 4294967296
  el : 0 ≤ m.el ∧ m.el < 256
  s : 0 ≤ m.fr.s ∧ m.fr.s < 256
  n : 0 ≤ m.fr.n ∧ m.fr.n < 256
  i : 0 ≤ m.fr.i ∧ m.fr.i < 256
  u : 0 ≤ m.fr.u ∧ m.fr.u < 256
  sf : 0 ≤ m.sf ∧ m.sf < 65536
  mf : 0 ≤ m.mf ∧ m.mf < 65536
  fs : m.fs.length ≤ 600
  st : encE m.st = 0
  mv : encE m.mv = 0
/-- What every image has: its numbers' types. -/
structure Wf (m : Im) : Prop where
  ver : 0 ≤ m.ver ∧ m.ver < 4294967296
  frm : 0 ≤ m.frm ∧ m.frm < 4294967296
  fs : ∀ v ∈ m.fs, ok32 v
  st : ∀ i ∈ m.st, okI i
  mv : ∀ i ∈ m.mv, okI i
def rdM (b : List UInt8) : Im :=
  ⟨getN b 4 4, getN b 8 4, getN b 12 1, ⟨getN b 13 1, getN b 14 1, getN b 14 1, getN b 15 1, getN b 16 1⟩, fsV (grL b 21), (decA (grL b (grT b 21))).1, (decA (grL b (grT b (grT b 21)))).1, getN b 17 2, getN b 19 2⟩
/-- The bytes have the form. -/
structure Frm (b : List UInt8) : Prop where
  head : b.take 4 = mids
  len : 21 ≤ b.length
  r1 : grE b 21 = 0
  r2 : grE b (grT b 21) = 0
  r3 : grE b (grT b (grT b 21)) = 0
  r4 : grT b (grT b (grT b 21)) = b.length
  four : (grL b 21).length % 4 = 0
  d2 : (decA (grL b (grT b 21))).2.1 = 0
  d3 : (decA (grL b (grT b (grT b 21)))).2.1 = 0
open Classical in
/-- What is wrong of bytes. -/
noncomputable def parE (b : List UInt8) : Int := if 2016 < b.length then 3 else if ¬ Frm b then 4 else chkM (rdM b)
def zeroM : Im := ⟨0, 0, 0, ⟨0, 0, 0, 0, 0⟩, [], [], [], 0, 0⟩
open Classical in
noncomputable def parM (b : List UInt8) : Im := if parE b = 0 then rdM b else zeroM
def enE (m : Im) : Int := if chkM m ≠ 0 then chkM m else if 2016 < (encM m).length then 3 else 0
def enL (m : Im) : List UInt8 := if enE m = 0 then encM m else []

-- an accepted code is right, and its bound is small
theorem badE_of {l : List (Int × Int)} (h : ∀ k (h : k < l.length), rgtE l[k].1 l[k].2 = 0) : badE l = 0 := by
  have H : ∀ j, j ≤ l.length → badE (l.take j) = 0 := by
    intro j
    induction j with
    | zero => intro _; rfl
    | succ j ih => intro hj; rw [(badE_take (show j < l.length by omega) (ih (by omega))).1]; exact h j (by omega)
  have := H l.length (Nat.le_refl _)
  rwa [List.take_length] at this
theorem fin_g_len {f : Fr} {l : List (Int × Int)} {d g : Nat → Int} (F : Fin f l d g) : ∀ t, t ≤ l.length → 0 ≤ g t ∧ g t ≤ t := by
  intro t
  induction t using Nat.strongRecOn with
  | _ t ih =>
    intro ht
    by_cases h0 : t = 0
    · subst h0; rw [F.g0]; omega
    · obtain ⟨j, hj, hjt, _, hg⟩ := F.src t (by omega) ht
      have := ih j hjt (by omega)
      omega
theorem check_right {f : Fr} {l : List (Int × Int)} (h : (checkM f l).2.2.1 = 0) : okF f ∧ encE l = 0 ∧ 0 ≤ (checkM f l).2.1 ∧ (checkM f l).2.1 ≤ 600 := by
  obtain ⟨hf, h6, _, d, g, F, _, hg⟩ := check_fin h
  have hb := badE_of fun k hk => (F.step k hk).1
  have hl := fin_g_len F l.length (Nat.le_refl _)
  exact ⟨hf, by rw [encE_small (by omega), hb], by omega, by omega⟩
theorem runE_zero {f : Fr} {l : List (Int × Int)} {x : Int} (h : runE f l x = 0) : (checkM f l).2.2.1 = 0 ∧ (checkM f l).2.1 = x := by
  unfold runE at h
  split at h
  · contradiction
  · rename_i h1
    split at h
    · omega
    · rename_i h2
      exact ⟨Classical.not_not.1 h1, Classical.not_not.1 h2⟩
theorem chk_zero {m : Im} (h : chkM m = 0) : agr m ∧ runE m.fr m.st m.sf = 0 ∧ runE (mvF m) m.mv m.mf = 0 := by
  unfold chkM at h
  split at h
  · omega
  · rename_i h1
    split at h
    · contradiction
    · rename_i h2
      exact ⟨Classical.not_not.1 h1, Classical.not_not.1 h2, h⟩
theorem chk_fit {m : Im} (hw : Wf m) (h : chkM m = 0) : Fit m := by
  obtain ⟨⟨a1, a2, a3, a4, a5, a6⟩, h1, h2⟩ := chk_zero h
  obtain ⟨c1, c2⟩ := runE_zero h1
  obtain ⟨d1, d2⟩ := runE_zero h2
  obtain ⟨hf, e1, g1, g2⟩ := check_right c1
  obtain ⟨_, e2, g3, g4⟩ := check_right d1
  unfold okF at hf
  exact ⟨hw.ver, hw.frm, by omega, by omega, by omega, by omega, by omega, by omega, by omega, by omega, e1, e2⟩

-- bytes
theorem pad_len (l : List UInt8) (j : Nat) : (pad4 (grp l j)).length = 4 := by simp [pad4, grp]; omega
theorem le4_back (g : List UInt8) (h : g.length = 4) : leB 4 (word (leN g)).toNat = g := by
  have h1 := leN_lt g
  rw [h] at h1
  rw [word_toNat, Nat.mod_eq_of_lt (by omega)]
  have := leB_leN g
  rwa [h] at this
theorem bytes_of_words (l : List UInt8) (k : Nat) (hk : 4 * k ≤ l.length) : bytesL (wordsK l k) = l.take (4 * k) := by
  induction k with
  | zero => simp [wordsK, bytesL]
  | succ k ih =>
    rw [wordsK_succ, bytesL_snoc, ih (by omega), le4_back _ (pad_len l k)]
    unfold pad4 grp
    rw [show 4 * (k + 1) = 4 * k + 4 by omega, List.take_add, List.length_take, List.length_drop, show 4 - min 4 (l.length - 4 * k) = 0 by omega, List.replicate_zero, List.append_nil]
theorem bytes_from (ws : List UInt32) (i : Nat) (h : i ≤ ws.length) : (bytesL ws).drop (4 * i) = bytesL (ws.drop i) := by
  have e : bytesL ws = bytesL (ws.take i) ++ bytesL (ws.drop i) := by
    rw [bytesL, bytesL, bytesL, ← List.flatMap_append, List.take_append_drop]
  rw [e]
  exact List.drop_left' (by rw [bytesL_len, List.length_take, Nat.min_eq_left h])
theorem words_of_bytes (ws : List UInt32) : wordsK (bytesL ws) ws.length = ws := by
  apply List.ext_getElem
  · rw [wordsK_len]
  · intro i h1 h2
    have hg : grp (bytesL ws) i = leB 4 ws[i].toNat := by
      unfold grp
      rw [bytes_from ws i (by omega), drop_step ws i h2, bytesL, List.flatMap_cons]
      exact List.take_left' (leB_len _ _)
    have hw := ws[i].toNat_lt
    simp only [wordsK, List.getElem_map, List.getElem_range]
    rw [hg]
    unfold pad4
    rw [leB_len, show 4 - 4 = 0 from rfl, List.replicate_zero, List.append_nil, leN_leB, Nat.mod_eq_of_lt (by omega), word_of]
theorem fsB_len (fs : List Int) : (fsB fs).length = 4 * fs.length := by unfold fsB; rw [bytesL_len, List.length_map]
theorem plN_lt (x : Int) : plN x < 4294967296 := by unfold plN; omega
theorem fsV_len (x : List UInt8) : (fsV x).length = x.length / 4 := by simp [fsV, wordsK_len]
theorem fsV_ok (x : List UInt8) : ∀ v ∈ fsV x, ok32 v := by
  intro v hv
  unfold fsV at hv
  obtain ⟨c, _, rfl⟩ := List.mem_map.1 hv
  exact wrap32_rng _
theorem word_val {v : Int} (h : ok32 v) : wrap32 ((word (plN v)).toNat : Int) = v := by
  have e : (word (plN v)).toNat = plN v := by rw [word_toNat]; exact Nat.mod_eq_of_lt (plN_lt v)
  rw [e]
  exact wrap_plN h
theorem map_same {α : Type} {f : α → α} {l : List α} (h : ∀ v ∈ l, f v = v) : l.map f = l := by
  induction l with
  | nil => rfl
  | cons a l ih => rw [List.map_cons, h a List.mem_cons_self, ih fun v hv => h v (List.mem_cons_of_mem _ hv)]
theorem fsV_fsB (fs : List Int) (h : ∀ v ∈ fs, ok32 v) : fsV (fsB fs) = fs := by
  unfold fsV
  rw [fsB_len, show 4 * fs.length / 4 = fs.length by omega]
  unfold fsB
  have e := words_of_bytes (fs.map fun v => word (plN v))
  rw [List.length_map] at e
  rw [e, List.map_map]
  refine map_same fun v hv => ?_
  rw [Function.comp_apply]
  exact word_val (h v hv)
theorem fsB_fsV (x : List UInt8) (h : x.length % 4 = 0) : fsB (fsV x) = x := by
  unfold fsB fsV
  rw [List.map_map]
  have e : (wordsK x (x.length / 4)).map ((fun v => word (plN v)) ∘ fun c => wrap32 (c.toNat : Int)) = wordsK x (x.length / 4) := by
    refine map_same fun c _ => ?_
    rw [Function.comp_apply]
    have h1 : plN (wrap32 (c.toNat : Int)) = c.toNat := plN_wrap c.toNat_lt
    rw [h1, word_of]
  rw [e, bytes_of_words x _ (by omega), List.take_of_length_le (by omega)]

-- numbers and runs at their places
theorem get_at {b p s : List UInt8} {k a v : Nat} (hb : b = p ++ (leB k v ++ s)) (ha : p.length = a) (hk : 1 ≤ k ∧ k ≤ 8) (hv : v < 256 ^ k) : getN b (a : Int) (k : Int) = v := by
  have hw : widB (k : Int) = true := decide_eq_true (by omega)
  have hl : b.length = a + k + s.length := by rw [hb, List.length_append, List.length_append, leB_len]; omega
  unfold getN getE
  rw [if_pos (by rw [if_pos ⟨hw, by omega, by omega⟩, if_pos (by omega)]), Int.toNat_natCast, Int.toNat_natCast, hb, List.drop_left' ha, List.take_left' (leB_len _ _), leN_leB, Nat.mod_eq_of_lt hv]
theorem run_at {b p s x : List UInt8} {a : Nat} (hb : b = p ++ (leB 2 x.length ++ (x ++ s))) (ha : p.length = a) (hx : x.length ≤ 65535) : grE b (a : Int) = 0 ∧ grL b (a : Int) = x ∧ grT b (a : Int) = ((a + 2 + x.length : Nat) : Int) := by
  have hl : b.length = a + 2 + x.length + s.length := by rw [hb, List.length_append, List.length_append, List.length_append, leB_len]; omega
  have hr : runN b a = x.length := by
    unfold runN
    rw [hb, List.drop_left' ha, List.take_left' (leB_len _ _), leN_leB, Nat.mod_eq_of_lt (by omega)]
  have hE : grE b (a : Int) = 0 := by
    unfold grE
    rw [if_pos ⟨by omega, by omega⟩, if_pos (by rw [Int.toNat_natCast, hr]; omega)]
  refine ⟨hE, ?_, ?_⟩
  · unfold grL
    rw [if_pos hE, Int.toNat_natCast, hr, hb, ← List.append_assoc, List.drop_left' (by rw [List.length_append, leB_len, ha]), List.take_left' rfl]
  · unfold grT
    rw [if_pos hE, Int.toNat_natCast, hr]
    omega
theorem hdr_len (m : Im) : (hdrM m).length = 21 := by simp [hdrM, mids, leB_len]
theorem encM_len (m : Im) : (encM m).length = 27 + (fsB m.fs).length + (encL m.st).length + (encL m.mv).length := by
  simp only [encM, addR, List.length_append, hdr_len, leB_len]; omega
theorem encL_small {l : List (Int × Int)} (h : encE l = 0) : (encL l).length ≤ 3000 := by
  rw [encL_ok h]
  have h6 : ¬ 600 < l.length := fun hn => by rw [encE_big hn] at h; omega
  have := allB_len_le l
  omega
theorem dec_enc {l : List (Int × Int)} (h : encE l = 0) (hok : ∀ i ∈ l, okI i) : decA (encL l) = (l, 0, 0) := by
  have h6 : ¬ 600 < l.length := fun hn => by rw [encE_big hn] at h; omega
  rw [encL_ok h]
  exact decA_back l hok (by rw [← h, encE_small h6]) (by omega)
theorem enc_dec {x : List UInt8} (h : (decA x).2.1 = 0) : encE (decA x).1 = 0 ∧ encL (decA x).1 = x := by
  obtain ⟨h1, h2, h3, _⟩ := (decA_only x).1 h
  have e : encE (decA x).1 = 0 := by rw [encE_small (by omega)]; exact h2
  exact ⟨e, by rw [encL_ok e]; exact h1⟩
theorem rd_enc {m : Im} (h : Fit m) (hs : ∀ i ∈ m.st, okI i) (hv : ∀ i ∈ m.mv, okI i) (hf : ∀ v ∈ m.fs, ok32 v) : Frm (encM m) ∧ rdM (encM m) = { m with fr := { m.fr with o := m.fr.n } } := by
  have n1 := fsB_len m.fs
  have n2 := encL_small h.st
  have n3 := encL_small h.mv
  have f1 := h.fs
  have L := encM_len m
  have gV := get_at (b := encM m) (p := mids) (k := 4) (v := m.ver.toNat) (a := 4) (s := leB 4 m.frm.toNat ++ leB 1 m.el.toNat ++ leB 1 m.fr.s.toNat ++ leB 1 m.fr.n.toNat ++ leB 1 m.fr.i.toNat ++ leB 1 m.fr.u.toNat ++ leB 2 m.sf.toNat ++ leB 2 m.mf.toNat ++ (leB 2 (fsB m.fs).length ++ fsB m.fs ++ (leB 2 (encL m.st).length ++ encL m.st ++ (leB 2 (encL m.mv).length ++ encL m.mv)))) (by simp only [encM, addR, hdrM, List.append_assoc]) rfl (by omega) (by have := h.ver; omega)
  have gF := get_at (b := encM m) (p := mids ++ leB 4 m.ver.toNat) (k := 4) (v := m.frm.toNat) (a := 8) (s := leB 1 m.el.toNat ++ leB 1 m.fr.s.toNat ++ leB 1 m.fr.n.toNat ++ leB 1 m.fr.i.toNat ++ leB 1 m.fr.u.toNat ++ leB 2 m.sf.toNat ++ leB 2 m.mf.toNat ++ (leB 2 (fsB m.fs).length ++ fsB m.fs ++ (leB 2 (encL m.st).length ++ encL m.st ++ (leB 2 (encL m.mv).length ++ encL m.mv)))) (by simp only [encM, addR, hdrM, List.append_assoc]) (by simp [mids, leB_len]) (by omega) (by have := h.frm; omega)
  have gE := get_at (b := encM m) (p := mids ++ leB 4 m.ver.toNat ++ leB 4 m.frm.toNat) (k := 1) (v := m.el.toNat) (a := 12) (s := leB 1 m.fr.s.toNat ++ leB 1 m.fr.n.toNat ++ leB 1 m.fr.i.toNat ++ leB 1 m.fr.u.toNat ++ leB 2 m.sf.toNat ++ leB 2 m.mf.toNat ++ (leB 2 (fsB m.fs).length ++ fsB m.fs ++ (leB 2 (encL m.st).length ++ encL m.st ++ (leB 2 (encL m.mv).length ++ encL m.mv)))) (by simp only [encM, addR, hdrM, List.append_assoc]) (by simp [mids, leB_len]) (by omega) (by have := h.el; omega)
  have gS := get_at (b := encM m) (p := mids ++ leB 4 m.ver.toNat ++ leB 4 m.frm.toNat ++ leB 1 m.el.toNat) (k := 1) (v := m.fr.s.toNat) (a := 13) (s := leB 1 m.fr.n.toNat ++ leB 1 m.fr.i.toNat ++ leB 1 m.fr.u.toNat ++ leB 2 m.sf.toNat ++ leB 2 m.mf.toNat ++ (leB 2 (fsB m.fs).length ++ fsB m.fs ++ (leB 2 (encL m.st).length ++ encL m.st ++ (leB 2 (encL m.mv).length ++ encL m.mv)))) (by simp only [encM, addR, hdrM, List.append_assoc]) (by simp [mids, leB_len]) (by omega) (by have := h.s; omega)
  have gN := get_at (b := encM m) (p := mids ++ leB 4 m.ver.toNat ++ leB 4 m.frm.toNat ++ leB 1 m.el.toNat ++ leB 1 m.fr.s.toNat) (k := 1) (v := m.fr.n.toNat) (a := 14) (s := leB 1 m.fr.i.toNat ++ leB 1 m.fr.u.toNat ++ leB 2 m.sf.toNat ++ leB 2 m.mf.toNat ++ (leB 2 (fsB m.fs).length ++ fsB m.fs ++ (leB 2 (encL m.st).length ++ encL m.st ++ (leB 2 (encL m.mv).length ++ encL m.mv)))) (by simp only [encM, addR, hdrM, List.append_assoc]) (by simp [mids, leB_len]) (by omega) (by have := h.n; omega)
  have gI := get_at (b := encM m) (p := mids ++ leB 4 m.ver.toNat ++ leB 4 m.frm.toNat ++ leB 1 m.el.toNat ++ leB 1 m.fr.s.toNat ++ leB 1 m.fr.n.toNat) (k := 1) (v := m.fr.i.toNat) (a := 15) (s := leB 1 m.fr.u.toNat ++ leB 2 m.sf.toNat ++ leB 2 m.mf.toNat ++ (leB 2 (fsB m.fs).length ++ fsB m.fs ++ (leB 2 (encL m.st).length ++ encL m.st ++ (leB 2 (encL m.mv).length ++ encL m.mv)))) (by simp only [encM, addR, hdrM, List.append_assoc]) (by simp [mids, leB_len]) (by omega) (by have := h.i; omega)
  have gU := get_at (b := encM m) (p := mids ++ leB 4 m.ver.toNat ++ leB 4 m.frm.toNat ++ leB 1 m.el.toNat ++ leB 1 m.fr.s.toNat ++ leB 1 m.fr.n.toNat ++ leB 1 m.fr.i.toNat) (k := 1) (v := m.fr.u.toNat) (a := 16) (s := leB 2 m.sf.toNat ++ leB 2 m.mf.toNat ++ (leB 2 (fsB m.fs).length ++ fsB m.fs ++ (leB 2 (encL m.st).length ++ encL m.st ++ (leB 2 (encL m.mv).length ++ encL m.mv)))) (by simp only [encM, addR, hdrM, List.append_assoc]) (by simp [mids, leB_len]) (by omega) (by have := h.u; omega)
  have gX := get_at (b := encM m) (p := mids ++ leB 4 m.ver.toNat ++ leB 4 m.frm.toNat ++ leB 1 m.el.toNat ++ leB 1 m.fr.s.toNat ++ leB 1 m.fr.n.toNat ++ leB 1 m.fr.i.toNat ++ leB 1 m.fr.u.toNat) (k := 2) (v := m.sf.toNat) (a := 17) (s := leB 2 m.mf.toNat ++ (leB 2 (fsB m.fs).length ++ fsB m.fs ++ (leB 2 (encL m.st).length ++ encL m.st ++ (leB 2 (encL m.mv).length ++ encL m.mv)))) (by simp only [encM, addR, hdrM, List.append_assoc]) (by simp [mids, leB_len]) (by omega) (by have := h.sf; omega)
  have gY := get_at (b := encM m) (p := mids ++ leB 4 m.ver.toNat ++ leB 4 m.frm.toNat ++ leB 1 m.el.toNat ++ leB 1 m.fr.s.toNat ++ leB 1 m.fr.n.toNat ++ leB 1 m.fr.i.toNat ++ leB 1 m.fr.u.toNat ++ leB 2 m.sf.toNat) (k := 2) (v := m.mf.toNat) (a := 19) (s := (leB 2 (fsB m.fs).length ++ fsB m.fs ++ (leB 2 (encL m.st).length ++ encL m.st ++ (leB 2 (encL m.mv).length ++ encL m.mv)))) (by simp only [encM, addR, hdrM, List.append_assoc]) (by simp [mids, leB_len]) (by omega) (by have := h.mf; omega)
  obtain ⟨a1, a2, a3⟩ := run_at (b := encM m) (p := hdrM m) (x := fsB m.fs) (a := 21) (s := leB 2 (encL m.st).length ++ encL m.st ++ (leB 2 (encL m.mv).length ++ encL m.mv)) (by simp only [encM, addR, List.append_assoc]) (hdr_len m) (by omega)
  obtain ⟨b1, b2, b3⟩ := run_at (b := encM m) (p := addR (hdrM m) (fsB m.fs)) (x := encL m.st) (a := 21 + 2 + (fsB m.fs).length) (s := leB 2 (encL m.mv).length ++ encL m.mv) (by simp only [encM, addR, List.append_assoc]) (by simp only [addR, List.length_append, hdr_len, leB_len]) (by omega)
  obtain ⟨c1, c2, c3⟩ := run_at (b := encM m) (p := addR (addR (hdrM m) (fsB m.fs)) (encL m.st)) (x := encL m.mv) (a := 21 + 2 + (fsB m.fs).length + 2 + (encL m.st).length) (s := []) (by simp only [encM, addR, List.append_assoc, List.append_nil]) (by simp only [addR, List.length_append, hdr_len, leB_len]) (by omega)
  have e21 : ((21 : Nat) : Int) = 21 := rfl
  rw [e21] at a1 a2 a3
  rw [← a3] at b1 b2 b3
  rw [← b3] at c1 c2 c3
  have d2 := dec_enc h.st hs
  have d3 := dec_enc h.mv hv
  refine ⟨⟨?_, by omega, a1, b1, c1, by rw [c3, L]; omega, by rw [a2, n1]; omega, by rw [b2, d2], by rw [c2, d3]⟩, ?_⟩
  · rw [show encM m = mids ++ (leB 4 m.ver.toNat ++ leB 4 m.frm.toNat ++ leB 1 m.el.toNat ++ leB 1 m.fr.s.toNat ++ leB 1 m.fr.n.toNat ++ leB 1 m.fr.i.toNat ++ leB 1 m.fr.u.toNat ++ leB 2 m.sf.toNat ++ leB 2 m.mf.toNat ++ (leB 2 (fsB m.fs).length ++ fsB m.fs ++ (leB 2 (encL m.st).length ++ encL m.st ++ (leB 2 (encL m.mv).length ++ encL m.mv)))) by simp only [encM, addR, hdrM, List.append_assoc]]
    exact List.take_left' rfl
  · have k4 : ((4 : Nat) : Int) = 4 := rfl
    have k8 : ((8 : Nat) : Int) = 8 := rfl
    have k1 : ((1 : Nat) : Int) = 1 := rfl
    have k2 : ((2 : Nat) : Int) = 2 := rfl
    have k12 : ((12 : Nat) : Int) = 12 := rfl
    have k13 : ((13 : Nat) : Int) = 13 := rfl
    have k14 : ((14 : Nat) : Int) = 14 := rfl
    have k15 : ((15 : Nat) : Int) = 15 := rfl
    have k16 : ((16 : Nat) : Int) = 16 := rfl
    have k17 : ((17 : Nat) : Int) = 17 := rfl
    have k19 : ((19 : Nat) : Int) = 19 := rfl
    rw [k4] at gV
    rw [k8, k4] at gF
    rw [k12, k1] at gE
    rw [k13, k1] at gS
    rw [k14, k1] at gN
    rw [k15, k1] at gI
    rw [k16, k1] at gU
    rw [k17, k2] at gX
    rw [k19, k2] at gY
    unfold rdM
    rw [gV, gF, gE, gS, gN, gI, gU, gX, gY, a2, b2, c2, d2, d3, fsV_fsB m.fs hf, Int.toNat_of_nonneg h.ver.1, Int.toNat_of_nonneg h.frm.1, Int.toNat_of_nonneg h.el.1, Int.toNat_of_nonneg h.s.1, Int.toNat_of_nonneg h.n.1, Int.toNat_of_nonneg h.i.1, Int.toNat_of_nonneg h.u.1, Int.toNat_of_nonneg h.sf.1, Int.toNat_of_nonneg h.mf.1]
-- and back
theorem cut_at {b : List UInt8} {a k : Nat} (h : a + k ≤ b.length) (hk : 1 ≤ k ∧ k ≤ 8) : b.take a ++ leB k (getN b (a : Int) (k : Int)) = b.take (a + k) := by
  have hw : widB (k : Int) = true := decide_eq_true (by omega)
  unfold getN getE
  rw [if_pos (by rw [if_pos ⟨hw, by omega, by omega⟩, if_pos (by omega)]), Int.toNat_natCast, Int.toNat_natCast, List.take_add]
  congr 1
  have := leB_leN ((b.drop a).take k)
  rwa [List.length_take, List.length_drop, Nat.min_eq_left (by omega)] at this
theorem grT_nat {b : List UInt8} {a : Nat} : ∃ t : Nat, grT b (a : Int) = (t : Int) := by
  unfold grT; split
  · exact ⟨a + 2 + runN b a, by rw [Int.toNat_natCast]; omega⟩
  · exact ⟨0, rfl⟩
theorem run_cut {b : List UInt8} {a t : Nat} (h : grE b (a : Int) = 0) (ht : grT b (a : Int) = (t : Int)) : addR (b.take a) (grL b (a : Int)) = b.take t ∧ (grL b (a : Int)).length ≤ b.length ∧ t ≤ b.length := by
  have hd : a + 2 + runN b a ≤ b.length ∧ a + 2 ≤ b.length := by
    unfold grE at h
    split at h
    · split at h
      · rename_i h2; rw [Int.toNat_natCast] at h2; exact ⟨by omega, by omega⟩
      · omega
    · omega
  have hT : t = a + 2 + runN b a := by unfold grT at ht; rw [if_pos h, Int.toNat_natCast] at ht; omega
  have hL : grL b (a : Int) = (b.drop (a + 2)).take (runN b a) := by unfold grL; rw [if_pos h, Int.toNat_natCast]
  have hn : (grL b (a : Int)).length = runN b a := by rw [hL, List.length_take, List.length_drop]; omega
  refine ⟨?_, by omega, by omega⟩
  unfold addR
  rw [hn, hL, hT]
  have e1 : leB 2 (runN b a) = (b.drop a).take 2 := by
    unfold runN
    have := leB_leN ((b.drop a).take 2)
    rwa [List.length_take, List.length_drop, Nat.min_eq_left (by omega)] at this
  rw [e1, ← List.take_add, ← List.take_add]
theorem getN_lt (b : List UInt8) (a k : Nat) : getN b (a : Int) (k : Int) < 256 ^ k := by
  unfold getN
  split
  · refine Nat.lt_of_lt_of_le (leN_lt _) (Nat.pow_le_pow_right (by omega) ?_)
    rw [List.length_take]; omega
  · exact Nat.pow_pos (by omega)
theorem grL_len (b : List UInt8) (a : Int) : (grL b a).length ≤ b.length := by
  unfold grL; split
  · rw [List.length_take, List.length_drop]; omega
  · exact Nat.zero_le _
theorem dec_right (x : List UInt8) : encE (decA x).1 = 0 := by
  by_cases h : (decA x).2.1 = 0
  · exact (enc_dec h).1
  · rw [((decA_only x).2.1 h).1]; rfl
theorem rd_fit (b : List UInt8) (h : b.length ≤ 2016) : Fit (rdM b) := by
  have h1 := getN_lt b 4 4
  have h2 := getN_lt b 8 4
  have h3 := getN_lt b 12 1
  have h4 := getN_lt b 13 1
  have h5 := getN_lt b 14 1
  have h6 := getN_lt b 15 1
  have h7 := getN_lt b 16 1
  have h8 := getN_lt b 17 2
  have h9 := getN_lt b 19 2
  have hl := grL_len b 21
  refine ⟨⟨Int.natCast_nonneg _, ?_⟩, ⟨Int.natCast_nonneg _, ?_⟩, ⟨Int.natCast_nonneg _, ?_⟩, ⟨Int.natCast_nonneg _, ?_⟩, ⟨Int.natCast_nonneg _, ?_⟩, ⟨Int.natCast_nonneg _, ?_⟩, ⟨Int.natCast_nonneg _, ?_⟩, ⟨Int.natCast_nonneg _, ?_⟩, ⟨Int.natCast_nonneg _, ?_⟩, ?_, dec_right _, dec_right _⟩
  · show ((getN b 4 4 : Nat) : Int) < _; exact Int.ofNat_lt.2 h1
  · show ((getN b 8 4 : Nat) : Int) < _; exact Int.ofNat_lt.2 h2
  · show ((getN b 12 1 : Nat) : Int) < _; exact Int.ofNat_lt.2 h3
  · show ((getN b 13 1 : Nat) : Int) < _; exact Int.ofNat_lt.2 h4
  · show ((getN b 14 1 : Nat) : Int) < _; exact Int.ofNat_lt.2 h5
  · show ((getN b 15 1 : Nat) : Int) < _; exact Int.ofNat_lt.2 h6
  · show ((getN b 16 1 : Nat) : Int) < _; exact Int.ofNat_lt.2 h7
  · show ((getN b 17 2 : Nat) : Int) < _; exact Int.ofNat_lt.2 h8
  · show ((getN b 19 2 : Nat) : Int) < _; exact Int.ofNat_lt.2 h9
  · show (fsV (grL b 21)).length ≤ 600; rw [fsV_len]; omega
theorem rd_wf (b : List UInt8) : Wf (rdM b) := by
  refine ⟨⟨Int.natCast_nonneg _, ?_⟩, ⟨Int.natCast_nonneg _, ?_⟩, fsV_ok _, (decA_only _).2.2, (decA_only _).2.2⟩
  · show ((getN b 4 4 : Nat) : Int) < _; exact Int.ofNat_lt.2 (getN_lt b 4 4)
  · show ((getN b 8 4 : Nat) : Int) < _; exact Int.ofNat_lt.2 (getN_lt b 8 4)
theorem enc_rd {b : List UInt8} (h : Frm b) : encM (rdM b) = b := by
  have hl := h.len
  obtain ⟨t1, e1⟩ := grT_nat (b := b) (a := 21)
  have e1' : grT b 21 = (t1 : Int) := e1
  obtain ⟨t2, e2⟩ := grT_nat (b := b) (a := t1)
  obtain ⟨t3, e3⟩ := grT_nat (b := b) (a := t2)
  have r1 := h.r1
  have r2 := h.r2
  have r3 := h.r3
  have r4 := h.r4
  have d2 := h.d2
  have d3 := h.d3
  rw [e1'] at r2
  rw [e1', e2] at r3 r4
  rw [e1'] at d2
  rw [e1', e2] at d3
  rw [e3] at r4
  obtain ⟨c1, _⟩ := run_cut (a := 21) r1 e1
  obtain ⟨c2, _⟩ := run_cut r2 e2
  obtain ⟨c3, _⟩ := run_cut r3 e3
  have hh : hdrM (rdM b) = b.take 21 := by
    unfold hdrM rdM
    simp only [Int.toNat_natCast]
    rw [← h.head]
    have a1 := cut_at (b := b) (a := 4) (k := 4) (by omega) (by omega)
    have a2 := cut_at (b := b) (a := 8) (k := 4) (by omega) (by omega)
    have a3 := cut_at (b := b) (a := 12) (k := 1) (by omega) (by omega)
    have a4 := cut_at (b := b) (a := 13) (k := 1) (by omega) (by omega)
    have a5 := cut_at (b := b) (a := 14) (k := 1) (by omega) (by omega)
    have a6 := cut_at (b := b) (a := 15) (k := 1) (by omega) (by omega)
    have a7 := cut_at (b := b) (a := 16) (k := 1) (by omega) (by omega)
    have a8 := cut_at (b := b) (a := 17) (k := 2) (by omega) (by omega)
    have a9 := cut_at (b := b) (a := 19) (k := 2) (by omega) (by omega)
    exact (by
      have z1 : b.take 4 ++ leB 4 (getN b 4 4) = b.take 8 := a1
      have z2 : b.take 8 ++ leB 4 (getN b 8 4) = b.take 12 := a2
      have z3 : b.take 12 ++ leB 1 (getN b 12 1) = b.take 13 := a3
      have z4 : b.take 13 ++ leB 1 (getN b 13 1) = b.take 14 := a4
      have z5 : b.take 14 ++ leB 1 (getN b 14 1) = b.take 15 := a5
      have z6 : b.take 15 ++ leB 1 (getN b 15 1) = b.take 16 := a6
      have z7 : b.take 16 ++ leB 1 (getN b 16 1) = b.take 17 := a7
      have z8 : b.take 17 ++ leB 2 (getN b 17 2) = b.take 19 := a8
      have z9 : b.take 19 ++ leB 2 (getN b 19 2) = b.take 21 := a9
      rw [z1, z2, z3, z4, z5, z6, z7, z8, z9])
  unfold encM
  rw [hh]
  show addR (addR (addR (b.take 21) (fsB (fsV (grL b 21)))) (encL (decA (grL b (grT b 21))).1)) (encL (decA (grL b (grT b (grT b 21)))).1) = b
  rw [fsB_fsV _ h.four, e1', e2, (enc_dec d2).2, (enc_dec d3).2]
  have c1' : addR (b.take 21) (grL b 21) = b.take t1 := c1
  rw [c1', c2, c3, show t3 = b.length by omega, List.take_length]
/-- The bytes of what is read loosely are the bytes themselves, just if they have the form. -/
theorem frm_iff {b : List UInt8} (h : b.length ≤ 2016) : encM (rdM b) = b ↔ Frm b := by
  refine ⟨fun e => ?_, enc_rd⟩
  have := (rd_enc (rd_fit b h) (rd_wf b).st (rd_wf b).mv (rd_wf b).fs).1
  rwa [e] at this

end Go.Proofs.YtdikiabjkmigdaaGreatDoor
namespace Go.Proofs.YtdikiabjkmigdaaGreatDoor
set_option maxRecDepth 20000
open Go.RowKit

/-- A number is read: place and fault behind it, and its value. -/
def nxt (l : List UInt8) (s : Int × Int) (k : Nat) : Int × Int := (if s.2 = 0 then s.1 + k else s.1, if s.2 = 0 then getE l.length s.1 (k : Int) else s.2)
def val (l : List UInt8) (s : Int × Int) (k : Nat) : Nat := if s.2 = 0 then getN l s.1 (k : Int) else 0
/-- A run is read. -/
def nxr (l : List UInt8) (s : Int × Int) : Int × Int := (if s.2 = 0 then grT l s.1 else s.1, if s.2 = 0 then grE l s.1 else s.2)
def valr (l : List UInt8) (s : Int × Int) : List UInt8 := if s.2 = 0 then grL l s.1 else []
theorem nxt_zero {l : List UInt8} {s : Int × Int} {k : Nat} (h : (nxt l s k).2 = 0) : s.2 = 0 ∧ getE l.length s.1 (k : Int) = 0 ∧ (nxt l s k).1 = s.1 + k ∧ val l s k = getN l s.1 (k : Int) := by
  by_cases h0 : s.2 = 0
  · simp only [nxt, if_pos h0] at h
    exact ⟨h0, h, if_pos h0, if_pos h0⟩
  · simp only [nxt, if_neg h0] at h
    exact absurd h h0
theorem nxt_go {l : List UInt8} {s : Int × Int} {k : Nat} (h0 : s.2 = 0) (h : getE l.length s.1 (k : Int) = 0) : nxt l s k = (s.1 + k, 0) := by
  unfold nxt; rw [if_pos h0, if_pos h0, h]
theorem nxr_zero {l : List UInt8} {s : Int × Int} (h : (nxr l s).2 = 0) : s.2 = 0 ∧ grE l s.1 = 0 ∧ (nxr l s).1 = grT l s.1 ∧ valr l s = grL l s.1 := by
  by_cases h0 : s.2 = 0
  · simp only [nxr, if_pos h0] at h
    exact ⟨h0, h, if_pos h0, if_pos h0⟩
  · simp only [nxr, if_neg h0] at h
    exact absurd h h0
theorem nxr_go {l : List UInt8} {s : Int × Int} (h0 : s.2 = 0) (h : grE l s.1 = 0) : nxr l s = (grT l s.1, 0) := by
  unfold nxr; rw [if_pos h0, if_pos h0, h]
theorem nxt_bd {l : List UInt8} {s : Int × Int} {k : Nat} {a : Int} (h : 0 ≤ s.1 ∧ s.1 ≤ a) : 0 ≤ (nxt l s k).1 ∧ (nxt l s k).1 ≤ a + k := by
  unfold nxt; simp only; split <;> omega
theorem nxr_bd {l : List UInt8} {s : Int × Int} {a : Int} (h : 0 ≤ s.1 ∧ s.1 ≤ a) (hl : (l.length : Int) ≤ a) : 0 ≤ (nxr l s).1 ∧ (nxr l s).1 ≤ a := by
  unfold nxr; simp only; split
  · unfold grT
    split
    · rename_i h1
      unfold grE at h1
      split at h1
      · split at h1
        · rename_i h3; omega
        · omega
      · omega
    · omega
  · exact h
theorem val_lt (l : List UInt8) (s : Int × Int) (k : Nat) : val l s k < 256 ^ k := by
  unfold val
  split
  · unfold getN
    split
    · refine Nat.lt_of_lt_of_le (leN_lt _) (Nat.pow_le_pow_right (by omega) ?_)
      rw [List.length_take, Int.toNat_natCast]; omega
    · exact Nat.pow_pos (by omega)
  · exact Nat.pow_pos (by omega)
theorem valr_len (l : List UInt8) (s : Int × Int) : (valr l s).length ≤ l.length := by
  unfold valr; split
  · exact grL_len l _
  · exact Nat.zero_le _
theorem getE_lit {b : List UInt8} {a k : Nat} (hk : 1 ≤ k ∧ k ≤ 8) (h : a + k ≤ b.length) : getE b.length (a : Int) (k : Int) = 0 := by
  have hw : widB (k : Int) = true := decide_eq_true (by omega)
  unfold getE; rw [if_pos ⟨hw, by omega, by omega⟩, if_pos (by omega)]
theorem getE_in {b : List UInt8} {a k : Nat} (h : getE b.length (a : Int) (k : Int) = 0) : a + k ≤ b.length := by
  unfold getE at h
  split at h
  · split at h
    · omega
    · omega
  · omega
def d0 : Int × Int := (4, 0)
def d1 (b : List UInt8) := nxt b d0 4
def d2 (b : List UInt8) := nxt b (d1 b) 4
def d3 (b : List UInt8) := nxt b (d2 b) 1
def d4 (b : List UInt8) := nxt b (d3 b) 1
def d5 (b : List UInt8) := nxt b (d4 b) 1
def d6 (b : List UInt8) := nxt b (d5 b) 1
def d7 (b : List UInt8) := nxt b (d6 b) 1
def d8 (b : List UInt8) := nxt b (d7 b) 2
def d9 (b : List UInt8) := nxt b (d8 b) 2
def r1 (b : List UInt8) := nxr b (d9 b)
def r2 (b : List UInt8) := nxr b (r1 b)
def r3 (b : List UInt8) := nxr b (r2 b)
/-- The bytes have the form but for their codes. -/
structure Frm0 (b : List UInt8) : Prop where
  len : 21 ≤ b.length
  r1 : grE b 21 = 0
  r2 : grE b (grT b 21) = 0
  r3 : grE b (grT b (grT b 21)) = 0
  r4 : grT b (grT b (grT b 21)) = b.length
  four : (grL b 21).length % 4 = 0
theorem frm_of {b : List UInt8} (h : Frm0 b) (hh : b.take 4 = mids) (h2 : (decA (grL b (grT b 21))).2.1 = 0) (h3 : (decA (grL b (grT b (grT b 21)))).2.1 = 0) : Frm b :=
  ⟨hh, h.len, h.r1, h.r2, h.r3, h.r4, h.four, h2, h3⟩
theorem Frm.zero {b : List UInt8} (h : Frm b) : Frm0 b := ⟨h.len, h.r1, h.r2, h.r3, h.r4, h.four⟩
/-- What reading on tells, where no fault is met. -/
theorem dec_zero {b : List UInt8} (h : (r3 b).2 = 0) : 21 ≤ b.length ∧ grE b 21 = 0 ∧ grE b (grT b 21) = 0 ∧ grE b (grT b (grT b 21)) = 0 ∧ (r3 b).1 = grT b (grT b (grT b 21)) ∧
    val b d0 4 = getN b 4 4 ∧ val b (d1 b) 4 = getN b 8 4 ∧ val b (d2 b) 1 = getN b 12 1 ∧ val b (d3 b) 1 = getN b 13 1 ∧ val b (d4 b) 1 = getN b 14 1 ∧ val b (d5 b) 1 = getN b 15 1 ∧ val b (d6 b) 1 = getN b 16 1 ∧ val b (d7 b) 2 = getN b 17 2 ∧ val b (d8 b) 2 = getN b 19 2 ∧
    valr b (d9 b) = grL b 21 ∧ valr b (r1 b) = grL b (grT b 21) ∧ valr b (r2 b) = grL b (grT b (grT b 21)) := by
  obtain ⟨e3, g3, p3, v3⟩ := nxr_zero (s := r2 b) h
  obtain ⟨e2, g2, p2, v2⟩ := nxr_zero (s := r1 b) e3
  obtain ⟨e1, g1, p1, v1⟩ := nxr_zero (s := d9 b) e2
  obtain ⟨f9, h9, q9, u9⟩ := nxt_zero (s := d8 b) e1
  obtain ⟨f8, h8, q8, u8⟩ := nxt_zero (s := d7 b) f9
  obtain ⟨f7, h7, q7, u7⟩ := nxt_zero (s := d6 b) f8
  obtain ⟨f6, h6, q6, u6⟩ := nxt_zero (s := d5 b) f7
  obtain ⟨f5, h5, q5, u5⟩ := nxt_zero (s := d4 b) f6
  obtain ⟨f4, h4, q4, u4⟩ := nxt_zero (s := d3 b) f5
  obtain ⟨f3, h3, q3, u3⟩ := nxt_zero (s := d2 b) f4
  obtain ⟨f2, h2, q2, u2⟩ := nxt_zero (s := d1 b) f3
  obtain ⟨f1, h1, q1, u1⟩ := nxt_zero (s := d0) f2
  have a1 : (d1 b).1 = 8 := q1
  have a2 : (d2 b).1 = 12 := by rw [show (d2 b).1 = (d1 b).1 + (4 : Nat) from q2, a1]; rfl
  have a3 : (d3 b).1 = 13 := by rw [show (d3 b).1 = (d2 b).1 + (1 : Nat) from q3, a2]; rfl
  have a4 : (d4 b).1 = 14 := by rw [show (d4 b).1 = (d3 b).1 + (1 : Nat) from q4, a3]; rfl
  have a5 : (d5 b).1 = 15 := by rw [show (d5 b).1 = (d4 b).1 + (1 : Nat) from q5, a4]; rfl
  have a6 : (d6 b).1 = 16 := by rw [show (d6 b).1 = (d5 b).1 + (1 : Nat) from q6, a5]; rfl
  have a7 : (d7 b).1 = 17 := by rw [show (d7 b).1 = (d6 b).1 + (1 : Nat) from q7, a6]; rfl
  have a8 : (d8 b).1 = 19 := by rw [show (d8 b).1 = (d7 b).1 + (2 : Nat) from q8, a7]; rfl
  have a9 : (d9 b).1 = 21 := by rw [show (d9 b).1 = (d8 b).1 + (2 : Nat) from q9, a8]; rfl
  have b1 : (r1 b).1 = grT b 21 := by rw [← a9]; exact p1
  have b2 : (r2 b).1 = grT b (grT b 21) := by rw [← b1]; exact p2
  rw [a8] at h9 u9
  rw [a7] at u8
  rw [a6] at u7
  rw [a5] at u6
  rw [a4] at u5
  rw [a3] at u4
  rw [a2] at u3
  rw [a1] at u2
  rw [a9] at g1 v1
  rw [b1] at g2 v2
  rw [b2] at g3 v3
  exact ⟨getE_in (a := 19) (k := 2) h9, g1, g2, g3, by rw [← b2]; exact p3, u1, u2, u3, u4, u5, u6, u7, u8, u9, v1, v2, v3⟩
theorem dec_form {b : List UInt8} (h : Frm0 b) : r3 b = ((b.length : Int), 0) := by
  have hl := h.len
  have a1 : d1 b = (8, 0) := nxt_go (s := d0) rfl (getE_lit (a := 4) (k := 4) (by omega) (by omega))
  have a2 : d2 b = (12, 0) := by unfold d2; rw [a1]; exact nxt_go rfl (getE_lit (a := 8) (k := 4) (by omega) (by omega))
  have a3 : d3 b = (13, 0) := by unfold d3; rw [a2]; exact nxt_go rfl (getE_lit (a := 12) (k := 1) (by omega) (by omega))
  have a4 : d4 b = (14, 0) := by unfold d4; rw [a3]; exact nxt_go rfl (getE_lit (a := 13) (k := 1) (by omega) (by omega))
  have a5 : d5 b = (15, 0) := by unfold d5; rw [a4]; exact nxt_go rfl (getE_lit (a := 14) (k := 1) (by omega) (by omega))
  have a6 : d6 b = (16, 0) := by unfold d6; rw [a5]; exact nxt_go rfl (getE_lit (a := 15) (k := 1) (by omega) (by omega))
  have a7 : d7 b = (17, 0) := by unfold d7; rw [a6]; exact nxt_go rfl (getE_lit (a := 16) (k := 1) (by omega) (by omega))
  have a8 : d8 b = (19, 0) := by unfold d8; rw [a7]; exact nxt_go rfl (getE_lit (a := 17) (k := 2) (by omega) (by omega))
  have a9 : d9 b = (21, 0) := by unfold d9; rw [a8]; exact nxt_go rfl (getE_lit (a := 19) (k := 2) (by omega) (by omega))
  have b1 : r1 b = (grT b 21, 0) := by unfold r1; rw [a9]; exact nxr_go rfl h.r1
  have b2 : r2 b = (grT b (grT b 21), 0) := by unfold r2; rw [b1]; exact nxr_go rfl h.r2
  unfold r3; rw [b2, nxr_go rfl h.r3, h.r4]
/-- Just then the bytes have the form but for their codes. -/
theorem frm0_iff (b : List UInt8) : Frm0 b ↔ (r3 b).2 = 0 ∧ (r3 b).1 = b.length ∧ (valr b (d9 b)).length % 4 = 0 := by
  constructor
  · intro h
    have e := dec_form h
    have e2 : (r3 b).2 = 0 := by rw [e]
    obtain ⟨_, _, _, _, _, _, _, _, _, _, _, _, _, _, v1, _, _⟩ := dec_zero e2
    exact ⟨e2, by rw [e], by rw [v1]; exact h.four⟩
  · rintro ⟨h1, h2, h3⟩
    obtain ⟨hl, g1, g2, g3, p, _, _, _, _, _, _, _, _, _, v1, _, _⟩ := dec_zero h1
    exact ⟨hl, g1, g2, g3, by rw [← p]; exact h2, by rw [← v1]; exact h3⟩

end Go.Proofs.YtdikiabjkmigdaaGreatDoor
