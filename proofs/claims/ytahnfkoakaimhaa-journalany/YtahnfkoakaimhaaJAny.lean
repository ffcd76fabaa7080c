/-
  The walk of the law JournalAny.
-/
import Derived.Test.YtahnfkoakaimhaaJRef7
import Derived.Test.YtahnfkoakaimhaaJPkg9
import Derived.Test.YtahnfkoakaimhaaJOps
namespace Go.Proofs.Ytahnfkoakaimhaa
open Go.RowKit
set_option maxHeartbeats 4000000

theorem Append_none (gj hj gf hf k c : Nat) (A : Option Addr) (j : JS) (s : FS) (w : World) (h : Jr w gj hj gf k s.ws j) (f : Fl w gf hf s) (hd : j.dead = false) (hon : s.on = true) :
    Calls Try.prog 10 #[.pointer (some ⟨gj, 0, none⟩), .slice A 0 c] w (Apps w gj hj gf hf k s 3 j) := by
  obtain ⟨cur, oth, A0, An, Ac, used, cl, hb, ho, hAh, hl⟩ := h.ex
  have c0 : w.cell? ⟨gj, 0, none⟩ = some (.pointer (some ⟨gf, 0, none⟩)) := hb.cell (j := 0) rfl
  have c7 : w.cell? ⟨gj, 7, none⟩ = some (.bool j.dead) := hb.cell (j := 7) rfl
  rw [hd] at c7
  have HO := hide hon
  have FIN : Hid (Apps w gj hj gf hf k s 3 j (.returned (.int .i64 3)) w) := ⟨rfl, f, Keeps.refl _ _, hj, .inl rfl, h⟩
  clear hl hAh ho hb h hon hd
  go_enter Try.func10, Try.ntmps10
  go_wp2_with (first
    | (go_at_call 26; refine (jisNone_any gj gf _ c0).mono ?_; rintro e w1 ⟨rfl, rfl⟩)
    | (go_at_call 27; refine (On_any gf hf s _ f).mono ?_; rintro e w1 ⟨rfl, rfl⟩; rw [HO.out]))
  go_ret
  exact FIN.out
theorem Append_all (gj hj gf hf k n c : Nat) (A : Option Addr) (r : List UInt32) (j : JS) (s : FS) (w : World) (h : Jr w gj hj gf k s.ws j) (h1 : gj ≠ gf) (h2 : gj ≠ hf) (h3 : hj ≠ gf) (h4 : hj ≠ hf) (f : Fl w gf hf s)
    (hr : Row w w.heap.size A n c (cs32 r)) (hA : 0 < n → ∀ a, A = some a → a.block ∉ [gj, gf, hf]) (hk : 256 * (k + 2) ≤ s.ws.length) (hops : s.ops ≤ 1152921504606846976) (hd : j.dead = false) (hon : s.on = true) :
    Calls Try.prog 10 #[.pointer (some ⟨gj, 0, none⟩), .slice A n c] w (Apps w gj hj gf hf k (jS s k j r) (jE s k j r) (jJ s k j r)) := by
  by_cases h0 : 0 < n
  · exact Append_any gj hj gf hf k n c A r j s w h h1 h2 h3 h4 f hr (hA h0) hk hops
  · obtain rfl : n = 0 := by omega
    have hln := hr.len
    rw [cs32_len] at hln
    have hb : bigB j r := .inl hln
    have h5 : ¬ (j.dead = true ∨ s.on = false) := by rw [hon, hd]; simp
    have e1 : jS s k j r = s := by unfold jS; rw [if_neg h5, if_pos hb]
    have e2 : jE s k j r = 3 := by unfold jE; rw [if_neg h5, if_pos hb]
    have e3 : jJ s k j r = j := by unfold jJ; rw [if_neg h5, if_pos hb]
    rw [e1, e2, e3]
    exact Append_none gj hj gf hf k c A j s w h f hd hon
theorem any_spec (l r : List UInt32) (hl : 512 ≤ l.length) :
    (jS (ofS l) 0 (opJ l 0) r).on = true ∧ (jS (ofS l) 0 (opJ l 0) r).ws.length = l.length ∧
    ((jE (ofS l) 0 (opJ l 0) r = 0 ∧ opJ (jS (ofS l) 0 (opJ l 0) r).ws 0 = ⟨r, (opJ l 0).num + 1, false⟩) ∨ (jE (ofS l) 0 (opJ l 0) r ≠ 0 ∧ opJ (jS (ofS l) 0 (opJ l 0) r).ws 0 = opJ l 0)) := by
  have hd : ¬ ((opJ l 0).dead = true ∨ (ofS l).on = false) := by
    intro h; rcases h with h | h <;> cases h
  have hg := (opJ_good l 0).le
  by_cases hb : bigB (opJ l 0) r
  · have e1 : jS (ofS l) 0 (opJ l 0) r = ofS l := by unfold jS; rw [if_neg hd, if_pos hb]
    have e2 : jE (ofS l) 0 (opJ l 0) r = 3 := by unfold jE; rw [if_neg hd, if_pos hb]
    rw [e1, e2]
    exact ⟨rfl, rfl, .inr ⟨by decide, rfl⟩⟩
  · have e1 : jS (ofS l) 0 (opJ l 0) r = appS (ofS l) 0 r := by unfold jS; rw [if_neg hd, if_neg hb]
    have e2 : jE (ofS l) 0 (opJ l 0) r = appE (ofS l) 0 r := by unfold jE; rw [if_neg hd, if_neg hb]
    unfold bigB at hb
    rw [e1, e2]
    obtain ⟨_, h2, h3⟩ := app_spec (ofS l) 0 r rfl (by show 256 * (0 + 2) ≤ l.length; omega) (by omega) (by omega) (by show (opJ l 0).num < 2147483647; omega)
    rcases h3 with ⟨h0, hok⟩ | ⟨_, ht⟩
    · refine ⟨hok.on, h2, .inl ⟨h0, ?_⟩⟩
      unfold opJ
      rw [hok.val]
      rfl
    · obtain ⟨j, x, hp⟩ := ht.plan
      cases hp
set_option maxRecDepth 10000 in
theorem any_walk (A : Option Addr) (n c : Nat) (l : List UInt32) (A' : Option Addr) (n' c' : Nat) (r : List UInt32) (w : World) (hr : Row w w.heap.size A n c (cs32 l)) (hr' : Row w w.heap.size A' n' c' (cs32 r)) :
    Calls Try.prog 4 #[.slice A n c, .slice A' n' c'] w fun e w' => e = .returned (.bool true) ∧ Below w.heap.size w w' := by
  have hln := hr.len
  rw [cs32_len] at hln
  by_cases hyes : 1 ≤ n / 256 ∧ n / 256 ≤ 16 ∧ n % 256 = 0
  · have HY := hide hyes
    have HL := hide hln
    by_cases h2s : 512 ≤ n
    · obtain ⟨a1, a2, a3⟩ := any_spec l r (by omega)
      have hbA : ∀ a, A' = some a → 0 < n' → a.block < w.heap.size := by
        intro a e hn
        obtain ⟨b, o, e2, hb, _⟩ := hr'.cells hn
        rw [e2] at e; cases e; exact hb
      obtain ⟨J, hJ⟩ : ∃ J, opJ l 0 = J := ⟨_, rfl⟩
      rw [hJ] at a1 a2 a3
      obtain ⟨s1, hs1⟩ : ∃ s1, jS (ofS l) 0 J r = s1 := ⟨_, rfl⟩
      obtain ⟨q, hq⟩ : ∃ q, jE (ofS l) 0 J r = q := ⟨_, rfl⟩
      rw [hs1] at a1 a2 a3
      rw [hq] at a3
      have hgood := opJ_good l 0
      rw [hJ] at hgood
      have HDD : Hid (J.dead = false) := by rw [← hJ]; rfl
      have HS := hide (And.intro hs1 (And.intro hq hJ))
      have H1 := hide (And.intro a1 (And.intro a2 a3))
      have H2 := hide h2s
      clear hyes hln a1 a2 a3 hs1 hq hJ h2s
      go_enter Try.func4, Try.ntmps4
      go_wp2_with fail
      refine (Of_any w.heap.size _ _ _ l _ hr (Nat.le_refl _) HY.out).mono ?_
      rintro e w1 ⟨g, h, rfl, f1, k1, hg, hh⟩
      go_wp2_with fail
      refine (rOf_any w.heap.size _ _ _ l _ (k1.row hr (Nat.le_refl _) (by simp)) HY.out).mono ?_
      rintro e w2 ⟨g2, h2, rfl, r2, k2, hg2, hh2⟩
      have f2 := k2.fl f1 (by simp) (by simp)
      have l1 := f1.lt
      have l2 := f1.lt2
      have k02 := k1.trans k2 (by simp)
      have s2 := k2.size
      have s1' := k1.size
      clear f1
      go_wp2_with fail
      refine (Open_in g h (ofS l) 0 w2 f2 rfl (by show 256 * (0 + 2) ≤ l.length; have := HL.out; have := H2.out; omega)).mono ?_
      rintro e w3 ⟨gj, hj, rfl, j3, k3, hgj, hhj⟩
      have r3 := k3.rf r2 (by simp) (by simp)
      have f3 := k3.fl f2 (by simp) (by simp)
      have lr1 := r2.lt
      have lr2 := r2.lt2
      have s3 := k3.size
      have lj := j3.lt
      clear r2 f2
      go_wp2_with fail
      refine (rOpen_in g2 h2 (ofS l) 0 w3 r3 rfl (by show 256 * (0 + 2) ≤ l.length; have := HL.out; have := H2.out; omega)).mono ?_
      rintro e w4 ⟨gr, hrr, rfl, q4, k4, hgr, hhr⟩
      rw [show opJ (ofS l).ws 0 = J from HS.out.2.2] at q4 j3
      have r4 := k4.rf r3 (by simp) (by simp)
      have f4 := k4.fl f3 (by simp) (by simp)
      have j4 := k4.jr j3 (by simp) (by simp)
      have s4 := k4.size
      have k04 := (k02.trans k3 (by simp)).trans k4 (by simp)
      have lhj : hj < w3.heap.size ∨ w3.heap.size ≤ hj := by omega
      clear r3 f3 j3 k02
      have key : (decide (0 < J.num) = true ∧ decide ((0 : Int) < (J.num : Int)) = true) ∨ (decide (0 < J.num) = false ∧ decide ((0 : Int) < (J.num : Int)) = false) := by
        by_cases hz : 0 < J.num
        · left; simp; omega
        · right; simp; omega
      obtain ⟨mt, hmt⟩ : ∃ mt, decide (0 < J.num) = mt := ⟨_, rfl⟩
      have e2 : decide ((0 : Int) < (J.num : Int)) = mt := by rw [← hmt]; rcases key with h | h <;> rw [h.1, h.2]
      have HMT := hide hmt
      clear key hmt
      go_wp2_with fail
      refine (Last_any gj hj g 0 _ J w4 j4).mono ?_
      rintro e w5 ⟨A5, n5, c5, he5, o5, hA5, k5⟩
      rw [HMT.out] at he5
      subst he5
      have r5 := k5.rf r4 (by simp) (by simp)
      have f5 := k5.fl f4 (by simp) (by simp)
      have j5 := k5.jr j4 (by simp) (by simp)
      have q5 := k5.rj q4 (by simp) (by simp)
      have s5 := k5.size
      have k05 := k04.trans k5 (by simp)
      have lq4 := q4.lt
      clear r4 f4 j4 q4 k04
      obtain ⟨Ar, nr, cr, br, orr, hAr, _⟩ := q5.ex
      have x3 : w5.cell? ⟨gr, 3, none⟩ = some (.slice Ar nr cr) := br.cell (j := 3) rfl
      have x4 : ∀ t, (w5.drewN t).cell? ⟨gr, 4, none⟩ = some (.int .u32 (J.num : Int)) := fun t => br.cell (j := 4) rfl
      have HSA := hide (And.intro (Row.of_own o5) (Row.of_own orr))
      have lq := q5.lt
      clear br orr hAr
      rcases hmt2 : mt with _ | _
      all_goals
        rw [hmt2] at e2 HMT
        clear hmt2
        have e3 := HMT.out
        go_wp2_with (go_at_call 12; refine (Same_any _ _ _ _ _ _ _ _ J.rcd _ HSA.out.1 HSA.out.2).mono ?_; rintro e w6 ⟨t6, rfl, rfl⟩; have x46 := x4 t6)
        have k6 : Keeps [] w5 (w5.drewN t6) := (Keeps.refl _ _).drewN _
        have s6 : w5.heap.size ≤ (w5.drewN t6).heap.size := k6.size
        have f6 := k6.fl f5 (by simp) (by simp)
        have r6 := k6.rf r5 (by simp) (by simp)
        have j6 := k6.jr j5 (by simp) (by simp)
        have q6 := k6.rj q5 (by simp) (by simp)
        have o6 := k6.own o5 (by simp)
        have k06 := k05.trans k6 (by simp)
        clear x3 x4 x46 HSA
        generalize w5.drewN t6 = w6 at k6 s6 f6 r6 j6 q6 o6 k06 ⊢
        have rr6 := (k06.row hr' (Nat.le_refl _) (by simp)).more (B' := w6.heap.size) k06.size
        refine (Append_all gj hj g h 0 n' c' A' r J (ofS l) w6 j6 (by omega) (by omega) (by omega) (by omega) f6 rr6 (fun hn a e => by have := hbA a e hn; simp; omega) (by show 256 * (0 + 2) ≤ l.length; have := HL.out; have := H2.out; omega) (by show 0 ≤ _; omega) HDD.out rfl).mono ?_
        rw [HS.out.1, HS.out.2.1]
        rintro e w7 ⟨rfl, f7, k7, hj7, hor7, j7⟩
        have r7 := k7.rf r6 (by simp; omega) (by simp; omega)
        have q7 := k7.rj q6 (by simp; omega) (by simp; omega)
        have o7 := k7.own o6 (fun x e => by have := hA5 x e; simp; omega)
        have k07 : Keeps [] w w7 := k06.trans k7 (by simp; omega)
        have s7 := k7.size
        clear f6 r6 j6 q6 o6
        go_wp2_with fail
        refine (rAppend_any gr hrr g2 h2 0 n' c' A' r J (ofS l) w7 q7 (by omega) (by omega) (by omega) (by omega) r7 ((k07.row hr' (Nat.le_refl _) (by simp)).more k07.size) (fun hn a e => by have := hbA a e hn; simp; omega) (by show 256 * (0 + 2) ≤ l.length; have := HL.out; have := H2.out; omega) (by show 0 ≤ _; omega)).mono ?_
        rw [HS.out.1, HS.out.2.1]
        rintro e w8 ⟨rfl, r8, k8, hj8, hor8, q8⟩
        have f8 := k8.fl f7 (by simp; omega) (by simp; omega)
        have o8 := k8.own o7 (fun x e => by have := hA5 x e; simp; omega)
        have k08 : Keeps [] w w8 := k07.trans k8 (by simp; omega)
        clear f7 r7 q7 o7 q8 r8 j7
        go_wp2_with fail
        refine (Open_in g h s1 0 w8 f8 H1.out.1 (by have := H1.out.2.1; have := HL.out; have := H2.out; omega)).mono ?_
        rintro e w9 ⟨gk, hk9, rfl, j9, k9, hgk, hhk⟩
        go_wp2_with fail
        refine (Last_any gk hk9 g 0 _ _ w9 j9).mono ?_
        rintro e w10 ⟨A10, n10, c10, he10, o10, hA10, k10⟩
        have k010 : Keeps [] w w10 := (k08.trans k9 (by simp)).trans k10 (by simp)
        have x10 := k10.own (k9.own o8 (by simp)) (by simp)
        have rr10 := k010.row hr' (Nat.le_refl _) (by simp)
        rcases H1.out.2.2 with ⟨h0, hO⟩ | ⟨h0, hO⟩
        · subst h0
          rw [hO] at he10 o10
          have hpos : decide (0 < (⟨r, J.num + 1, false⟩ : JS).num) = true := by simp
          rw [hpos] at he10
          subst he10
          have HSB := hide (And.intro (Row.of_own o10) rr10)
          have hwN : IntKind.u32.wrap ((J.num : Int) + 1) = (J.num : Int) + 1 := wrap32_small (by omega) (by have := hgood.le; omega)
          have hcast : (((⟨r, J.num + 1, false⟩ : JS).num : Nat) : Int) = (J.num : Int) + 1 := by show ((J.num + 1 : Nat) : Int) = _; omega
          rw [hcast]
          go_wp2_with (first
            | (go_at_call 12; refine (Same_any _ _ _ _ _ _ _ _ r _ HSB.out.1 HSB.out.2).mono ?_; rintro e w11 ⟨t11, rfl, rfl⟩)
            | (go_at_call 6; refine (known_any _).mono ?_; rintro e w12 ⟨rfl, k12⟩))
          go_ret
          exact ⟨rfl, (((k010.drewN t11).trans k12 (by simp))).back⟩
        · rw [hO] at he10 o10
          rw [HMT.out] at he10
          subst he10
          have hqn : (q != 0) = true := by simpa using h0
          have HSB := hide (And.intro (Row.of_own o10) (Row.of_own x10))
          go_wp2_with (first
            | (go_at_call 12; refine (Same_any _ _ _ _ _ _ _ _ J.rcd _ HSB.out.1 HSB.out.2).mono ?_; rintro e w11 ⟨t11, rfl, rfl⟩)
            | (go_at_call 6; refine (known_any _).mono ?_; rintro e w12 ⟨rfl, k12⟩))
          go_ret
          exact ⟨rfl, (((k010.drewN t11).trans k12 (by simp))).back⟩
    · have h1s : n ≤ 511 := by omega
      clear hyes
      go_enter Try.func4, Try.ntmps4
      go_wp2_with (first
        | (go_at_call 18; refine (Of_any w.heap.size _ _ _ l _ hr (Nat.le_refl _) HY.out).mono ?_; rintro e w1 ⟨g, h, rfl, f1, k1, hg, hh⟩; have hr1 := k1.row hr (Nat.le_refl _) (by simp))
        | (go_at_call 19; refine (rOf_any w.heap.size _ _ _ l _ hr1 HY.out).mono ?_; rintro e w2 ⟨g2, h2, rfl, r2, k2, hg2, hh2⟩; have f2 := k2.fl f1 (by simp) (by simp))
        | (go_at_call 20; refine (Open_out g h (ofS l) 0 _ f2 rfl (by show ¬ (_ ∧ (0 : Int) + 2 ≤ ((l.length / 256 : Nat) : Int)); have := HL.out; omega)).mono ?_; rintro e w3 ⟨rfl, rfl⟩)
        | (go_at_call 21; refine (rOpen_out g2 h2 (ofS l) 0 _ r2 rfl (by show ¬ (_ ∧ (0 : Int) + 2 ≤ ((l.length / 256 : Nat) : Int)); have := HL.out; omega)).mono ?_; rintro e w4 ⟨gr, rfl, b4, k4, _⟩)
        | (go_at_call 6; refine (known_any _).mono ?_; rintro e w5 ⟨rfl, k5⟩))
      go_ret
      exact ⟨rfl, (((k1.trans k2 (by simp)).trans k4 (by simp)).trans k5 (by simp)).back⟩
  · have HY := hide hyes
    clear hyes
    go_enter Try.func4, Try.ntmps4
    go_wp2_with (first
      | (go_at_call 18; refine (Of_no w.heap.size _ _ _ l _ hr HY.out).mono ?_; rintro e w2 ⟨rfl, rfl⟩)
      | (go_at_call 19; refine (rOf_no w.heap.size _ _ _ l _ hr HY.out).mono ?_; rintro e w3 ⟨g3, rfl, k3⟩)
      | (go_at_call 6; refine (known_any _).mono ?_; rintro e w4 ⟨rfl, k4⟩))
    go_ret
    exact ⟨rfl, (k3.trans k4 (by simp)).back⟩
end Go.Proofs.Ytahnfkoakaimhaa
