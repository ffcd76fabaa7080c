/-
  Contracts of package journal: Append.
-/
import Derived.Test.YtahnfkoakaimhaaJPkg7
namespace Go.Proofs.Ytahnfkoakaimhaa
open Go.RowKit
set_option maxHeartbeats 2000000

def bigB (j : JS) (r : List UInt32) : Prop := r.length = 0 ∨ 64 < r.length ∨ j.num = 2147483647
instance (j : JS) (r : List UInt32) : Decidable (bigB j r) := by unfold bigB; infer_instance
def jE (s : FS) (k : Nat) (j : JS) (r : List UInt32) : Int := if j.dead = true ∨ s.on = false then 7 else if bigB j r then 3 else appE s k r
def jS (s : FS) (k : Nat) (j : JS) (r : List UInt32) : FS := if j.dead = true ∨ s.on = false then s else if bigB j r then s else appS s k r
def jJ (s : FS) (k : Nat) (j : JS) (r : List UInt32) : JS := if j.dead = true ∨ s.on = false then ⟨j.rcd, j.num, true⟩ else if bigB j r then j else if appE s k r = 0 then ⟨r, j.num + 1, false⟩ else ⟨j.rcd, j.num, true⟩
/-- What an Append leaves. -/
def Apps (w : World) (gj hj gf hf k : Nat) (s' : FS) (q : Int) (j' : JS) (e : Ending) (w' : World) : Prop :=
  e = .returned (.int .i64 q) ∧ Fl w' gf hf s' ∧ Keeps [gj, gf, hf] w w' ∧ ∃ hj', (hj' = hj ∨ w.heap.size ≤ hj') ∧ Jr w' gj hj' gf k s'.ws j'
theorem store_any (gj gf hf k n c An Ac : Nat) (A A0 : Option Addr) (r : List UInt32) (s : FS) (w : World) (hb : Blk w gj 66 (jrC gf (curN s.ws k) (othN s.ws k) A0 An Ac (curV s.ws k).num (curV s.ws k).used (curC s.ws k) false)) (h1 : gj ≠ gf) (h2 : gj ≠ hf) (f : Fl w gf hf s)
    (hr : Row w w.heap.size A n c (cs32 r)) (hA : ∀ a, A = some a → a.block ∉ [gj, gf, hf])
    (hk : 256 * (k + 2) ≤ s.ws.length) (hn1 : 1 ≤ n) (hn2 : n ≤ 64) (hnum : (curV s.ws k).num ≤ 2147483646) (hops : s.ops ≤ 1152921504606846976) :
    Calls Try.prog 28 #[.pointer (some ⟨gj, 0, none⟩), .slice A n c] w
      (Stores w gj gf hf (appS s k r) (appE s k r) (jrC gf (curN s.ws k) (othN s.ws k) A0 An Ac (curV s.ws k).num (curV s.ws k).used (curC s.ws k) false)
        (fun h c => jrC gf (if fitB s.ws k r.length = true then curN s.ws k else othN s.ws k) (if fitB s.ws k r.length = true then othN s.ws k else curN s.ws k) (some ⟨h, 0, none⟩) r.length c ((curV s.ws k).num + 1) ((if fitB s.ws k r.length = true then (curV s.ws k).used else 0) + (r.length + 4)) true false) r) := by
  have hln := hr.len
  rw [cs32_len] at hln
  subst hln
  have hlen := len_pos f.ok
  have hk15 : k ≤ 14 := by omega
  have hus : (curV s.ws k).used ≤ 256 := by
    have h9 := walk_used (sect s.ws (curN s.ws k))
    have h8 : (sect s.ws (curN s.ws k)).length ≤ 256 := by unfold sect; simp; omega
    exact Nat.le_trans h9 h8
  have hci := cur_in s.ws k
  have hoi := oth_in s.ws k
  by_cases hfb : fitB s.ws k r.length = true
  · have hcl : curC s.ws k = true := by unfold fitB at hfb; simp at hfb; exact hfb.1
    have hfit : (curV s.ws k).used + (r.length + 4) ≤ 256 := by unfold fitB at hfb; simp at hfb; exact hfb.2
    have e1 : appS s k r = progsS s (256 * curN s.ws k + (curV s.ws k).used) (laidW ((curV s.ws k).num + 1) r) := if_pos hfb
    have e2 : appE s k r = progsE s (256 * curN s.ws k + (curV s.ws k).used) (laidW ((curV s.ws k).num + 1) r) := if_pos hfb
    rw [e1, e2, hcl]
    rw [hcl] at hb
    simp only [hfb, if_true]
    exact store_fit gj gf hf (curN s.ws k) (othN s.ws k) (curV s.ws k).num (curV s.ws k).used r.length c An Ac A A0 false r s w hb h1 h2 f hr hA (by rcases hci with h | h <;> omega) hn1 hn2 hnum hus hops hfit
  · have hf2 : (curC s.ws k && decide ((curV s.ws k).used + (r.length + 4) ≤ 256)) = false := by simpa [fitB] using hfb
    have e1 : appS s k r = if eraE s (othN s.ws k) = 0 then progsS (eraS s (othN s.ws k)) (256 * othN s.ws k) (laidW ((curV s.ws k).num + 1) r) else eraS s (othN s.ws k) := if_neg hfb
    have e2 : appE s k r = if eraE s (othN s.ws k) = 0 then progsE (eraS s (othN s.ws k)) (256 * othN s.ws k) (laidW ((curV s.ws k).num + 1) r) else eraE s (othN s.ws k) := if_neg hfb
    have hff : fitB s.ws k r.length = false := by simpa using hfb
    simp only [hff, Bool.false_eq_true, if_false, Nat.zero_add]
    exact store_not gj gf hf (curN s.ws k) (othN s.ws k) (curV s.ws k).num (curV s.ws k).used r.length c An Ac A A0 (curC s.ws k) false r s w hb h1 h2 f hr hA (by rcases hoi with h | h <;> omega) hn1 hn2 hnum hus hops hf2 _ _ e1 e2
theorem Append_any (gj hj gf hf k n c : Nat) (A : Option Addr) (r : List UInt32) (j : JS) (s : FS) (w : World) (h : Jr w gj hj gf k s.ws j) (h1 : gj ≠ gf) (h2 : gj ≠ hf) (h3 : hj ≠ gf) (h4 : hj ≠ hf) (f : Fl w gf hf s)
    (hr : Row w w.heap.size A n c (cs32 r)) (hA : ∀ a, A = some a → a.block ∉ [gj, gf, hf]) (hk : 256 * (k + 2) ≤ s.ws.length) (hops : s.ops ≤ 1152921504606846976) :
    Calls Try.prog 10 #[.pointer (some ⟨gj, 0, none⟩), .slice A n c] w (Apps w gj hj gf hf k (jS s k j r) (jE s k j r) (jJ s k j r)) := by
  obtain ⟨cur, oth, A0, An, Ac, used, cl, hb, ho, hAh, hl⟩ := h.ex
  have c0 : w.cell? ⟨gj, 0, none⟩ = some (.pointer (some ⟨gf, 0, none⟩)) := hb.cell (j := 0) rfl
  have c4 : w.cell? ⟨gj, 4, none⟩ = some (.int .u32 (j.num : Int)) := hb.cell (j := 4) rfl
  have c7 : w.cell? ⟨gj, 7, none⟩ = some (.bool j.dead) := hb.cell (j := 7) rfl
  have z7 := hb.frozen 7
  have hgood := h.good
  have hln := hr.len
  rw [cs32_len] at hln
  have dead : j.dead = true ∨ s.on = false → Calls Try.prog 10 #[.pointer (some ⟨gj, 0, none⟩), .slice A n c] w (Apps w gj hj gf hf k s 7 ⟨j.rcd, j.num, true⟩) := by
    intro hd
    have fin : Apps w gj hj gf hf k s 7 ⟨j.rcd, j.num, true⟩ (.returned (.int .i64 7)) (w.setCell ⟨gj, 7, none⟩ (.bool true)) := by
      have k9 : Keeps [gj] w (w.setCell ⟨gj, 7, none⟩ (.bool true)) := (Keeps.refl _ _).set (.inl (by simp)) _
      refine ⟨rfl, k9.fl f (by simp; exact fun e => h1 e.symm) (by simp; exact fun e => h2 e.symm), k9.more (by simp), hj, .inl rfl, ⟨hgood, h.ne, cur, oth, A0, An, Ac, used, cl, hb.set 7 (.bool true), k9.own ho (fun g e => by rw [hAh g e]; simp; exact fun e => h.ne e.symm), hAh, fun e => by cases e⟩⟩
    have FIN := hide fin
    have H := hide (And.intro h f)
    clear hl hAh ho hb fin hr hA hgood h
    by_cases hd1 : j.dead = true
    · rw [hd1] at c7
      clear hd hd1
      go_enter Try.func10, Try.ntmps10
      go_wp2_with (go_at_call 26; refine (jisNone_any gj gf _ c0).mono ?_; rintro e w1 ⟨rfl, rfl⟩)
      go_ret
      exact FIN.out
    · have hoff : s.on = false := by rcases hd with hd | hd; exact absurd hd hd1; exact hd
      have hdf : j.dead = false := by simpa using hd1
      rw [hdf] at c7
      have HO := hide hoff
      clear hd hd1 hoff hdf
      go_enter Try.func10, Try.ntmps10
      go_wp2_with (first
        | (go_at_call 26; refine (jisNone_any gj gf _ c0).mono ?_; rintro e w1 ⟨rfl, rfl⟩)
        | (go_at_call 27; refine (On_any gf hf s _ f).mono ?_; rintro e w1 ⟨rfl, rfl⟩; rw [HO.out]))
      go_ret
      exact FIN.out
  by_cases hd : j.dead = true ∨ s.on = false
  · have e1 : jS s k j r = s := if_pos hd
    have e2 : jE s k j r = 7 := if_pos hd
    have e3 : jJ s k j r = ⟨j.rcd, j.num, true⟩ := if_pos hd
    rw [e1, e2, e3]
    exact dead hd
  clear dead
  have hdf : j.dead = false := by rcases hq : j.dead with _ | _; rfl; exact absurd (.inl hq) hd
  have hon : s.on = true := by rcases hq : s.on with _ | _; exact absurd (.inr hq) hd; rfl
  rw [hdf] at c7
  have HO := hide hon
  by_cases hbig : bigB j r
  · have e1 : jS s k j r = s := by unfold jS; rw [if_neg hd, if_pos hbig]
    have e2 : jE s k j r = 3 := by unfold jE; rw [if_neg hd, if_pos hbig]
    have e3 : jJ s k j r = j := by unfold jJ; rw [if_neg hd, if_pos hbig]
    rw [e1, e2, e3]
    have FIN : Hid (Apps w gj hj gf hf k s 3 j (.returned (.int .i64 3)) w) := ⟨rfl, f, Keeps.refl _ _, hj, .inl rfl, h⟩
    have key : (((n : Int) == 0) = true) ∨ (((n : Int) == 0) = false ∧ decide ((64 : Int) < (n : Int)) = true) ∨ (((n : Int) == 0) = false ∧ decide ((64 : Int) < (n : Int)) = false ∧ ((j.num : Int) == 2147483647) = true) := by
      unfold bigB at hbig
      simp only [beq_iff_eq, beq_eq_false_iff_ne, decide_eq_true_eq, decide_eq_false_iff_not]
      omega
    clear hl hAh ho hb hr hA hgood h hbig hd hon e1 e2 e3 hln hdf
    rcases key with q1 | ⟨q1, q2⟩ | ⟨q1, q2, q3⟩
    all_goals
      go_enter Try.func10, Try.ntmps10
      go_wp2_with (first
        | (go_at_call 26; refine (jisNone_any gj gf _ c0).mono ?_; rintro e w1 ⟨rfl, rfl⟩)
        | (go_at_call 27; refine (On_any gf hf s _ f).mono ?_; rintro e w1 ⟨rfl, rfl⟩; rw [HO.out]))
      go_ret
      exact FIN.out
  · have e1 : jS s k j r = appS s k r := by unfold jS; rw [if_neg hd, if_neg hbig]
    have e2 : jE s k j r = appE s k r := by unfold jE; rw [if_neg hd, if_neg hbig]
    have e3 : jJ s k j r = if appE s k r = 0 then ⟨r, j.num + 1, false⟩ else ⟨j.rcd, j.num, true⟩ := by unfold jJ; rw [if_neg hd, if_neg hbig]
    obtain ⟨rfl, rfl, rfl, rfl, l5, l6⟩ := hl hdf
    unfold bigB at hbig
    have hj9 := hgood.le
    have hsp := app_spec s k r hon hk (by omega) (by omega) (by rw [← l5]; omega)
    rw [hdf] at hb
    have HS := hide (store_any gj gf hf k n c An Ac A A0 r s w (by rw [← l5]; exact hb) h1 h2 f hr hA hk (by omega) (by omega) (by omega) hops)
    rw [e1, e2, e3]
    obtain ⟨q, hq⟩ : ∃ q, q = appE s k r := ⟨_, rfl⟩
    rw [← hq] at HS ⊢
    have HQ := hide hq
    have HSP := hide hsp
    have HL := hide (And.intro l5 l6)
    have t1 : ((n : Int) == 0) = false := by rw [beq_eq_false_iff_ne]; omega
    have t2 : decide ((64 : Int) < (n : Int)) = false := by simp; omega
    have t3 : ((j.num : Int) == 2147483647) = false := by rw [beq_eq_false_iff_ne]; omega
    have HG := hide (And.intro h ho)
    have HX := hide (And.intro hAh hbig)
    have hgl := hb.lt
    clear hl hAh ho hb hr hA h hd hon e1 e2 e3 hln hdf hq hsp l5 l6 hbig hj9
    by_cases h0 : q = 0
    · subst h0
      go_enter Try.func10, Try.ntmps10
      go_wp2_with (first
        | (go_at_call 26; refine (jisNone_any gj gf _ c0).mono ?_; rintro e w1 ⟨rfl, rfl⟩)
        | (go_at_call 27; refine (On_any gf hf s _ f).mono ?_; rintro e w1 ⟨rfl, rfl⟩; rw [HO.out])
        | (go_at_call 28; refine HS.out.mono ?_; rintro e w4 ⟨rfl, f4, k4, h4⟩))
      go_ret
      rcases h4 with ⟨_, h', c', hh, ho', hb'⟩ | ⟨hne, _⟩
      · rcases HSP.out.2.2 with ⟨_, ok⟩ | ⟨hne, _⟩
        · refine ⟨rfl, f4, k4, h', .inr hh, ?_⟩
          have hr1 : 1 ≤ r.length ∧ r.length ≤ 64 := by have := HX.out.2; omega
          have hj9 := hgood.le
          refine ⟨.inr ⟨by show 1 ≤ j.num + 1; omega, by show j.num + 1 ≤ _; have := HX.out.2; omega, hr1.1, hr1.2⟩, by omega, curN (appS s k r).ws k, othN (appS s k r).ws k, some ⟨h', 0, none⟩, r.length, c', (curV (appS s k r).ws k).used, curC (appS s k r).ws k, ?_, ho', fun g e => by cases e; rfl, fun _ => ⟨rfl, rfl, rfl, rfl, ?_, ?_⟩⟩
          · show Blk w4 gj _ (jrC gf _ _ _ _ _ (j.num + 1) _ _ false)
            rw [ok.cur, ok.oth, ok.val, ok.clean, HL.out.1]
            exact hb'
          · show j.num + 1 = _
            rw [ok.val, HL.out.1]
          · show r = _
            rw [ok.val]
        · rw [← HQ.out] at hne; cases hne
      · exact absurd rfl hne
    · have d0 : (q != 0) = true := by rw [bne_iff_ne]; exact h0
      have H0 := hide h0
      clear h0
      go_enter Try.func10, Try.ntmps10
      go_wp2_with (first
        | (go_at_call 26; refine (jisNone_any gj gf _ c0).mono ?_; rintro e w1 ⟨rfl, rfl⟩)
        | (go_at_call 27; refine (On_any gf hf s _ f).mono ?_; rintro e w1 ⟨rfl, rfl⟩; rw [HO.out])
        | (go_at_call 28; refine HS.out.mono ?_; rintro e w4 ⟨rfl, f4, k4, h4⟩; have b4 : Blk w4 gj 66 (jrC gf (curN s.ws k) (othN s.ws k) A0 An Ac (curV s.ws k).num (curV s.ws k).used (curC s.ws k) false) := (by rcases h4 with ⟨q0, _⟩ | ⟨_, b4⟩; exact absurd q0 H0.out; exact b4); have y7 : w4.cell? ⟨gj, 7, none⟩ = some (.bool false) := b4.cell (j := 7) rfl; have z74 := b4.frozen 7; have HB4 := hide b4; clear b4 h4))
      go_ret
      have k9 : Keeps [gj] w4 (w4.setCell ⟨gj, 7, none⟩ (.bool true)) := (Keeps.refl _ _).set (.inl (by simp)) _
      refine ⟨rfl, k9.fl f4 (by simp; exact fun e => h1 e.symm) (by simp; exact fun e => h2 e.symm), k4.trans k9 (by simp), hj, .inl rfl, ⟨hgood, HG.out.1.ne, curN s.ws k, othN s.ws k, A0, An, Ac, (curV s.ws k).used, curC s.ws k, ?_, k9.own (k4.own HG.out.2 ?_) ?_, HX.out.1, fun e => by cases e⟩⟩
      · show Blk _ gj _ (jrC gf _ _ _ _ _ j.num _ _ true)
        rw [HL.out.1]
        exact HB4.out.set 7 (.bool true)
      · intro g e; rw [HX.out.1 g e]; simp; exact ⟨fun e => HG.out.1.ne e.symm, h3, h4⟩
      · intro g e; rw [HX.out.1 g e]; simp; exact fun e => HG.out.1.ne e.symm
end Go.Proofs.Ytahnfkoakaimhaa
