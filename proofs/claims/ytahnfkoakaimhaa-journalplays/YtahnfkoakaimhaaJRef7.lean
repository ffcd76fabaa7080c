/-
  Contracts of the reference of layer 7: Append, all cases.
-/
import Derived.Test.YtahnfkoakaimhaaJRef5
import Derived.Test.YtahnfkoakaimhaaJRef6
namespace Go.Proofs.Ytahnfkoakaimhaa
open Go.RowKit
set_option maxHeartbeats 2000000

/-- What an Append of the reference leaves. -/
def AppsR (w : World) (gj hj gf hf k : Nat) (s' : FS) (q : Int) (j' : JS) (e : Ending) (w' : World) : Prop :=
  e = .returned (.int .i64 q) ∧ Rf w' gf hf s' ∧ Keeps [gj, gf, hf] w w' ∧ ∃ hj', (hj' = hj ∨ w.heap.size ≤ hj') ∧ Rj w' gj hj' gf k s'.ws j'
set_option maxRecDepth 10000 in
theorem rAppend_any (gj hj gf hf k n c : Nat) (A : Option Addr) (r : List UInt32) (j : JS) (s : FS) (w : World) (h : Rj w gj hj gf k s.ws j) (h1 : gj ≠ gf) (h2 : gj ≠ hf) (h3 : hj ≠ gf) (h4 : hj ≠ hf) (f : Rf w gf hf s)
    (hr : Row w w.heap.size A n c (cs32 r)) (hA : 0 < n → ∀ a, A = some a → a.block ∉ [gj, gf, hf]) (hk : 256 * (k + 2) ≤ s.ws.length) (hops : s.ops ≤ 1152921504606846976) :
    Calls Try.prog 11 #[.pointer (some ⟨gj, 0, none⟩), .slice A n c] w (AppsR w gj hj gf hf k (jS s k j r) (jE s k j r) (jJ s k j r)) := by
  obtain ⟨A0, An, Ac, hb, ho, hAh, hl⟩ := h.ex
  have c0 : w.cell? ⟨gj, 0, none⟩ = some (.pointer (some ⟨gf, 0, none⟩)) := hb.cell (j := 0) rfl
  have c2 : w.cell? ⟨gj, 2, none⟩ = some (.bool j.dead) := hb.cell (j := 2) rfl
  have c4 : w.cell? ⟨gj, 4, none⟩ = some (.int .u32 (j.num : Int)) := hb.cell (j := 4) rfl
  have z2 := hb.frozen 2
  have co : w.cell? ⟨gf, 1, none⟩ = some (.bool (!s.on)) := by
    obtain ⟨c', m, _, hb', _⟩ := f.ex
    exact hb'.cell (j := 1) rfl
  have hgood := h.good
  have hln := hr.len
  rw [cs32_len] at hln
  have hgl := hb.lt
  have dead : j.dead = true ∨ s.on = false → Calls Try.prog 11 #[.pointer (some ⟨gj, 0, none⟩), .slice A n c] w (AppsR w gj hj gf hf k s 7 ⟨j.rcd, j.num, true⟩) := by
    intro hd
    have fin : AppsR w gj hj gf hf k s 7 ⟨j.rcd, j.num, true⟩ (.returned (.int .i64 7)) (w.setCell ⟨gj, 2, none⟩ (.bool true)) := by
      have k9 : Keeps [gj] w (w.setCell ⟨gj, 2, none⟩ (.bool true)) := (Keeps.refl _ _).set (.inl (by simp)) _
      exact ⟨rfl, k9.rf f (by simp; exact fun e => h1 e.symm) (by simp; exact fun e => h2 e.symm), k9.more (by simp), hj, .inl rfl, ⟨hgood, h.ne, A0, An, Ac, hb.set 2 (.bool true), k9.own ho (fun g e => by rw [hAh g e]; simp; exact fun e => h.ne e.symm), hAh, fun e => by cases e⟩⟩
    have FIN := hide fin
    clear hl hAh ho hb fin hr hA hgood h
    by_cases hd1 : j.dead = true
    · rw [hd1] at c2
      clear hd hd1 f
      go_enter Try.func11, Try.ntmps11
      go_wp2
      go_ret
      exact FIN.out
    · have hoff : s.on = false := by rcases hd with hd | hd; exact absurd hd hd1; exact hd
      have hdf : j.dead = false := by simpa using hd1
      rw [hdf] at c2
      rw [hoff] at co
      have co' : w.cell? ⟨gf, 1, none⟩ = some (.bool true) := co
      clear hd hd1 hoff hdf f co
      go_enter Try.func11, Try.ntmps11
      go_wp2
      go_ret
      exact FIN.out
  by_cases hd : j.dead = true ∨ s.on = false
  · have e1 : jS s k j r = s := if_pos hd
    have e2 : jE s k j r = 7 := if_pos hd
    have e3 : jJ s k j r = ⟨j.rcd, j.num, true⟩ := if_pos hd
    rw [e1, e2, e3]
    exact dead hd
  clear dead
  have hdf : j.dead = false := by rcases hq : j.dead with _ | _; rfl; exact absurd (.inl hq) hd
  have hon : s.on = true := by rcases hq : s.on with _ | _; exact absurd (.inr hq) hd; rfl
  by_cases hbig : bigB j r
  · have e1 : jS s k j r = s := by unfold jS; rw [if_neg hd, if_pos hbig]
    have e2 : jE s k j r = 3 := by unfold jE; rw [if_neg hd, if_pos hbig]
    have e3 : jJ s k j r = j := by unfold jJ; rw [if_neg hd, if_pos hbig]
    rw [e1, e2, e3]
    have FIN : Hid (AppsR w gj hj gf hf k s 3 j (.returned (.int .i64 3)) w) := ⟨rfl, f, Keeps.refl _ _, hj, .inl rfl, h⟩
    have key : (decide ((n : Int) < 1) = true) ∨ (decide ((n : Int) < 1) = false ∧ decide ((64 : Int) < (n : Int)) = true) ∨ (decide ((n : Int) < 1) = false ∧ decide ((64 : Int) < (n : Int)) = false ∧ decide ((2147483647 : Int) ≤ (j.num : Int)) = true) := by
      unfold bigB at hbig
      simp only [decide_eq_true_eq, decide_eq_false_iff_not]
      omega
    rw [hdf] at c2
    rw [hon] at co
    have co' : w.cell? ⟨gf, 1, none⟩ = some (.bool false) := co
    clear hl hAh ho hb hr hA hgood h hbig hd hon e1 e2 e3 hln hdf co f
    rcases key with q1 | ⟨q1, q2⟩ | ⟨q1, q2, q3⟩
    all_goals
      go_enter Try.func11, Try.ntmps11
      go_wp2
      go_ret
      exact FIN.out
  · have e1 : jS s k j r = appS s k r := by unfold jS; rw [if_neg hd, if_neg hbig]
    have e2 : jE s k j r = appE s k r := by unfold jE; rw [if_neg hd, if_neg hbig]
    have e3 : jJ s k j r = if appE s k r = 0 then ⟨r, j.num + 1, false⟩ else ⟨j.rcd, j.num, true⟩ := by unfold jJ; rw [if_neg hd, if_neg hbig]
    obtain ⟨l5, l6⟩ := hl hdf
    unfold bigB at hbig
    have hj9 := hgood.le
    have hsp := app_spec s k r hon hk (by omega) (by omega) (by rw [← l5]; omega)
    rw [hdf] at hb
    rw [e1, e2, e3]
    have core : Calls Try.prog 11 #[.pointer (some ⟨gj, 0, none⟩), .slice A n c] w (RApp w gj gf hf k s r A0 An Ac j.num) := by
      by_cases hs : (walkW (sect s.ws k)).num < (walkW (sect s.ws (k + 1))).num
      · exact rApp_hi gj gf hf k n c An Ac j.num A A0 r s w hb h1 h2 f hon hr (hA (by omega)) hk (by omega) (by omega) (hide l5) (by omega) hops (hide hs)
      · exact rApp_lo gj gf hf k n c An Ac j.num A A0 r s w hb h1 h2 f hon hr (hA (by omega)) hk (by omega) (by omega) (hide l5) (by omega) hops (hide hs)
    refine core.mono ?_
    rintro e w' ⟨rfl, f', k', hor⟩
    refine ⟨rfl, f', k', ?_⟩
    rcases hor with ⟨h0, A1, c1, b1, o1⟩ | ⟨h7, b1⟩
    · rw [if_pos h0]
      obtain ⟨hj', ha, hle⟩ := own_at o1
      refine ⟨hj', .inr hle, .inr ⟨by show 1 ≤ j.num + 1; omega, by show j.num + 1 ≤ _; omega, by show 1 ≤ r.length; omega, by show r.length ≤ 64; omega⟩, by omega, A1, r.length, c1, b1, own_base (Nat.zero_le _) o1, ha, fun _ => ?_⟩
      rcases hsp.2.2 with ⟨_, hok⟩ | ⟨h9, _⟩
      · rw [hok.val]; exact ⟨by show j.num + 1 = _; rw [l5], rfl⟩
      · rw [h0] at h9; cases h9
    · rw [if_neg (by rw [h7]; decide)]
      refine ⟨hj, .inl rfl, hgood, h.ne, A0, An, Ac, b1, k'.own ho (fun g e => by rw [hAh g e]; simp; exact ⟨fun e => h.ne e.symm, h3, h4⟩), hAh, fun e => by cases e⟩
end Go.Proofs.Ytahnfkoakaimhaa
