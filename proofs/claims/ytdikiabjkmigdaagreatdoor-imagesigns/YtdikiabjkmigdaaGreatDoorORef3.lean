/-
  Contracts of the reference of layer 2 (midstreamref02): GetRun, Words, Bytes, Signed, Plain.
-/
import Derived.Test.YtdikiabjkmigdaaGreatDoorORef2
namespace Go.Proofs.YtdikiabjkmigdaaGreatDoor
set_option maxRecDepth 20000
open Go.RowKit
set_option maxHeartbeats 400000

theorem runN_two (l : List UInt8) (a : Nat) (h : a + 2 ≤ l.length) : runN l a = l[a].toNat + 256 * l[a + 1].toNat := by
  unfold runN
  rw [drop_step l a (by omega), drop_step l (a + 1) (by omega), List.take_succ_cons, List.take_succ_cons, List.take_zero, leN, leN, leN]
  rfl
theorem below_drewN (B : Nat) (w : World) (k : Nat) : Below B w (w.drewN k) := ⟨rfl, rfl, rfl, Nat.le_refl _, fun _ _ => rfl⟩
theorem Row.drewN {w : World} {B n c : Nat} {A : Option Addr} {xs : List Value} (h : Row w B A n c xs) (k : Nat) : Row (w.drewN k) B A n c xs := h.keep (below_drewN B w k) (Nat.le_refl _)
theorem Gives3.none_at {w w' : World} {r : List UInt8} {to er k : Int} (hr : r = []) (ht : to = 0) (he : er = k) (hb : Below w.heap.size w w') : Gives3 w r to er (.returned (.tuple #[.slice none 0 0, .int .i64 0, .int .i64 k])) w' := by
  subst hr; subst he; subst ht
  exact ⟨none, 0, 0, rfl, World.ownsRow_nil _ _ _ _, hb⟩
theorem rGetRun_any (B : Nat) (A : Option Addr) (n c : Nat) (l : List UInt8) (a : Int) (w : World) (hr : Row w B A n c (cs8 l)) (hB : B ≤ w.heap.size) (hl : n ≤ 1099511627776) :
    Calls Tryz.prog 64 #[.slice A n c, .int .i64 a] w (Gives3 w (grL l a) (grT l a) (grE l a)) := by
  have hn := hr.len
  rw [cs8_len] at hn
  subst hn
  by_cases ha : 0 ≤ a ∧ a ≤ l.length
  · obtain ⟨a, rfl⟩ : ∃ k : Nat, a = (k : Int) := ⟨a.toNat, by omega⟩
    have ha1 : a ≤ l.length := by omega
    clear ha
    have d1 : decide ((a : Int) < 0) = false := by simp
    have d2 : decide ((l.length : Int) < (a : Int)) = false := by simp; omega
    by_cases h2 : a + 2 ≤ l.length
    · have h20 : a < l.length := by omega
      have h21 : a + 1 < l.length := by omega
      obtain ⟨b, o, u, rfl, hbB, hu, hc0⟩ := hr.get h20
      rw [cs8_at h20] at hu
      obtain rfl := Option.some.inj hu
      clear hu
      have hc1 : w.cell? ⟨b, o + (a + 1), none⟩ = some (.int .u8 (l[a + 1].toNat : Int)) := by
        obtain ⟨b', o', u', e', _, hu', hc'⟩ := hr.get h21
        obtain ⟨rfl, rfl⟩ : b = b' ∧ o = o' := by simpa using e'
        rw [cs8_at h21] at hu'
        obtain rfl := Option.some.inj hu'
        exact hc'
      have HN := hide (runN_two l a h2)
      have hN := runN_le l a
      have x0 := l[a].toNat_lt
      have x1 := l[a + 1].toNat_lt
      have i0 : (a : Int) < (l.length : Int) := by omega
      have i1 : (a : Int) + 1 < (l.length : Int) := by omega
      have HS : Hid ((l[a].toNat : Int) + 256 * (l[a + 1].toNat : Int) = (runN l a : Int)) := by
        show _ = _; rw [HN.out]; omega
      by_cases h3 : a + 2 + runN l a ≤ l.length
      · obtain ⟨A9, c9, hsl, hr9⟩ := hr.sliced Tryz.underlying29 size8 (lo := a + 2) (hi := a + 2 + runN l a) (by omega) h3 ((a : Int) + 2) ((a : Int) + 2 + (runN l a : Int)) (by omega) (by omega)
        rw [cs8_cut, Nat.add_sub_cancel_left] at hr9
        rw [Nat.add_sub_cancel_left] at hsl
        have HSL := hide hsl
        clear hsl
        have HE := hide (grE_ok h3)
        go_enter Tryz.func64, Tryz.ntmps64
        go_wp2
        go_quiet (fail)
        have hS := HS.out
        have hsl := HSL.out (w.drewN nq)
        go_wp2_with (go_at_call 97; refine (join_any B _ _ _ [] _ _ _ _ _ Row.none_ (hr9.drewN nq) hB (by omega) (by omega)).mono ?_; rintro e w1 ⟨A1, n1, c1, rfl, ho1, hb1⟩)
        go_ret3
        rw [grL_ok HE.out]
        exact Gives3.of (grT_ok HE.out) HE.out ho1 ((below_drewN _ _ _).trans hb1)
      · have HE := hide (grE_short ha1 h3)
        go_enter Tryz.func64, Tryz.ntmps64
        go_wp2
        go_quiet (fail)
        have hS := HS.out
        go_wp2
        go_ret3
        exact Gives3.none_at (grL_bad (by rw [HE.out]; decide)) (grT_bad (by rw [HE.out]; decide)) HE.out (below_drewN _ _ _)
    · have HE := hide (grE_short ha1 (by omega))
      go_enter Tryz.func64, Tryz.ntmps64
      go_wp2
      go_ret3
      exact Gives3.none_ (grL_bad (by rw [HE.out]; decide)) (grT_bad (by rw [HE.out]; decide)) HE.out
  · have HE := hide (grE_out ha)
    by_cases h1 : a < 0
    · have d1 : decide (a < 0) = true := by simpa using h1
      go_enter Tryz.func64, Tryz.ntmps64
      go_wp2
      go_ret3
      exact Gives3.none_ (grL_bad (by rw [HE.out]; decide)) (grT_bad (by rw [HE.out]; decide)) HE.out
    · have d1 : decide (a < 0) = false := by simpa using h1
      have d2 : decide ((l.length : Int) < a) = true := by simp; omega
      go_enter Tryz.func64, Tryz.ntmps64
      go_wp2
      go_ret3
      exact Gives3.none_ (grL_bad (by rw [HE.out]; decide)) (grT_bad (by rw [HE.out]; decide)) HE.out
theorem pad4_len (l : List UInt8) (j : Nat) : (pad4 (grp l j)).length = 4 := by simp [pad4, grp]; omega
theorem pad4_in (l : List UInt8) (j m : Nat) (hm : m < 4) (h : 4 * j + m < l.length) : (pad4 (grp l j)).drop m = l[4 * j + m] :: (pad4 (grp l j)).drop (m + 1) := by
  rw [drop_step _ m (by rw [pad4_len]; exact hm)]
  congr 1
  unfold pad4 grp
  rw [List.getElem_append_left (by simp; omega), List.getElem_take, List.getElem_drop]
theorem pad4_out (l : List UInt8) (j m : Nat) (hm : m < 4) (h : ¬ 4 * j + m < l.length) : (pad4 (grp l j)).drop m = 255 :: (pad4 (grp l j)).drop (m + 1) := by
  rw [drop_step _ m (by rw [pad4_len]; exact hm)]
  congr 1
  unfold pad4 grp
  rw [List.getElem_append_right (by simp; omega), List.getElem_replicate]
theorem leN_le3 (l : List UInt8) (h : l.length ≤ 3) : leN l ≤ 16777215 := by
  have h1 := leN_lt l
  have h2 : (256 : Nat) ^ l.length ≤ 256 ^ 3 := Nat.pow_le_pow_right (by omega) h
  omega
theorem leN_le4 (l : List UInt8) (h : l.length ≤ 4) : leN l ≤ 4294967295 := by
  have h1 := leN_lt l
  have h2 : (256 : Nat) ^ l.length ≤ 256 ^ 4 := Nat.pow_le_pow_right (by omega) h
  omega
theorem words_next (l : List UInt8) (j x : Nat) (hx : x = leN ((pad4 (grp l j)).drop 0)) : cs32 (wordsK l (j + 1)) = cs32 (wordsK l j) ++ [.int .u32 (x : Int)] := by
  have h4 := leN_le4 (pad4 (grp l j)) (by rw [pad4_len]; omega)
  rw [List.drop_zero] at hx
  rw [wordsK_succ, cs32_snoc, ← word_cell, hx]
  congr 3
  omega
end Go.Proofs.YtdikiabjkmigdaaGreatDoor
