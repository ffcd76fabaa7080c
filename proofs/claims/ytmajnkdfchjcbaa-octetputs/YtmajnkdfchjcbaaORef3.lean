/-
  Contracts of the reference of layer 2 (midstreamref02): GetRun, Words, Bytes, Signed, Plain.
-/
import Derived.Test.YtmajnkdfchjcbaaORef2
namespace Go.Proofs.Ytmajnkdfchjcbaa
open Go.RowKit
set_option maxHeartbeats 400000

theorem runN_two (l : List UInt8) (a : Nat) (h : a + 2 ≤ l.length) : runN l a = l[a].toNat + 256 * l[a + 1].toNat := by
  unfold runN
  rw [drop_step l a (by omega), drop_step l (a + 1) (by omega), List.take_succ_cons, List.take_succ_cons, List.take_zero, leN, leN, leN]
  rfl
theorem below_drewN (B : Nat) (w : World) (k : Nat) : Below B w (w.drewN k) := ⟨rfl, rfl, rfl, Nat.le_refl _, fun _ _ => rfl⟩
theorem Row.drewN {w : World} {B n c : Nat} {A : Option Addr} {xs : List Value} (h : Row w B A n c xs) (k : Nat) : Row (w.drewN k) B A n c xs := h.keep (below_drewN B w k) (Nat.le_refl _)
theorem Gives3.none_at {w w' : World} {r : List UInt8} {to er k : Int} (hr : r = []) (ht : to = 0) (he : er = k) (hb : Below w.heap.size w w') : Gives3 w r to er (.returned (.tuple #[.slice none 0 0, .int .i64 0, .int .i64 k])) w' := by
  subst hr; subst he; subst ht
  exact ⟨none, 0, 0, rfl, World.ownsRow_nil _ _ _ _, hb⟩
theorem rGetRun_any (B : Nat) (A : Option Addr) (n c : Nat) (l : List UInt8) (a : Int) (w : World) (hr : Row w B A n c (cs8 l)) (hB : B ≤ w.heap.size) (hl : n ≤ 1099511627776) :
    Calls Try.prog 21 #[.slice A n c, .int .i64 a] w (Gives3 w (grL l a) (grT l a) (grE l a)) := by
  have hn := hr.len
  rw [cs8_len] at hn
  subst hn
  by_cases ha : 0 ≤ a ∧ a ≤ l.length
  · obtain ⟨a, rfl⟩ : ∃ k : Nat, a = (k : Int) := ⟨a.toNat, by omega⟩
    have ha1 : a ≤ l.length := by omega
    clear ha
    have d1 : decide ((a : Int) < 0) = false := by simp
    have d2 : decide ((l.length : Int) < (a : Int)) = false := by simp; omega
    by_cases h2 : a + 2 ≤ l.length
    · have h20 : a < l.length := by omega
      have h21 : a + 1 < l.length := by omega
      obtain ⟨b, o, u, rfl, hbB, hu, hc0⟩ := hr.get h20
      rw [cs8_at h20] at hu
      obtain rfl := Option.some.inj hu
      clear hu
      have hc1 : w.cell? ⟨b, o + (a + 1), none⟩ = some (.int .u8 (l[a + 1].toNat : Int)) := by
        obtain ⟨b', o', u', e', _, hu', hc'⟩ := hr.get h21
        obtain ⟨rfl, rfl⟩ : b = b' ∧ o = o' := by simpa using e'
        rw [cs8_at h21] at hu'
        obtain rfl := Option.some.inj hu'
        exact hc'
      have HN := hide (runN_two l a h2)
      have hN := runN_le l a
      have x0 := l[a].toNat_lt
      have x1 := l[a + 1].toNat_lt
      have i0 : (a : Int) < (l.length : Int) := by omega
      have i1 : (a : Int) + 1 < (l.length : Int) := by omega
      have HS : Hid ((l[a].toNat : Int) + 256 * (l[a + 1].toNat : Int) = (runN l a : Int)) := by
        show _ = _; rw [HN.out]; omega
      by_cases h3 : a + 2 + runN l a ≤ l.length
      · obtain ⟨A9, c9, hsl, hr9⟩ := hr.sliced Try.underlying22 size8 (lo := a + 2) (hi := a + 2 + runN l a) (by omega) h3 ((a : Int) + 2) ((a : Int) + 2 + (runN l a : Int)) (by omega) (by omega)
        rw [cs8_cut, Nat.add_sub_cancel_left] at hr9
        rw [Nat.add_sub_cancel_left] at hsl
        have HSL := hide hsl
        clear hsl
        have HE := hide (grE_ok h3)
        go_enter Try.func21, Try.ntmps21
        go_wp2
        go_quiet (fail)
        have hS := HS.out
        have hsl := HSL.out (w.drewN nq)
        go_wp2_with (go_at_call 35; refine (join_any B _ _ _ [] _ _ _ _ _ Row.none_ (hr9.drewN nq) hB (by omega) (by omega)).mono ?_; rintro e w1 ⟨A1, n1, c1, rfl, ho1, hb1⟩)
        go_ret3
        rw [grL_ok HE.out]
        exact Gives3.of (grT_ok HE.out) HE.out ho1 ((below_drewN _ _ _).trans hb1)
      · have HE := hide (grE_short ha1 h3)
        go_enter Try.func21, Try.ntmps21
        go_wp2
        go_quiet (fail)
        have hS := HS.out
        go_wp2
        go_ret3
        exact Gives3.none_at (grL_bad (by rw [HE.out]; decide)) (grT_bad (by rw [HE.out]; decide)) HE.out (below_drewN _ _ _)
    · have HE := hide (grE_short ha1 (by omega))
      go_enter Try.func21, Try.ntmps21
      go_wp2
      go_ret3
      exact Gives3.none_ (grL_bad (by rw [HE.out]; decide)) (grT_bad (by rw [HE.out]; decide)) HE.out
  · have HE := hide (grE_out ha)
    by_cases h1 : a < 0
    · have d1 : decide (a < 0) = true := by simpa using h1
      go_enter Try.func21, Try.ntmps21
      go_wp2
      go_ret3
      exact Gives3.none_ (grL_bad (by rw [HE.out]; decide)) (grT_bad (by rw [HE.out]; decide)) HE.out
    · have d1 : decide (a < 0) = false := by simpa using h1
      have d2 : decide ((l.length : Int) < a) = true := by simp; omega
      go_enter Try.func21, Try.ntmps21
      go_wp2
      go_ret3
      exact Gives3.none_ (grL_bad (by rw [HE.out]; decide)) (grT_bad (by rw [HE.out]; decide)) HE.out
theorem pad4_len (l : List UInt8) (j : Nat) : (pad4 (grp l j)).length = 4 := by simp [pad4, grp]; omega
theorem pad4_in (l : List UInt8) (j m : Nat) (hm : m < 4) (h : 4 * j + m < l.length) : (pad4 (grp l j)).drop m = l[4 * j + m] :: (pad4 (grp l j)).drop (m + 1) := by
  rw [drop_step _ m (by rw [pad4_len]; exact hm)]
  congr 1
  unfold pad4 grp
  rw [List.getElem_append_left (by simp; omega), List.getElem_take, List.getElem_drop]
theorem pad4_out (l : List UInt8) (j m : Nat) (hm : m < 4) (h : ¬ 4 * j + m < l.length) : (pad4 (grp l j)).drop m = 255 :: (pad4 (grp l j)).drop (m + 1) := by
  rw [drop_step _ m (by rw [pad4_len]; exact hm)]
  congr 1
  unfold pad4 grp
  rw [List.getElem_append_right (by simp; omega), List.getElem_replicate]
theorem leN_le3 (l : List UInt8) (h : l.length ≤ 3) : leN l ≤ 16777215 := by
  have h1 := leN_lt l
  have h2 : (256 : Nat) ^ l.length ≤ 256 ^ 3 := Nat.pow_le_pow_right (by omega) h
  omega
theorem leN_le4 (l : List UInt8) (h : l.length ≤ 4) : leN l ≤ 4294967295 := by
  have h1 := leN_lt l
  have h2 : (256 : Nat) ^ l.length ≤ 256 ^ 4 := Nat.pow_le_pow_right (by omega) h
  omega
theorem words_next (l : List UInt8) (j x : Nat) (hx : x = leN ((pad4 (grp l j)).drop 0)) : cs32 (wordsK l (j + 1)) = cs32 (wordsK l j) ++ [.int .u32 (x : Int)] := by
  have h4 := leN_le4 (pad4 (grp l j)) (by rw [pad4_len]; omega)
  rw [List.drop_zero] at hx
  rw [wordsK_succ, cs32_snoc, ← word_cell, hx]
  congr 3
  omega
theorem rWords_any (B : Nat) (A : Option Addr) (n c : Nat) (l : List UInt8) (w : World) (hr : Row w B A n c (cs8 l)) (hB : B ≤ w.heap.size) (hl : n ≤ 1099511627776) :
    Calls Try.prog 24 #[.slice A n c] w (Gives32 w (wordsL l)) := by
  obtain ⟨i0, hi, hz0, hz1, hz2⟩ := info_parts info32
  have hn := hr.len
  rw [cs8_len] at hn
  subst hn
  go_enter Try.func24, Try.ntmps24
  go_wp2
  go_loopw [3, 4] (fun s i wr => ∃ (j : Nat) (A' : Option Addr) (c' : Nat), j ≤ (l.length + 3) / 4 ∧ i = .int .i64 (4 * (j : Int)) ∧ s = .slice A' j c' ∧ wr.ownsRow w.heap.size 43 1 (.slice A' j c') j (cs32 (wordsK l j)) ∧ Below w.heap.size w wr) (fun _ i _ => (l.length + 4) - (intOf i).toNat)
  case atStart => exact ⟨0, _, _, Nat.zero_le _, rfl, rfl, World.ownsRow_nil _ _ _ _, Below.refl _ _⟩
  case round =>
    obtain ⟨j, A', c', hj, rfl, rfl, ho, hb⟩ := hrel
    have hbs := hb.size
    by_cases hlt : 4 * j < l.length
    · go_wp2
      go_loop [5, 6] (fun s i => ∃ m x : Nat, m ≤ 4 ∧ i = .int .i64 ((m : Int) - 1) ∧ Hid (x = leN ((pad4 (grp l j)).drop m)) ∧ s = .int .u32 (x : Int)) (fun _ i => (intOf i + 1).toNat)
      case atStart => exact ⟨4, 0, Nat.le_refl _, rfl, by show 0 = leN _; rw [List.drop_of_length_le (by rw [pad4_len]; omega)]; rfl, rfl⟩
      case round =>
        obtain ⟨m, x, hm, hi', HX, rfl⟩ := hrel
        rcases m with _ | m
        · obtain rfl : u6 = .int .i64 (-1) := by rw [hi']; rfl
          clear hi'
          have HE := hide (words_next l j x HX.out)
          go_wp2_with (at_builtin; refine wpList_append_row rfl (.tmp 35) (.tmp 37) 39 rfl w.heap.size 43 i0 _ 4 Try.underlying39 hi hz0 hz1 hz2 rfl _ _ _ rfl (ho.alloc _) _ _ _ _ _ rfl (Row.one _ _ _) (one_u32 _) (by unfold maxLen; omega) (by omega) w (hb.alloc (by omega) _) (Nat.le_refl _) ?_; intro A2 c2 w2 ho2 hb2 hg2)
          go_roundw
          case rel => exact ⟨j + 1, A2, c2, by omega, by go_num, rfl, by rw [HE.out]; exact ho2, hb2⟩
          case measure => simp [intOf]; omega
        · obtain rfl : u6 = .int .i64 (m : Int) := by rw [hi']; go_num
          clear hi'
          have hxb : x ≤ 16777215 := by rw [HX.out]; exact leN_le3 _ (by rw [List.length_drop, pad4_len]; omega)
          by_cases hin : 4 * j + m < l.length
          · obtain ⟨b, o, u, rfl, _, hu, hcell⟩ := (hr.keep hb hB).get hin
            rw [cs8_at hin] at hu
            obtain rfl := Option.some.inj hu
            have HE := hide (pad4_in l j m (by omega) hin)
            have hc2 := l[4 * j + m].toNat_lt
            clear hu
            go_wp2
            go_round
            case rel => exact ⟨m, l[4 * j + m].toNat + 256 * x, by omega, rfl, by show _ = leN _; rw [HE.out, leN, HX.out], by go_num⟩
            case measure => simp [intOf]
          · have HE := hide (pad4_out l j m (by omega) hin)
            go_wp2
            go_round
            case rel => exact ⟨m, 255 + 256 * x, by omega, rfl, by show _ = leN _; rw [HE.out, leN, HX.out]; rfl, by go_num⟩
            case measure => simp [intOf]
    · obtain rfl : j = (l.length + 3) / 4 := by omega
      go_wp2
      go_ret
      exact ⟨A', _, c', rfl, ho, hb⟩
end Go.Proofs.Ytmajnkdfchjcbaa
