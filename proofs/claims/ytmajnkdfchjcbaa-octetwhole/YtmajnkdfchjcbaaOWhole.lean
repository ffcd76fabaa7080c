/-
  The statement OctetWhole: the call returns true and changes nothing that was there.
-/
import Derived.Test.YtmajnkdfchjcbaaORuns
namespace Go.Proofs.Ytmajnkdfchjcbaa
open Go.RowKit
set_option maxHeartbeats 800000

theorem word_back (g : List UInt8) (h : g.length = 4) : leB 4 (word (leN g)).toNat = g := by
  have h1 := leN_le4 g (by omega)
  rw [word_toNat, Nat.mod_eq_of_lt (by omega)]
  have := leB_leN g
  rwa [h] at this
theorem bytes_wordsK (l : List UInt8) (k : Nat) (hk : k ≤ (l.length + 3) / 4) : bytesL (wordsK l k) = l.take (4 * k) ++ List.replicate (4 * k - l.length) 255 := by
  induction k with
  | zero => simp [wordsK, bytesL]
  | succ k ih =>
    rw [wordsK_succ, bytesL_snoc, ih (by omega), word_back _ (pad4_len l k), show 4 * k - l.length = 0 by omega, List.replicate_zero, List.append_nil]
    unfold pad4 grp
    rw [← List.append_assoc, show 4 * (k + 1) = 4 * k + 4 by omega, List.take_add]
    congr 2
    simp
    omega
theorem bytes_words (l : List UInt8) : ∃ p, p ≤ 3 ∧ (l.length + p) % 4 = 0 ∧ bytesL (wordsL l) = l ++ List.replicate p 255 := by
  refine ⟨4 * ((l.length + 3) / 4) - l.length, by omega, by omega, ?_⟩
  unfold wordsL
  rw [bytes_wordsK l _ (Nat.le_refl _), List.take_of_length_le (by omega)]
theorem bytes_drop (ws : List UInt32) (i : Nat) (h : i ≤ ws.length) : (bytesL ws).drop (4 * i) = bytesL (ws.drop i) := by
  have e : bytesL ws = bytesL (ws.take i) ++ bytesL (ws.drop i) := by
    rw [bytesL, bytesL, bytesL, ← List.flatMap_append, List.take_append_drop]
  rw [e]
  exact List.drop_left' (by rw [bytesL_len, List.length_take, Nat.min_eq_left h])
theorem words_bytes (ws : List UInt32) : wordsL (bytesL ws) = ws := by
  unfold wordsL
  rw [bytesL_len, show (4 * ws.length + 3) / 4 = ws.length by omega]
  apply List.ext_getElem
  · rw [wordsK_len]
  · intro i h1 h2
    have hg : grp (bytesL ws) i = leB 4 ws[i].toNat := by
      unfold grp
      rw [bytes_drop ws i (by omega), drop_step ws i h2, bytesL, List.flatMap_cons]
      exact List.take_left' (leB_len _ _)
    have hw := ws[i].toNat_lt
    simp only [wordsK, List.getElem_map, List.getElem_range]
    rw [hg]
    unfold pad4
    rw [leB_len, show 4 - 4 = 0 from rfl, List.replicate_zero, List.append_nil, leN_leB, Nat.mod_eq_of_lt (by omega), word_of]
theorem bytes_words_len {l : List UInt8} {p : Nat} (h : bytesL (wordsL l) = l ++ List.replicate p 255) : (bytesL (wordsL l)).length = l.length + p := by rw [h]; simp
theorem whole_walk (A : Option Addr) (n c : Nat) (l : List UInt8) (A' : Option Addr) (n' c' : Nat) (ws : List UInt32) (w : World) (hr : Row w w.heap.size A n c (cs8 l)) (hx : Row w w.heap.size A' n' c' (cs32 ws)) :
    Calls Try.prog 9 #[.slice A n c, .slice A' n' c'] w fun e w' => e = .returned (.bool true) ∧ Below w.heap.size w w' := by
  by_cases hbig : 65536 < n
  · have hd : decide ((65536 : Int) < (n : Int)) = true := by simp; omega
    go_enter Try.func9, Try.ntmps9
    go_wp2_with (go_at_call 10; refine (known_any _).mono ?_; rintro e w1 ⟨rfl, hb1⟩)
    go_ret
    exact ⟨rfl, hb1⟩
  have hd : decide ((65536 : Int) < (n : Int)) = false := by simp; omega
  by_cases hbig' : 65536 < n'
  · have hd : decide ((65536 : Int) < (n' : Int)) = true := by simp; omega
    go_enter Try.func9, Try.ntmps9
    go_wp2_with (go_at_call 10; refine (known_any _).mono ?_; rintro e w1 ⟨rfl, hb1⟩)
    go_ret
    exact ⟨rfl, hb1⟩
  have hd' : decide ((65536 : Int) < (n' : Int)) = false := by simp; omega
  have HN : Hid (l.length = n) := by have := hr.len; rw [cs8_len] at this; exact this
  obtain ⟨p, hp, hm4, HB⟩ : ∃ p, p ≤ 3 ∧ (l.length + p) % 4 = 0 ∧ Hid (bytesL (wordsL l) = l ++ List.replicate p 255) := bytes_words l
  rw [HN.out] at hm4
  have HM := hide hm4
  clear hm4
  go_enter Try.func9, Try.ntmps9
  go_wp2_with fail
  refine (Words_any w.heap.size _ _ _ l w hr (Nat.le_refl _) (by omega)).mono ?_
  rintro e w1 ⟨A1, n1, c1, rfl, ho1, hb1⟩
  have hs1 := hb1.size
  have hn1 : n1 ≤ 137438953472 := by have h1 := own32_len ho1; unfold wordsL at h1; rw [wordsK_len, HN.out] at h1; omega
  go_wp2_with fail
  refine (Bytes_any w1.heap.size _ _ _ (wordsL l) w1 (Row.of_own ho1) (Nat.le_refl _) hn1).mono ?_
  rw [HB.out]
  rintro e w2 ⟨A2, n2, c2, rfl, ho2, hb2⟩
  have hs2 := hb2.size
  obtain rfl : n2 = n + p := by have h1 := own8_len ho2; simp at h1; have h2 := HN.out; omega
  have hb02 : Below w.heap.size w w2 := hb1.trans (hb2.mono hs1)
  obtain ⟨A9, c9, hsl, hr9⟩ := (Row.of_own ho2).headed Try.underlying22 size8 (hi := n) (by omega) (n : Int) rfl
  rw [cs8_app, List.take_left' (by rw [cs8_len]; exact HN.out)] at hr9
  have q9 := fun t => (hr9.drewN t).str8
  have qb := fun t => ((hr.keep hb02 (Nat.le_refl _)).drewN t).str8
  have hm4 : ((n : Int) + (p : Int)) % 4 = 0 := by have := HM.out; omega
  have d1 : decide ((n : Int) + (p : Int) < (n : Int)) = false := by simp; omega
  have d2 : decide ((n : Int) + 3 < (n : Int) + (p : Int)) = false := by simp; omega
  have d3 : IntKind.i64.wrap ((n : Int) + 3) = (n : Int) + 3 := IntWalk.i64_in _ (by omega)
  have d5 : decide ((3 : Int) < (p : Int)) = false := by simp; omega
  have d4 : ((n : Int) + (p : Int)).tmod 4 = 0 := by rw [Int.tmod_eq_emod_of_nonneg (by omega)]; exact hm4
  go_wp2_with fail
  go_quiet (fail)
  clear q9 qb hsl hr9 hm4 d1 d2 d3 d4 d5
  have hbd : Below w.heap.size w (w2.drewN nq) := hb02.trans (below_drewN _ _ _)
  have hod := own_keep ho2 (below_drewN _ _ nq)
  generalize w2.drewN nq = w3 at hbd hod ⊢
  have hs3 := hbd.size
  go_wp2_with fail
  go_loop [6] (fun i => ∃ j : Nat, n ≤ j ∧ j ≤ n + p ∧ i = .int .i64 (j : Int)) (fun i => n + p - (intOf i).toNat)
  case atStart => exact ⟨n, by omega, by omega, rfl⟩
  case round =>
    obtain ⟨j, hj1, hj2, rfl⟩ := hrel
    by_cases hlt : j < n + p
    · obtain ⟨b, o, u, rfl, _, hu, hcell⟩ := (Row.of_own hod).get hlt
      have hu : u = .int .u8 255 := by
        rw [cs8_app, List.getElem?_append_right (by rw [cs8_len, HN.out]; exact hj1), cs8_len, HN.out] at hu
        unfold cs8 at hu
        rw [List.map_replicate, List.getElem?_replicate, if_pos (by omega)] at hu
        exact (Option.some.inj hu).symm
      subst hu
      go_wp2
      go_round
      case rel => exact ⟨j + 1, by omega, by omega, by go_num⟩
      case measure => simp [intOf]; omega
    · obtain rfl : j = n + p := by omega
      go_wp2_with fail
      refine (Bytes_any w.heap.size _ _ _ ws w3 (hx.keep hbd (Nat.le_refl _)) hs3 (by omega)).mono ?_
      rintro e w4 ⟨A4, n4, c4, rfl, ho4, hb4⟩
      have hs4 := hb4.size
      have hn4 : n4 ≤ 1099511627776 := by have h1 := own8_len ho4; rw [bytesL_len] at h1; have h2 := hx.len; rw [cs32_len] at h2; omega
      go_wp2_with fail
      refine (Words_any w4.heap.size _ _ _ (bytesL ws) w4 (Row.of_own ho4) (Nat.le_refl _) hn4).mono ?_
      rw [words_bytes]
      rintro e w5 ⟨A5, n5, c5, rfl, ho5, hb5⟩
      have hs5 := hb5.size
      have hb05 : Below w.heap.size w w5 := (hbd.trans (hb4.mono hs3)).trans (hb5.mono (by omega))
      go_wp2_with fail
      refine (Same_any w5.heap.size w.heap.size _ _ _ _ _ _ ws _ (Row.of_own ho5) (hx.keep hb05 (Nat.le_refl _))).mono ?_
      rintro e w6 ⟨k6, rfl, rfl⟩
      go_wp2_with (go_at_call 10; refine (known_any _).mono ?_; rintro e w7 ⟨rfl, hb7⟩)
      go_ret
      exact ⟨rfl, (hb05.trans (below_drewN _ _ k6)).trans (hb7.mono (by simp; omega))⟩
end Go.Proofs.Ytmajnkdfchjcbaa
