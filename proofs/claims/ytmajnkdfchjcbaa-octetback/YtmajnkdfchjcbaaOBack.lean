/-
  The statement OctetBack: the call returns true and changes nothing that was there.
-/
import Derived.Test.YtmajnkdfchjcbaaORuns
namespace Go.Proofs.Ytmajnkdfchjcbaa
open Go.RowKit
set_option maxHeartbeats 800000

theorem pow_step (k : Nat) (h : k < 8) : ∃ p : Nat, IntKind.u64.wrap (2 ^ (8 * k)) = (p : Int) ∧ 0 < p ∧ p ≤ 72057594037927936 ∧ Hid (p = 256 ^ k) := by
  have h1 : (2 : Nat) ^ (8 * k) ≤ 2 ^ 56 := Nat.pow_le_pow_right (by omega) (by omega)
  have h2 : 0 < (2 : Nat) ^ (8 * k) := Nat.pow_pos (by omega)
  have e : (2 : Int) ^ (8 * k) = ((2 ^ (8 * k) : Nat) : Int) := by rw [Int.natCast_pow]; rfl
  refine ⟨2 ^ (8 * k), ?_, h2, by omega, (p256 k).symm⟩
  rw [e, IntWalk.u64_in _ (by omega)]
theorem mod_step (v p k : Nat) (hv : v ≤ 18446744073709551615) (hp : 0 < p) (h : p = 256 ^ k) : ∃ m : Nat, (v : Int) % (p : Int) = (m : Int) ∧ m ≤ 18446744073709551615 ∧ Hid (m < 256 ^ k) :=
  ⟨v % p, by omega, Nat.le_trans (Nat.mod_le _ _) hv, by show v % p < _; rw [← h]; exact Nat.mod_lt _ hp⟩
theorem Put_ok (B : Nat) (A : Option Addr) (n c : Nat) (l : List UInt8) (k v : Nat) (w : World) (hr : Row w B A n c (cs8 l)) (hB : B ≤ w.heap.size) (hl : n ≤ 1099511627776) (h1 : 1 ≤ k) (h8 : k ≤ 8) (hv : v < 256 ^ k) :
    Calls Try.prog 12 #[.slice A n c, .int .i64 (k : Int), .int .u64 (v : Int)] w (Gives w (l ++ leB k v) 0) := by
  have e : putE (k : Int) v = 0 := by rw [putE_nat ⟨h1, h8⟩, if_pos hv]
  have h := Put_any B A n c l k v w hr hB hl
  rwa [putL_ok e, e] at h
theorem Get_back (B : Nat) (A : Option Addr) (n c : Nat) (l x : List UInt8) (a k v : Nat) (w : World) (ha : l.length = a) (h1 : 1 ≤ k) (h8 : k ≤ 8) (hv : v < 256 ^ k) (hr : Row w B A n c (cs8 (l ++ leB k v ++ x))) :
    Calls Try.prog 16 #[.slice A n c, .int .i64 (a : Int), .int .i64 (k : Int)] w fun e w' => e = .returned (.tuple #[.int .u64 (v : Int), .int .i64 0]) ∧ w = w' := by
  have hl : (l ++ leB k v ++ x).length = a + k + x.length := by rw [List.length_append, List.length_append, leB_len, ha]
  have e : getE (l ++ leB k v ++ x).length (a : Int) (k : Int) = 0 := by rw [getE_nat ⟨h1, h8⟩ (by omega), if_pos (by omega)]
  refine (Get_any B A n c _ a k w hr).mono ?_
  rintro e' w' ⟨rfl, rfl⟩
  refine ⟨ret_get ?_ e, rfl⟩
  rw [getN_ok e, List.append_assoc, List.drop_left' ha, List.take_left' (leB_len k v), leN_leB, Nat.mod_eq_of_lt hv]
theorem back_walk (A : Option Addr) (n c : Nat) (l : List UInt8) (v : Int) (A' : Option Addr) (n' c' : Nat) (x : List UInt8) (w : World) (hr : Row w w.heap.size A n c (cs8 l)) (hv0 : (Lit.int .u64 v).wf = true) (hx : Row w w.heap.size A' n' c' (cs8 x)) :
    Calls Try.prog 7 #[.slice A n c, .int .u64 v, .slice A' n' c'] w fun e w' => e = .returned (.bool true) ∧ Below w.heap.size w w' := by
  obtain ⟨i0, hi, hz0, hz1, hz2⟩ := info_parts info8
  have hv1 := wf_u64 hv0
  obtain ⟨v, rfl⟩ : ∃ k : Nat, v = (k : Int) := ⟨v.toNat, by omega⟩
  have hv : v ≤ 18446744073709551615 := by omega
  clear hv0 hv1
  by_cases hbig : 65536 < n
  · have hd : decide ((65536 : Int) < (n : Int)) = true := by simp; omega
    go_enter Try.func7, Try.ntmps7
    go_wp2_with (go_at_call 10; refine (known_any _).mono ?_; rintro e w1 ⟨rfl, hb1⟩)
    go_ret
    exact ⟨rfl, hb1⟩
  have hd : decide ((65536 : Int) < (n : Int)) = false := by simp; omega
  by_cases hbig' : 65536 < n'
  · have hd : decide ((65536 : Int) < (n' : Int)) = true := by simp; omega
    go_enter Try.func7, Try.ntmps7
    go_wp2_with (go_at_call 10; refine (known_any _).mono ?_; rintro e w1 ⟨rfl, hb1⟩)
    go_ret
    exact ⟨rfl, hb1⟩
  have hd' : decide ((65536 : Int) < (n' : Int)) = false := by simp; omega
  go_enter Try.func7, Try.ntmps7
  go_wp2
  go_loopw [7] (fun i wr => ∃ k : Nat, 1 ≤ k ∧ k ≤ 9 ∧ i = .int .i64 (k : Int) ∧ Below w.heap.size w wr) (fun i _ => 9 - (intOf i).toNat)
  case atStart => exact ⟨1, by omega, by omega, rfl, Below.refl _ _⟩
  case round =>
    obtain ⟨k, hk1, hk9, rfl, hb⟩ := hrel
    have hbs := hb.size
    have hrr := hr.keep hb (Nat.le_refl _)
    have HN : Hid (l.length = n) := by have := hr.len; rw [cs8_len] at this; exact this
    by_cases hle : k ≤ 8
    · by_cases hlt : k < 8
      · obtain ⟨p, hp, hp0, hp1, HP⟩ := pow_step k hlt
        obtain ⟨m, hm, hmb, HM⟩ := mod_step v p k hv hp0 HP.out
        clear HP
        go_wp2_with fail
        refine (Put_ok w.heap.size _ _ _ l k m wr hrr hbs (by omega) hk1 hle HM.out).mono ?_
        rintro e w1 ⟨A1, n1, c1, rfl, ho1, hb1⟩
        have hs1 := hb1.size
        obtain rfl : n1 = n + k := by have := own8_len ho1; rw [List.length_append, leB_len, HN.out] at this; omega
        have hb01 : Below w.heap.size w w1 := hb.trans (hb1.mono hbs)
        obtain ⟨A9, c9, hsl, hr9⟩ := (Row.of_own ho1).headed Try.underlying22 size8 (hi := n) (by omega) (n : Int) rfl
        rw [cs8_app, List.take_left' (by rw [cs8_len]; exact HN.out)] at hr9
        have q9 := fun t => (hr9.drewN t).str8
        have qb := fun t => ((hr.keep hb01 (Nat.le_refl _)).drewN t).str8
        go_wp2_with fail
        go_quiet (fail)
        clear q9 qb hsl hr9
        have hbd : Below w.heap.size w (w1.drewN nq) := hb01.trans (below_drewN _ _ _)
        have hod := own_keep ho1 (below_drewN _ _ nq)
        generalize w1.drewN nq = w2 at hbd hod ⊢
        have hs2 := hbd.size
        go_wp2_with (first
          | (at_builtin; refine wpList_append_row rfl (.tmp 64) (.tmp 65) 22 rfl w2.heap.size 5 i0 _ 1 Try.underlying22 hi hz0 hz1 hz2 rfl _ _ _ rfl (World.ownsRow_lit (size := 1) w2 #[] 0 (Nat.le_refl _) (Nat.zero_le _) rfl) w2.heap.size _ _ _ _ rfl ((Row.of_own hod).alloc (Nat.le_refl _) _) (cs8_one _) (by unfold maxLen; omega) (by omega) w2 ((Below.refl _ _).alloc (Nat.le_refl _) _) (Nat.le_refl _) ?_; intro A3 c3 w3 ho3 hb3 hg3; simp only [Nat.zero_add, List.nil_append] at ho3)
          | (at_builtin; refine wpList_append_row rfl (.tmp 67) (.tmp 68) 22 rfl w2.heap.size 5 i0 _ 1 Try.underlying22 hi hz0 hz1 hz2 rfl _ _ _ rfl ho3 w.heap.size _ _ _ _ rfl ((hx.keep hbd (Nat.le_refl _)).keep hb3 hs2) (cs8_one _) (by unfold maxLen; omega) (by omega) w2 hb3 (Nat.le_refl _) ?_; intro A4 c4 w4 ho4 hb4 hg4; rw [← cs8_app] at ho4)
          | (go_at_call 16; refine (Get_back _ _ _ _ l x n k m _ HN.out hk1 hle HM.out (Row.of_own ho4)).mono ?_; rintro e w' ⟨rfl, rfl⟩))
        go_roundw
        case rel => exact ⟨k + 1, by omega, by omega, by go_num, hbd.trans (hb4.mono hs2)⟩
        case measure => simp [intOf]; omega
      · have hk8 : k = 8 := by omega
        obtain ⟨m, rfl, HM⟩ : ∃ m, m = v ∧ Hid (m < 256 ^ k) := ⟨v, rfl, by show v < _; rw [hk8]; omega⟩
        clear hk8
        go_wp2_with fail
        refine (Put_ok w.heap.size _ _ _ l k m wr hrr hbs (by omega) hk1 hle HM.out).mono ?_
        rintro e w1 ⟨A1, n1, c1, rfl, ho1, hb1⟩
        have hs1 := hb1.size
        obtain rfl : n1 = n + k := by have := own8_len ho1; rw [List.length_append, leB_len, HN.out] at this; omega
        have hb01 : Below w.heap.size w w1 := hb.trans (hb1.mono hbs)
        obtain ⟨A9, c9, hsl, hr9⟩ := (Row.of_own ho1).headed Try.underlying22 size8 (hi := n) (by omega) (n : Int) rfl
        rw [cs8_app, List.take_left' (by rw [cs8_len]; exact HN.out)] at hr9
        have q9 := fun t => (hr9.drewN t).str8
        have qb := fun t => ((hr.keep hb01 (Nat.le_refl _)).drewN t).str8
        go_wp2_with fail
        go_quiet (fail)
        clear q9 qb hsl hr9
        have hbd : Below w.heap.size w (w1.drewN nq) := hb01.trans (below_drewN _ _ _)
        have hod := own_keep ho1 (below_drewN _ _ nq)
        generalize w1.drewN nq = w2 at hbd hod ⊢
        have hs2 := hbd.size
        go_wp2_with (first
          | (at_builtin; refine wpList_append_row rfl (.tmp 64) (.tmp 65) 22 rfl w2.heap.size 5 i0 _ 1 Try.underlying22 hi hz0 hz1 hz2 rfl _ _ _ rfl (World.ownsRow_lit (size := 1) w2 #[] 0 (Nat.le_refl _) (Nat.zero_le _) rfl) w2.heap.size _ _ _ _ rfl ((Row.of_own hod).alloc (Nat.le_refl _) _) (cs8_one _) (by unfold maxLen; omega) (by omega) w2 ((Below.refl _ _).alloc (Nat.le_refl _) _) (Nat.le_refl _) ?_; intro A3 c3 w3 ho3 hb3 hg3; simp only [Nat.zero_add, List.nil_append] at ho3)
          | (at_builtin; refine wpList_append_row rfl (.tmp 67) (.tmp 68) 22 rfl w2.heap.size 5 i0 _ 1 Try.underlying22 hi hz0 hz1 hz2 rfl _ _ _ rfl ho3 w.heap.size _ _ _ _ rfl ((hx.keep hbd (Nat.le_refl _)).keep hb3 hs2) (cs8_one _) (by unfold maxLen; omega) (by omega) w2 hb3 (Nat.le_refl _) ?_; intro A4 c4 w4 ho4 hb4 hg4; rw [← cs8_app] at ho4)
          | (go_at_call 16; refine (Get_back _ _ _ _ l x n k m _ HN.out hk1 hle HM.out (Row.of_own ho4)).mono ?_; rintro e w' ⟨rfl, rfl⟩))
        go_roundw
        case rel => exact ⟨k + 1, by omega, by omega, by go_num, hbd.trans (hb4.mono hs2)⟩
        case measure => simp [intOf]; omega
    · obtain rfl : k = 9 := by omega
      go_wp2_with (go_at_call 10; refine (known_any _).mono ?_; rintro e w1 ⟨rfl, hb1⟩)
      go_ret
      exact ⟨rfl, hb.trans (hb1.mono hbs)⟩
end Go.Proofs.Ytmajnkdfchjcbaa
