/-
  The statement CrcTurned: the call returns true and changes nothing that was there.
-/
import Derived.Test.YtkabmpiofpgoaaaKSums
namespace Go.Proofs.Ytkabmpiofpgoaaa
open Go.RowKit
set_option maxHeartbeats 800000

theorem flip_nat (z : UInt8) (q : Nat) (hq : q < 8) : (byt (z.toNat ^^^ 2 ^ q)).toNat = z.toNat ^^^ 2 ^ q := by
  have h2 : (2 : Nat) ^ q < 2 ^ 8 := Nat.pow_lt_pow_right (by omega) hq
  have h3 : z.toNat ^^^ 2 ^ q < 2 ^ 8 := Nat.xor_lt_two_pow z.toNat_lt h2
  rw [byt_toNat, Nat.mod_eq_of_lt (by omega)]
theorem flip_cell (z : UInt8) (q : Nat) (hq : q < 8) : bits .xor .u8 (z.toNat : Int) ((2 : Int) ^ q % 256) = ((byt (z.toNat ^^^ 2 ^ q)).toNat : Int) := by
  have h1 := z.toNat_lt
  have h2 : (2 : Nat) ^ q < 2 ^ 8 := Nat.pow_lt_pow_right (by omega) hq
  have e : (2 : Int) ^ q % 256 = ((2 ^ q : Nat) : Int) := by
    rw [show (2 : Int) ^ q = ((2 ^ q : Nat) : Int) by rw [Int.natCast_pow]; rfl]
    generalize (2 : Nat) ^ q = t at h2
    omega
  rw [e, u8_xor_nat _ _ (by omega) (by omega), flip_nat z q hq]
theorem cs8_put (l : List UInt8) (j : Nat) (c : UInt8) : (cs8 l).set j (.int .u8 (c.toNat : Int)) = cs8 (l.set j c) := by simp [cs8, List.map_set]
theorem turn_next {zs S : List UInt8} {bu j k p q : Nat} (hp : p < zs.length) (hq : q < 8) (hk : k + j = 8 * p + q) (hx : leN zs = leN S ^^^ (bu % 2 ^ j) <<< k) (hb : 1 = bu / 2 ^ j % 2) :
    leN (zs.set p (byt (zs[p].toNat ^^^ 2 ^ q))) = leN S ^^^ (bu % 2 ^ (j + 1)) <<< k := by
  rw [leN_flip zs p q hp _ hq (flip_nat _ q hq), hx, burst_set bu j k hb.symm, hk, Nat.xor_assoc]
theorem turned_walk (A : Option Addr) (n c : Nat) (l : List UInt8) (a bu : Int) (w : World) (hr : Row w w.heap.size A n c (cs8 l)) (_ha : (Lit.int .i64 a).wf = true) (hb0 : (Lit.int .u32 bu).wf = true) :
    Calls Try.prog 6 #[.slice A n c, .int .i64 a, .int .u32 bu] w fun e w' => e = .returned (.bool true) ∧ Below w.heap.size w w' := by
  obtain ⟨bu, rfl, hbu⟩ := lit_u32 hb0
  clear hb0
  by_cases hbig : 65536 < n
  · have hd : decide ((65536 : Int) < (n : Int)) = true := by simp; omega
    go_enter Try.func6, Try.ntmps6
    go_wp2_with (go_at_call 9; refine (known_any _).mono ?_; rintro e w1 ⟨rfl, hb1⟩)
    go_ret
    exact ⟨rfl, hb1⟩
  · go_enter Try.func6, Try.ntmps6
    go_wp2_with fail
    refine (Seal_any w.heap.size _ _ _ l w hr (Nat.le_refl _) (by omega)).mono ?_
    rintro e w1 ⟨A1, n1, c1, rfl, ho1, hb1⟩
    have hln : l.length = n := by have := hr.len; rwa [cs8_len] at this
    have hn1 : n1 = n + 4 := by have h1 := own8_len ho1; rw [sealL_len] at h1; omega
    obtain ⟨g, rfl⟩ := own_some ho1 (by omega)
    have hgb : w.heap.size ≤ g := (ho1.lt g rfl).1
    have HN := hide hn1
    have ht : ((n1 : Int) != (n : Int) + 4) = false := by rw [show (n1 : Int) = (n : Int) + 4 by omega]; simp
    have hn1a : 4 ≤ n1 := by omega
    have hn1b : n1 ≤ 65540 := by omega
    clear hn1
    go_wp2_with fail
    refine (Count_any _ _ _ (by omega) (by omega)).mono ?_
    rintro e w' ⟨⟨k, rfl, hk⟩, rfl⟩
    go_wp2_with fail
    go_loopw [10, 11] (fun t i wr => ∃ (j : Nat) (zs : List UInt8) (tb : Bool), j ≤ 32 ∧ k + j ≤ 8 * n1 ∧ i = .int .i64 (j : Int) ∧ t = .bool tb ∧ Hid (leN zs = leN (sealL l) ^^^ (bu % 2 ^ j) <<< k) ∧ Hid (tb = true ↔ bu % 2 ^ j ≠ 0) ∧ wr.ownsRow w.heap.size 5 1 (.slice (some ⟨g, 0, none⟩) n1 c1) n1 (cs8 zs) ∧ Below w.heap.size w wr) (fun _ i _ => 32 - (intOf i).toNat)
    case atStart => exact ⟨0, sealL l, false, by omega, by omega, rfl, rfl, by show _ = _; simp [Nat.mod_one], by show _ ↔ _; simp [Nat.mod_one], ho1, hb1⟩
    case round =>
      clear ho1 hb1
      obtain ⟨j, zs, tb, hj, hkj, rfl, rfl, HX, HT, ho, hb⟩ := hrel
      have hbs := hb.size
      by_cases hgo : j < 32 ∧ k + j < 8 * n1
      · obtain ⟨hg1, hg2⟩ := hgo
        have hd1 : decide ((j : Int) < 32) = true := by simp; omega
        have hd2 : decide ((k : Int) + (j : Int) < 8 * (n1 : Int)) = true := by simp; omega
        obtain ⟨y, hy, hy1, HY⟩ : ∃ y : Nat, bits .and .u32 ((bu : Int) / 2 ^ j) 1 = (y : Int) ∧ y ≤ 1 ∧ Hid (y = bu / 2 ^ j % 2) := by
          refine ⟨bu / 2 ^ j % 2, ?_, by omega, rfl⟩
          rw [show (bu : Int) / 2 ^ j = ((bu / 2 ^ j : Nat) : Int) by rw [Int.natCast_ediv, Int.natCast_pow]; rfl, show (1 : Int) = ((1 : Nat) : Int) from rfl, u32_and_nat _ _ (by have := Nat.div_le_self bu (2 ^ j); omega) (by omega), Nat.and_one_is_mod]
        by_cases hy2 : y = 1
        · obtain ⟨p, q, hp, hq, hp1, hq1, HPQ⟩ : ∃ p q : Nat, ((k : Int) + (j : Int)) / 8 = (p : Int) ∧ ((k : Int) + (j : Int)) % 8 = (q : Int) ∧ p < n1 ∧ q < 8 ∧ Hid (k + j = 8 * p + q) := ⟨(k + j) / 8, (k + j) % 8, by omega, by omega, by omega, by omega, by show _ = _; omega⟩
          have hpi : (p : Int) < (n1 : Int) := by omega
          have hzl := own8_len ho
          have hc := ho.cellAt p (by omega)
          rw [cs8_at (show p < zs.length by omega)] at hc
          have hfz := ho.frozenAt p
          subst hy2
          have hzc := zs[p].toNat_lt
          have hst := ho.stored p (.int .u8 (bits .xor .u8 (zs[p].toNat : Int) ((2 : Int) ^ q % 256)))
          rw [flip_cell zs[p] q hq1, cs8_put, ← flip_cell zs[p] q hq1] at hst
          have HST := hide hst
          have HX2 := hide (turn_next (show p < zs.length by omega) hq1 HPQ.out HX.out HY.out)
          have HB := hide (burst_some bu j HY.out.symm)
          clear hst ho
          go_wp2
          refine ⟨⟨j + 1, _, true, by omega, by omega, by go_num, rfl, HX2, by show _ ↔ _; simp [HB.out], HST.out.1, hb.grown HST.out.2 hbs (fun k hk => by cases hk; exact hgb)⟩, ?_⟩
          simp [intOf]; omega
        · have hy3 : y = 0 := by omega
          have hne : bu / 2 ^ j % 2 ≠ 1 := by rw [← HY.out]; exact hy2
          have HX2 : Hid (leN zs = leN (sealL l) ^^^ (bu % 2 ^ (j + 1)) <<< k) := by show _ = _; rw [burst_not bu j hne]; exact HX.out
          have HT2 : Hid (tb = true ↔ bu % 2 ^ (j + 1) ≠ 0) := by show _ ↔ _; rw [burst_not bu j hne]; exact HT.out
          clear hne hy2
          subst hy3
          go_wp2
          go_roundw
          case rel => exact ⟨j + 1, zs, tb, by omega, by omega, by go_num, rfl, HX2, HT2, ho, hb⟩
          case measure => simp [intOf]; omega
      · have hzl := own8_len ho
        have hrow := Row.of_own ho
        have hrw := hr.keep hb (Nat.le_refl _)
        have hex : decide ((j : Int) < 32) = false ∨ (decide ((j : Int) < 32) = true ∧ decide ((k : Int) + (j : Int) < 8 * (n1 : Int)) = false) := by
          by_cases h : j < 32
          · exact .inr ⟨by simp; omega, by simp; omega⟩
          · exact .inl (by simp; omega)
        have HLN := hide hln
        clear hgo hln
        rcases tb with _ | _
        · have hzs : zs = sealL l := by
            refine leN_inj (by rw [sealL_len, hzl, HN.out, HLN.out]) ?_
            have h0 : bu % 2 ^ j = 0 := by
              have h1 := HT.out
              simpa using h1
            rw [HX.out, h0, Nat.zero_shiftLeft, Nat.xor_zero]
          subst hzs
          rcases hex with hd1 | ⟨hd1, hd2⟩
          all_goals
            go_wp2_with fail
            refine (Open_any wr.heap.size _ _ _ (sealL l) wr hrow (Nat.le_refl _) (by omega)).mono ?_
            rw [opL_sealed, opE_sealed]
            rintro e w5 ⟨A5, n5, c5, rfl, ho5, hb5⟩
            have hs5 := hb5.size
            have hb05 : Below w.heap.size w w5 := hb.trans (hb5.mono hbs)
            have q5 := (Row.of_own ho5).str8
            have q6 := (hr.keep hb05 (Nat.le_refl _)).str8
            go_wp2_with (go_at_call 9; refine (known_any _).mono ?_; rintro e w6 ⟨rfl, hb6⟩)
            go_ret
            exact ⟨rfl, hb05.trans (hb6.mono (by omega))⟩
        · have h0 : bu % 2 ^ j ≠ 0 := by simpa using HT.out
          have HOE : Hid (opE zs = 5) := by
            refine open_turned (b := l) (k := k) (e := bu % 2 ^ j) (by rw [hzl, HN.out, HLN.out]) HX.out (by omega) ?_ ?_ h0
            · have := Nat.mod_le bu (2 ^ j); omega
            · have h1 : bu % 2 ^ j < 2 ^ j := Nat.mod_lt _ (Nat.pow_pos (by omega))
              have h2 : (2 : Nat) ^ j ≤ 2 ^ (8 * zs.length - k) := Nat.pow_le_pow_right (by omega) (by omega)
              omega
          have HOL := hide (opL_bad (l := zs) (by rw [HOE.out]; decide))
          clear h0
          rcases hex with hd1 | ⟨hd1, hd2⟩
          all_goals
            go_wp2_with fail
            refine (Open_any wr.heap.size _ _ _ zs wr hrow (Nat.le_refl _) (by omega)).mono ?_
            rw [HOL.out, HOE.out]
            rintro e w5 ⟨A5, n5, c5, rfl, ho5, hb5⟩
            have hs5 := hb5.size
            have hb05 : Below w.heap.size w w5 := hb.trans (hb5.mono hbs)
            obtain rfl : n5 = 0 := by have := own8_len ho5; simpa using this.symm
            go_wp2_with (go_at_call 9; refine (known_any _).mono ?_; rintro e w6 ⟨rfl, hb6⟩)
            go_ret
            exact ⟨rfl, hb05.trans (hb6.mono (by omega))⟩
end Go.Proofs.Ytkabmpiofpgoaaa
