/-
  The reference (midstreamref07): Laid, one.
-/
import Derived.Test.YtahnfkoakaimhaaJOps
import Derived.Laws.OwnMore
namespace Go.Proofs.Ytahnfkoakaimhaa
open Go.RowKit
set_option maxHeartbeats 4000000

theorem rLaid_any (B : Nat) (A : Option Addr) (n c N : Nat) (r : List UInt32) (w : World) (hr : Row w B A n c (cs32 r)) (hB : B ≤ w.heap.size) (hn : n ≤ 300) (hN : N ≤ 2147483648) :
    Calls Try.prog 31 #[.int .u32 (N : Int), .slice A n c] w (Gives32 w (laidW N r)) := by
  obtain ⟨i0, hi, hz0, hz1, hz2⟩ := info_parts info32
  have hln := hr.len
  rw [cs32_len] at hln
  have HH := hide (show cs32 (headW N r) = [.int .u32 (N : Int), .int .u32 (n : Int)] ++ cs32 r by rw [← hln]; exact cs32_head (by omega) (by omega))
  have HL := hide (cs32_laid N r)
  have HN := hide hln
  clear hln
  have ho1 : (w.alloc (.cells #[.int .u32 (N : Int), .int .u32 (n : Int)] 37)).ownsRow w.heap.size 37 1 (.slice (some ⟨w.heap.size, 0, none⟩) 2 2) 2 [.int .u32 (N : Int), .int .u32 (n : Int)] := World.ownsRow_lit w #[.int .u32 (N : Int), .int .u32 (n : Int)] 2 (Nat.le_refl _) (by unfold maxLen; omega) rfl
  have hb1 : Below w.heap.size w (w.alloc (.cells #[.int .u32 (N : Int), .int .u32 (n : Int)] 37)) := (Below.refl _ w).alloc (Nat.le_refl _) _
  have HNN := hide hN
  clear hN
  go_enter Try.func31, Try.ntmps31
  go_wp2_with (at_builtin; refine wpList_append_row rfl (.tmp 11) (.tmp 12) 36 rfl w.heap.size 37 i0 _ 4 Try.underlying36 hi hz0 hz1 hz2 rfl _ _ _ rfl ho1 _ _ _ _ _ rfl (hr.keep hb1 hB) (cs32_one _) (by unfold maxLen; omega) (by omega) w hb1 (Nat.le_refl _) ?_; intro A3 c3 w3 ho3 hb3 hg3; have hs3 := hb3.size)
  rw [← HH.out] at ho3
  have hl3 : (headW N r).length = 2 + n := own32_len ho3
  clear hg3 ho1 hb1
  refine (rBytes_any w3.heap.size _ _ _ (headW N r) _ (Row.of_own ho3) (Nat.le_refl _) (by omega)).mono ?_
  rintro e w4 ⟨A4, n4, c4, rfl, ho4, hb4⟩
  have hs4 := hb4.size
  have ho34 := own_keep ho3 hb4
  have hb04 : Below w.heap.size w w4 := hb3.trans (hb4.mono hs3)
  go_wp2_with fail
  refine (rSum_any w4.heap.size _ _ _ (bytesL (headW N r)) _ (Row.of_own ho4)).mono ?_
  rintro e w5 ⟨rfl, rfl⟩
  clear ho3 ho4 hb4 hb3
  go_wp2_with (at_builtin; refine wpList_append_row rfl (.tmp 14) (.tmp 18) 36 rfl w.heap.size 37 i0 _ 4 Try.underlying36 hi hz0 hz1 hz2 rfl _ _ _ rfl (ho34.alloc _) _ _ _ _ _ rfl (Row.two _ _ _ _) (two_u32 _ _) (by unfold maxLen; omega) (by omega) w (hb04.alloc (by omega) _) (Nat.le_refl _) ?_; intro A6 c6 w6 ho6 hb6 hg6)
  go_ret
  exact ⟨A6, _, c6, rfl, by rw [HL.out]; exact ho6, hb6⟩
/-- A record stands here just if what would be laid is what stands. -/
theorem one_spec {l : List UInt32} (h1 : 1 ≤ numW l) (h2 : numW l ≤ 2147483647) (h3 : 1 ≤ lenW l) (h4 : lenW l ≤ 64) (h5 : lenW l + 4 ≤ l.length) :
    validW l = if laidW (numW l) ((l.drop 2).take (lenW l)) = l.take (lenW l + 4) then some (numW l, (l.drop 2).take (lenW l)) else none := by
  have hrl : ((l.drop 2).take (lenW l)).length = lenW l := by simp; omega
  by_cases h : laidW (numW l) ((l.drop 2).take (lenW l)) = l.take (lenW l + 4)
  · rw [if_pos h]
    have hl : laidW (numW l) ((l.drop 2).take (lenW l)) ++ l.drop (lenW l + 4) = l := by rw [h]; exact List.take_append_drop _ _
    have hv := valid_laid (t := l.drop (lenW l + 4)) (show okR (numW l) ((l.drop 2).take (lenW l)) from ⟨h1, h2, by rw [hrl]; exact h3, by rw [hrl]; exact h4⟩)
    rw [hl] at hv
    exact hv
  · rw [if_neg h]
    rcases hv : validW l with _ | ⟨N, r⟩
    · rfl
    · exfalso
      have hg : goodW l := by
        by_cases hg : goodW l
        · exact hg
        · unfold validW at hv; rw [if_neg hg] at hv; cases hv
      have he : validW l = some (numW l, (l.drop 2).take (lenW l)) := by unfold validW; rw [if_pos hg]
      obtain ⟨_, t, ht⟩ := laid_valid he
      apply h
      have hll := laidW_len (numW l) ((l.drop 2).take (lenW l))
      rw [hrl] at hll
      have : l.take (lenW l + 4) = (laidW (numW l) ((l.drop 2).take (lenW l)) ++ t).take (lenW l + 4) := congrArg (List.take (lenW l + 4)) ht
      rw [this, List.take_left' hll]
theorem valid_not {l : List UInt32} (h : ¬ (1 ≤ numW l ∧ numW l ≤ 2147483647 ∧ 1 ≤ lenW l ∧ lenW l ≤ 64 ∧ lenW l + 4 ≤ l.length)) : validW l = none := by
  unfold validW
  rw [if_neg (fun g => h ⟨g.1, g.2.1, g.2.2.1, g.2.2.2.1, g.2.2.2.2.1⟩)]
/-- What one answers: nothing, or a piece of the words. -/
def OneR (w : World) (B : Nat) (l : List UInt32) (e : Ending) (w' : World) : Prop :=
  Below w.heap.size w w' ∧ ((validW l = none ∧ e = .returned (.tuple #[.int .u32 0, .slice none 0 0])) ∨
    ∃ N r A' k c', validW l = some (N, r) ∧ e = .returned (.tuple #[.int .u32 (N : Int), .slice A' k c']) ∧ Row w B A' k c' (cs32 r))
theorem cs32_take (l : List UInt32) (k : Nat) : (cs32 l).take k = cs32 (l.take k) := by unfold cs32; rw [List.map_take]
theorem one_any (B : Nat) (A : Option Addr) (n c : Nat) (l : List UInt32) (at_ : Nat) (w : World) (hr : Row w B A n c (cs32 l)) (hB : B ≤ w.heap.size) (hn : n ≤ 256) (hat : at_ ≤ n) :
    Calls Try.prog 43 #[.slice A n c, .int .i64 (at_ : Int)] w (OneR w B (l.drop at_)) := by
  have hln := hr.len
  rw [cs32_len] at hln
  obtain ⟨z, hz⟩ : ∃ z, z = l.drop at_ := ⟨_, rfl⟩
  rw [← hz]
  have hzl : z.length = n - at_ := by rw [hz, List.length_drop, hln]
  have hcap := hr.cap
  have hmax := hr.max
  unfold maxLen at hmax
  have HL := hide hln
  have HZ := hide hz
  by_cases h5 : n - at_ < 5
  · have d5 : decide ((n : Int) - (at_ : Int) < 5) = true := by simp; omega
    have hv : Hid (validW z = none) := valid_not (fun g => by omega)
    clear hr hz hln hzl
    go_enter Try.func43, Try.ntmps43
    go_wp2
    go_ret2
    exact ⟨Below.refl _ _, .inl ⟨hv.out, rfl⟩⟩
  have d5 : decide ((n : Int) - (at_ : Int) < 5) = false := by simp; omega
  obtain ⟨b, o, u0, rfl, _, hu0, hc0⟩ := hr.get (j := at_) (by omega)
  obtain ⟨b1, o1, u1, hb1, _, hu1, hc1⟩ := hr.get (j := at_ + 1) (by omega)
  cases hb1
  have ha0 : at_ < l.length := by omega
  have ha1 : at_ + 1 < l.length := by omega
  rw [cs32_at ha0] at hu0
  rw [cs32_at ha1] at hu1
  obtain rfl := Option.some.inj hu0
  obtain rfl := Option.some.inj hu1
  obtain ⟨N, hN⟩ : ∃ N, N = numW z := ⟨_, rfl⟩
  obtain ⟨L, hL⟩ : ∃ L, L = lenW z := ⟨_, rfl⟩
  have eN : l[at_].toNat = N := by
    rw [hN, hz]; unfold numW
    rw [List.getD_eq_getElem?_getD, List.getElem?_drop, Nat.add_zero, List.getElem?_eq_getElem ha0]; rfl
  have eL : l[at_ + 1].toNat = L := by
    rw [hL, hz]; unfold lenW
    rw [List.getD_eq_getElem?_getD, List.getElem?_drop, List.getElem?_eq_getElem ha1]; rfl
  rw [eN] at hc0
  rw [eL] at hc1
  have hNb : N < 4294967296 := by rw [← eN]; exact l[at_].toNat_lt
  have hLb : L < 4294967296 := by rw [← eL]; exact l[at_ + 1].toNat_lt
  clear hu0 hu1 eN eL
  by_cases hok : 1 ≤ N ∧ N ≤ 2147483647 ∧ 1 ≤ L ∧ L ≤ 64 ∧ L + 4 ≤ n - at_
  · obtain ⟨k1, k2, k3, k4, k5⟩ := hok
    have HS := hide (one_spec (l := z) (by omega) (by omega) (by omega) (by omega) (by omega))
    rw [← hN, ← hL] at HS
    obtain ⟨A2, c2, hsl2, r2⟩ := hr.sliced Try.underlying36 size32 (lo := at_ + 2) (hi := at_ + 2 + L) (by omega) (by omega) ((at_ : Int) + 2) ((at_ : Int) + 2 + (L : Int)) (by omega) (by omega)
    obtain ⟨A4, c4, hsl4, r4⟩ := hr.sliced Try.underlying36 size32 (lo := at_) (hi := at_ + L + 4) (by omega) (by omega) (at_ : Int) ((at_ : Int) + (L : Int) + 4) (by omega) (by omega)
    rw [show at_ + 2 + L - (at_ + 2) = L by omega] at r2 hsl2
    rw [show at_ + L + 4 - at_ = L + 4 by omega] at r4 hsl4
    rw [cs32_drop, cs32_take, show l.drop (at_ + 2) = z.drop 2 by rw [hz, List.drop_drop]] at r2
    rw [cs32_drop, cs32_take, ← hz] at r4
    obtain ⟨r, hrr⟩ : ∃ r, r = (z.drop 2).take L := ⟨_, rfl⟩
    rw [← hrr] at r2 HS
    have t1 : decide ((N : Int) < 1) = false := by simp; omega
    have t2 : decide ((2147483647 : Int) < (N : Int)) = false := by simp; omega
    have t3 : decide ((L : Int) < 1) = false := by simp; omega
    have t4 : decide ((64 : Int) < (L : Int)) = false := by simp; omega
    have t5 : decide ((n : Int) - (at_ : Int) < (L : Int) + 4) = false := by simp; omega
    have R2 := hide r2
    have R4 := hide r4
    clear hr hrr hN hL hz hln hzl r2 r4
    go_enter Try.func43, Try.ntmps43
    go_wp2_with fail
    refine (rLaid_any B A2 L c2 N r w R2.out hB (by omega) (by omega)).mono ?_
    rintro e w1 ⟨A5, n5, c5, rfl, ho5, hb5⟩
    go_wp2_with fail
    refine (Same_dec _ _ _ _ _ _ _ _ (laidW N r) (z.take (L + 4)) w1 (Row.of_own ho5) (R4.out.keep hb5 hB)).mono ?_
    rintro e w2 ⟨kd, rfl, rfl⟩
    have hbd := bel_drewN hb5 kd
    by_cases hsame : laidW N r = z.take (L + 4)
    · rw [decide_eq_true hsame]
      have HV : Hid (validW z = some (N, r)) := by show validW z = _; rw [HS.out, if_pos hsame]
      have HB := hide hbd
      clear hsame hbd ho5 hb5 hc0 hc1
      go_wp2_with fail
      go_quiet (fail)
      go_wp2
      go_ret2
      exact ⟨bel_drewN HB.out nq, .inr ⟨N, r, A2, L, c2, HV.out, rfl, R2.out⟩⟩
    · rw [decide_eq_false hsame]
      have HV : Hid (validW z = none) := by show validW z = _; rw [HS.out, if_neg hsame]
      have HB := hide hbd
      clear hsame hbd ho5 hb5 hc0 hc1
      go_wp2
      go_ret2
      exact ⟨HB.out, .inl ⟨HV.out, rfl⟩⟩
  · have hv : Hid (validW z = none) := valid_not (fun g => hok (by rw [hN, hL, ← hzl]; exact g))
    have key : (decide ((N : Int) < 1) = true) ∨ (decide ((N : Int) < 1) = false ∧ decide ((2147483647 : Int) < (N : Int)) = true) ∨ (decide ((N : Int) < 1) = false ∧ decide ((2147483647 : Int) < (N : Int)) = false ∧ decide ((L : Int) < 1) = true) ∨ (decide ((N : Int) < 1) = false ∧ decide ((2147483647 : Int) < (N : Int)) = false ∧ decide ((L : Int) < 1) = false ∧ decide ((64 : Int) < (L : Int)) = true) ∨ (decide ((N : Int) < 1) = false ∧ decide ((2147483647 : Int) < (N : Int)) = false ∧ decide ((L : Int) < 1) = false ∧ decide ((64 : Int) < (L : Int)) = false ∧ decide ((n : Int) - (at_ : Int) < (L : Int) + 4) = true) := by
      simp only [decide_eq_true_eq, decide_eq_false_iff_not]; omega
    clear hr hN hL hz hln hzl hok
    rcases key with t1 | ⟨t1, t2⟩ | ⟨t1, t2, t3⟩ | ⟨t1, t2, t3, t4⟩ | ⟨t1, t2, t3, t4, t5⟩
    all_goals
      go_enter Try.func43, Try.ntmps43
      go_wp2
      go_ret2
      exact ⟨Below.refl _ _, .inl ⟨hv.out, rfl⟩⟩
end Go.Proofs.Ytahnfkoakaimhaa
