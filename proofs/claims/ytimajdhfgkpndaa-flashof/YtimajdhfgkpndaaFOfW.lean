/-
  The walk of the law FlashOf.
-/
import Derived.Test.YtimajdhfgkpndaaFAlike
import Derived.Test.YtimajdhfgkpndaaFNil
namespace Go.Proofs.Ytimajdhfgkpndaa
open Go.RowKit
set_option maxHeartbeats 400000

theorem add1_w (a : UInt32) : IntKind.u32.wrap ((a.toNat : Int) + 1) = ((a + 1).toNat : Int) := by
  rw [UInt32.toNat_add]; simp [IntKind.wrap, IntKind.signed, IntKind.bits]
theorem of_walk (A : Option Addr) (n c : Nat) (l : List UInt32) (w : World) (hr : Row w w.heap.size A n c (cs32 l)) :
    Calls Try.prog 4 #[.slice A n c] w fun e w' => e = .returned (.bool true) ∧ Below w.heap.size w w' := by
  obtain ⟨i0, hi, hz0, hz1, hz2⟩ := info_parts info32
  by_cases hbig : 20000 < n
  · have d : decide ((20000 : Int) < (n : Int)) = true := by simp; omega
    clear hbig
    go_enter Try.func4, Try.ntmps4
    go_wp2_with (go_at_call 23; refine (known_any _).mono ?_; rintro e w1 ⟨rfl, k1⟩)
    go_ret
    exact ⟨rfl, k1.back⟩
  · have d : decide ((20000 : Int) < (n : Int)) = false := by simp; omega
    have hn2 : n ≤ 20000 := by omega
    clear hbig
    by_cases hyes : 1 ≤ n / 256 ∧ n / 256 ≤ 16 ∧ n % 256 = 0
    · have hn1 : 256 ≤ n := by omega
      have HY := hide hyes
      clear hyes
      go_enter Try.func4, Try.ntmps4
      go_wp2_with (at_builtin; refine wpList_append_row rfl (.tmp 12) (.tmp 13) 40 rfl w.heap.size 28 i0 _ 4 Try.underlying40 hi hz0 hz1 hz2 rfl _ 0 [] rfl (World.ownsRow_nil _ _ _ _) w.heap.size _ _ _ _ rfl hr (cs32_one l) (by unfold maxLen; omega) (by omega) w (Below.refl _ _) (Nat.le_refl _) ?_; intro A1 c1 w1 ho1 hb1 hg1; simp only [Nat.zero_add, List.nil_append] at ho1; obtain ⟨x, rfl⟩ := own_some ho1 (by omega))
      have hx := ho1.lt x rfl
      have k1 : Keeps [] w w1 := Keeps.of_below hb1
      refine (Of_any w1.heap.size _ _ _ l _ (Row.of_own ho1) (Nat.le_refl _) HY.out).mono ?_
      rintro e w2 ⟨g, h, rfl, f2, k2, hg, hh⟩
      have ho2 := k2.own ho1 (by simp)
      have k02 : Keeps [] w w2 := k1.trans k2 (by simp)
      have hr2 := k02.row hr (Nat.le_refl _) (by simp)
      clear ho1 hb1 hg1
      go_wp2_with fail
      refine (rOf_any w.heap.size _ _ _ l _ hr2 HY.out).mono ?_
      rintro e w3 ⟨g2, h2, rfl, r3, k3, hg2, hh2⟩
      have f3 := k3.fl f2 (by simp) (by simp)
      have ho3 := k3.own ho2 (by simp)
      have k03 : Keeps [] w w3 := k02.trans k3 (by simp)
      have t1 := k1.size
      have t2 := k2.size
      have t3 := k3.size
      clear ho2 f2 hr2 k02 k1 k2 k3
      go_wp2
      go_loopw [7] (fun i wr => ∃ (j : Nat) (zs : List UInt32), j ≤ n ∧ i = .int .i64 (j : Int) ∧ Hid (zs.length = n) ∧ wr.ownsRow w.heap.size 28 1 (.slice (some ⟨x, 0, none⟩) n c1) n (cs32 zs) ∧ Keeps [x] w3 wr) (fun i _ => n - (intOf i).toNat)
      case atStart => exact ⟨0, l, Nat.zero_le _, rfl, own32_len ho3, ho3, Keeps.refl _ _⟩
      case round =>
        clear ho3
        obtain ⟨j, zs, hj, rfl, HZ, ho, hkp⟩ := hrel
        by_cases hlt : j < n
        · have hjl : j < zs.length := by have := HZ.out; omega
          have hc := ho.cellAt j (by omega)
          rw [cs32_at hjl] at hc
          have hz := ho.frozenAt j
          have ha := add1_w
          have hst := ho.stored j (.int .u32 ((zs[j] + 1).toNat : Int))
          rw [cs32_set] at hst
          have HST := hide hst
          have HL := hide (show (zs.set j (zs[j] + 1)).length = n by rw [List.length_set]; exact HZ.out)
          clear ho hst
          go_wp2
          go_roundw
          case rel => exact ⟨j + 1, _, by omega, by go_num, HL, HST.out.1, hkp.trans (Keeps.of_grown HST.out.2) (by simp)⟩
          case measure => simp [intOf]; omega
        · obtain rfl : j = n := by omega
          have f4 := hkp.fl f3 (by simp; omega) (by simp; omega)
          have r4 := hkp.rf r3 (by simp; omega) (by simp; omega)
          have k04 : Keeps [] w wr := k03.trans hkp (by simp; omega)
          clear ho hkp f3 r3 k03
          go_wp2_with (first
            | (go_at_call 22; refine (alike_any g h g2 h2 _ _ f4 r4).mono ?_; rintro e w5 ⟨rfl, k5⟩)
            | (go_at_call 23; refine (known_any _).mono ?_; rintro e w6 ⟨rfl, k6⟩))
          go_ret
          exact ⟨rfl, ((k04.trans k5 (by simp)).trans k6 (by simp)).back⟩
    · have HY := hide hyes
      clear hyes
      go_enter Try.func4, Try.ntmps4
      go_wp2_with (at_builtin; refine wpList_append_row rfl (.tmp 12) (.tmp 13) 40 rfl w.heap.size 28 i0 _ 4 Try.underlying40 hi hz0 hz1 hz2 rfl _ 0 [] rfl (World.ownsRow_nil _ _ _ _) w.heap.size _ _ _ _ rfl hr (cs32_one l) (by unfold maxLen; omega) (by omega) w (Below.refl _ _) (Nat.le_refl _) ?_; intro A1 c1 w1 ho1 hb1 hg1; simp only [Nat.zero_add, List.nil_append] at ho1)
      have k1 : Keeps [] w w1 := Keeps.of_below hb1
      have hr1 := k1.row hr (Nat.le_refl _) (by simp)
      go_wp2_with (first
        | (go_at_call 24; refine (Of_no w1.heap.size _ _ _ l _ (Row.of_own ho1) HY.out).mono ?_; rintro e w2 ⟨rfl, rfl⟩)
        | (go_at_call 25; refine (rOf_no w.heap.size _ _ _ l _ hr1 HY.out).mono ?_; rintro e w3 ⟨g3, rfl, k3⟩)
        | (go_at_call 23; refine (known_any _).mono ?_; rintro e w4 ⟨rfl, k4⟩))
      go_ret
      exact ⟨rfl, ((k1.trans k3 (by simp)).trans k4 (by simp)).back⟩
end Go.Proofs.Ytimajdhfgkpndaa
