/-
  Contracts of the reference of layer 6 (midstreamref06): Program.
-/
import Derived.Test.YtahnfkoakaimhaaFRef2
namespace Go.Proofs.Ytahnfkoakaimhaa
open Go.RowKit
set_option maxHeartbeats 1000000

theorem pb_yes {n w m i : Nat} (h1 : w / 2 ^ i % 2 = 0) (h2 : pb n w m i / 2 ^ i % 2 = 1) (h3 : m / 2 ^ i % 2 = 1) : pb n w m (i + 1) = pb n w m i - 2 ^ i := by
  rw [pb, if_pos ⟨h1, h2, h3⟩]
theorem pb_no {n w m i : Nat} (h : ¬ (w / 2 ^ i % 2 = 0 ∧ pb n w m i / 2 ^ i % 2 = 1 ∧ m / 2 ^ i % 2 = 1)) : pb n w m (i + 1) = pb n w m i := by
  rw [pb, if_neg h]
theorem two_w (q j : Nat) (hj : j < 32) (hq : q = 2 ^ j) : ∃ q2 : Nat, IntKind.u32.wrap (2 * (q : Int)) = (q2 : Int) ∧ Hid (j + 1 < 32 → q2 = 2 ^ (j + 1)) := by
  refine ⟨2 * q % 4294967296, ?_, ?_⟩
  · simp only [IntKind.wrap, IntKind.bits, IntKind.signed]; simp
  · show j + 1 < 32 → _
    intro h
    have : (2 : Nat) ^ (j + 1) ≤ 2 ^ 31 := Nat.pow_le_pow_right (by omega) (by omega)
    rw [hq, Nat.mul_comm, ← Nat.pow_succ, Nat.mod_eq_of_lt (by omega)]
theorem bit_cast (v q : Nat) : (v : Int) / (q : Int) % 2 = ((v / q % 2 : Nat) : Int) := by omega
theorem ones_bit (j : Nat) (hj : j < 32) : 4294967295 / 2 ^ j % 2 = 1 := by
  have h : (4294967295 : Nat).testBit j = true := by
    rw [show (4294967295 : Nat) = 2 ^ 32 - 1 from rfl, Nat.testBit_two_pow_sub_one]; simpa using hj
  rw [bit_is] at h
  simpa using h
theorem pb_ones (old w : UInt32) : pb old.toNat w.toNat 4294967295 32 = (pw old w ones32).toNat := by
  have h := pb_pw old w ones32
  rwa [ones32_toNat] at h
theorem le_of_bit {x i : Nat} (h : x / 2 ^ i % 2 = 1) : 2 ^ i ≤ x := by
  rcases Nat.lt_or_ge x (2 ^ i) with hl | hl
  · rw [Nat.div_eq_of_lt hl] at h; omega
  · exact hl
theorem mod2 (n : Nat) : n % 2 = 0 ∨ n % 2 = 1 := by omega
theorem proW_is {ws : List UInt32} {k : Nat} {v m : UInt32} (h : k < ws.length) : ws.set k (pw ws[k] v m) = proW ws k v m := by
  unfold proW
  rw [List.getD_eq_getElem?_getD, List.getElem?_eq_getElem h]
  rfl
theorem rProgram_any (g h : Nat) (s : FS) (a : Int) (v : UInt32) (w : World) (f : Rf w g h s) (hops : s.ops ≤ 4611686018427387904) :
    Calls Try.prog 33 #[.pointer (some ⟨g, 0, none⟩), .int .i64 a, .int .u32 (v.toNat : Int)] w (DoesR w g h (proS s a v) (.int .i64 (proE s a))) := by
  obtain ⟨c, m, hm, hb, ho⟩ := f.ex
  have hl := len_pos f.ok
  have c0 : w.cell? ⟨g, 0, none⟩ = some (.slice (some ⟨h, 0, none⟩) s.ws.length c) := hb.cell (j := 0) rfl
  have c1 : w.cell? ⟨g, 1, none⟩ = some (.bool (!s.on)) := hb.cell (j := 1) rfl
  by_cases hr : refE s.on a s.ws.length = 0
  · have hon : s.on = true := by
      unfold refE at hr; split at hr
      · assumption
      · omega
    have h2 := refE_in hr
    rw [hon] at c1
    have c1' : w.cell? ⟨g, 1, none⟩ = some (.bool false) := c1
    clear c1
    obtain ⟨k, rfl⟩ : ∃ k : Nat, a = (k : Int) := ⟨a.toNat, by omega⟩
    have d1 : decide ((k : Int) < 0) = false := by simp
    have d2 : decide ((s.ws.length : Int) ≤ (k : Int)) = false := by simp; omega
    have hk : k < s.ws.length := by omega
    have HB := hide (show Blk w g 62 (rfN h c s.ws.length m ⟨[], s.on, s.ops, s.plan⟩) from hb)
    have HO := hide ho
    have HNE := hide f.ne
    rcases plan_cases s.plan with ⟨x, hp⟩ | hp
    · obtain rfl := hm _ _ hp
      have H1 := hide (show proE s (k : Int) = 7 by unfold proE; rw [if_pos hr, hp]; rfl)
      have H2 := hide (show proS s (k : Int) v = ⟨proW s.ws k v m, false, s.ops, none⟩ by unfold proS; rw [if_pos hr, opS_yes hp, Int.toNat_natCast])
      have HK := hide (H2.out ▸ f.ok.proS (k : Int) v)
      rw [hp] at HB
      clear hb ho h2 hr hm hp f
      go_enter Try.func33, Try.ntmps33
      go_wp2_with fail
      refine (torn_yes g h c _ m m s.on s.ops _ HB.out).mono ?_
      rintro e w1 ⟨rfl, hb1, hk1⟩
      have ho1 := hk1.own HO.out (fun g' e => by injection e with e; injection e with e; subst e; simpa using fun e => HNE.out e.symm)
      have hk1' : Keeps [g, h] w w1 := hk1.more (by simp)
      have b3 : w1.cell? ⟨g, 3, none⟩ = some (.int .u32 (m.toNat : Int)) := hb1.cell (j := 3) rfl
      have b0 : w1.cell? ⟨g, 0, none⟩ = some (.slice (some ⟨h, 0, none⟩) s.ws.length c) := hb1.cell (j := 0) rfl
      have hcw := ho1.cellAt k (by omega)
      rw [cs32_at hk] at hcw
      have hzw := ho1.frozenAt k
      have HB1 := hide hb1
      have HO1 := hide ho1
      clear c0 c1' hb1 ho1 hk1
      go_wp2
      go_loop [8, 9, 10] (fun n p i => ∃ (j x q : Nat), j ≤ 32 ∧ i = .int .i64 (j : Int) ∧ n = .int .u32 (x : Int) ∧ Hid (x = pb s.ws[k].toNat v.toNat m.toNat j) ∧ x ≤ 4294967295 ∧ p = .int .u32 (q : Int) ∧ Hid (j < 32 → q = 2 ^ j)) (fun _ _ i => 32 - (intOf i).toNat)
      case atStart => exact ⟨0, s.ws[k].toNat, 1, by omega, rfl, rfl, rfl, by have := s.ws[k].toNat_lt; omega, rfl, fun _ => rfl⟩
      case round =>
        obtain ⟨j, x, q, hj, rfl, rfl, HX, hxb, rfl, HQ⟩ := hrel
        by_cases hlt : j < 32
        · have hqj := HQ.out hlt
          have hq1 : 1 ≤ q := by rw [hqj]; exact Nat.pow_pos (by omega)
          obtain ⟨q2, h2q, HQ2⟩ := two_w q j hlt hqj
          have ev := bit_cast v.toNat q
          have en := bit_cast x q
          have em := bit_cast m.toNat q
          have RB := True.intro
          have hqd := True.intro
          have hvl := v.toNat_lt
          have hml := m.toNat_lt
          rcases mod2 (v.toNat / q) with hv0 | hv0
          · rw [hv0] at ev
            rcases mod2 (x / q) with hn1 | hn1
            · rw [hn1] at en
              have HP := hide (pb_no (n := s.ws[k].toNat) (w := v.toNat) (m := m.toNat) (i := j) (by rw [← HX.out, ← hqj]; omega))
              clear hqj hqd RB
              go_wp2
              go_round
              case rel => exact ⟨j + 1, x, q2, by omega, by go_num, rfl, by show x = _; rw [HP.out]; exact HX.out, hxb, rfl, HQ2⟩
              case measure => simp [intOf]; omega
            · rw [hn1] at en
              rcases mod2 (m.toNat / q) with hm1 | hm1
              · rw [hm1] at em
                have HP := hide (pb_no (n := s.ws[k].toNat) (w := v.toNat) (m := m.toNat) (i := j) (by rw [← HX.out, ← hqj]; omega))
                clear hqj hqd RB
                go_wp2
                go_round
                case rel => exact ⟨j + 1, x, q2, by omega, by go_num, rfl, by show x = _; rw [HP.out]; exact HX.out, hxb, rfl, HQ2⟩
                case measure => simp [intOf]; omega
              · rw [hm1] at em
                have HP := hide (pb_yes (n := s.ws[k].toNat) (w := v.toNat) (m := m.toNat) (i := j) (by rw [← hqj]; exact hv0) (by rw [← HX.out, ← hqj]; exact hn1) (by rw [← hqj]; exact hm1))
                have hqx : q ≤ x := by rw [hqj]; exact le_of_bit (by rw [← hqj]; exact hn1)
                have HQJ := hide hqj
                clear hqj hqd RB
                go_wp2
                go_round
                case rel => exact ⟨j + 1, x - q, q2, by omega, by go_num, by go_num, by show x - q = _; rw [HP.out, ← HX.out, ← HQJ.out], by omega, rfl, HQ2⟩
                case measure => simp [intOf]; omega
          · rw [hv0] at ev
            have HP := hide (pb_no (n := s.ws[k].toNat) (w := v.toNat) (m := m.toNat) (i := j) (by rw [← HX.out, ← hqj]; omega))
            clear hqj hqd RB
            go_wp2
            go_round
            case rel => exact ⟨j + 1, x, q2, by omega, by go_num, rfl, by show x = _; rw [HP.out]; exact HX.out, hxb, rfl, HQ2⟩
            case measure => simp [intOf]; omega
        · have hj2 : j = 32 := by omega
          have dj : decide ((j : Int) < 32) = false := by simp; omega
          have hx2 : x = (pw s.ws[k] v m).toNat := by rw [HX.out, hj2]; exact pb_pw _ _ _
          have hst := HO1.out.stored k (.int .u32 (x : Int))
          rw [hx2, cs32_set, proW_is hk] at hst
          have HST := hide hst
          have HBE := hide (HB1.out.other HNE.out k (.int .u32 (x : Int)))
          rw [hx2] at HBE
          have HX2 := hide hx2
          clear hj2 hlt hst HX HQ hx2
          go_wp2
          go_ret
          unfold DoesR
          rw [H2.out, H1.out]
          rw [HX2.out]
          exact ⟨rfl, Rf.of HK.out HNE.out (by intro _ _ e; cases e) HBE.out HST.out.1 rfl, hk1'.trans (Keeps.of_grown HST.out.2) (by simp)⟩
    · have H1 := hide (show proE s (k : Int) = 0 by unfold proE; rw [if_pos hr, hp])
      have H2 := hide (show proS s (k : Int) v = ⟨proW s.ws k v ones32, s.on, s.ops + 1, decP s.plan⟩ by unfold proS; rw [if_pos hr, opS_no hp, Int.toNat_natCast])
      have HK := hide (H2.out ▸ f.ok.proS (k : Int) v)
      have HM := hide (decP_mask hm)
      have hlf := f.ok.left
      clear hb ho h2 hr hm f
      go_enter Try.func33, Try.ntmps33
      go_wp2_with fail
      refine (torn_no g h c _ m s.on s.ops s.plan _ HB.out hp hlf hops).mono ?_
      rintro e w1 ⟨rfl, hb1, hk1⟩
      have ho1 := hk1.own HO.out (fun g' e => by injection e with e; injection e with e; subst e; simpa using fun e => HNE.out e.symm)
      have hk1' : Keeps [g, h] w w1 := hk1.more (by simp)
      have b3 : w1.cell? ⟨g, 3, none⟩ = some (.int .u32 (m.toNat : Int)) := hb1.cell (j := 3) rfl
      have b0 : w1.cell? ⟨g, 0, none⟩ = some (.slice (some ⟨h, 0, none⟩) s.ws.length c) := hb1.cell (j := 0) rfl
      have hcw := ho1.cellAt k (by omega)
      rw [cs32_at hk] at hcw
      have hzw := ho1.frozenAt k
      have HB1 := hide hb1
      have HO1 := hide ho1
      clear c0 c1' hb1 ho1 hk1
      go_wp2
      go_loop [8, 9, 10] (fun n p i => ∃ (j x q : Nat), j ≤ 32 ∧ i = .int .i64 (j : Int) ∧ n = .int .u32 (x : Int) ∧ Hid (x = pb s.ws[k].toNat v.toNat 4294967295 j) ∧ x ≤ 4294967295 ∧ p = .int .u32 (q : Int) ∧ Hid (j < 32 → q = 2 ^ j)) (fun _ _ i => 32 - (intOf i).toNat)
      case atStart => exact ⟨0, s.ws[k].toNat, 1, by omega, rfl, rfl, rfl, by have := s.ws[k].toNat_lt; omega, rfl, fun _ => rfl⟩
      case round =>
        obtain ⟨j, x, q, hj, rfl, rfl, HX, hxb, rfl, HQ⟩ := hrel
        by_cases hlt : j < 32
        · have hqj := HQ.out hlt
          have hq1 : 1 ≤ q := by rw [hqj]; exact Nat.pow_pos (by omega)
          obtain ⟨q2, h2q, HQ2⟩ := two_w q j hlt hqj
          have ev := bit_cast v.toNat q
          have en := bit_cast x q
          have em := bit_cast m.toNat q
          have RB := True.intro
          have hqd := True.intro
          have hvl := v.toNat_lt
          have hml := m.toNat_lt
          have hm1 : 4294967295 / q % 2 = 1 := by rw [hqj]; exact ones_bit j hlt
          rcases mod2 (v.toNat / q) with hv0 | hv0
          · rw [hv0] at ev
            rcases mod2 (x / q) with hn1 | hn1
            · rw [hn1] at en
              have HP := hide (pb_no (n := s.ws[k].toNat) (w := v.toNat) (m := 4294967295) (i := j) (by rw [← HX.out, ← hqj]; omega))
              clear hqj hqd RB
              go_wp2
              go_round
              case rel => exact ⟨j + 1, x, q2, by omega, by go_num, rfl, by show x = _; rw [HP.out]; exact HX.out, hxb, rfl, HQ2⟩
              case measure => simp [intOf]; omega
            · rw [hn1] at en
              have HP := hide (pb_yes (n := s.ws[k].toNat) (w := v.toNat) (m := 4294967295) (i := j) (by rw [← hqj]; exact hv0) (by rw [← HX.out, ← hqj]; exact hn1) (by rw [← hqj]; exact hm1))
              have hqx : q ≤ x := by rw [hqj]; exact le_of_bit (by rw [← hqj]; exact hn1)
              have HQJ := hide hqj
              clear hqj hqd RB
              go_wp2
              go_round
              case rel => exact ⟨j + 1, x - q, q2, by omega, by go_num, by go_num, by show x - q = _; rw [HP.out, ← HX.out, ← HQJ.out], by omega, rfl, HQ2⟩
              case measure => simp [intOf]; omega
          · rw [hv0] at ev
            have HP := hide (pb_no (n := s.ws[k].toNat) (w := v.toNat) (m := 4294967295) (i := j) (by rw [← HX.out, ← hqj]; omega))
            clear hqj hqd RB
            go_wp2
            go_round
            case rel => exact ⟨j + 1, x, q2, by omega, by go_num, rfl, by show x = _; rw [HP.out]; exact HX.out, hxb, rfl, HQ2⟩
            case measure => simp [intOf]; omega
        · have hj2 : j = 32 := by omega
          have dj : decide ((j : Int) < 32) = false := by simp; omega
          have hx2 : x = (pw s.ws[k] v ones32).toNat := by rw [HX.out, hj2]; exact pb_ones _ _
          have hst := HO1.out.stored k (.int .u32 (x : Int))
          rw [hx2, cs32_set, proW_is hk] at hst
          have HST := hide hst
          have HBE := hide (HB1.out.other HNE.out k (.int .u32 (x : Int)))
          rw [hx2] at HBE
          have HX2 := hide hx2
          clear hj2 hlt hst HX HQ hx2
          go_wp2
          go_ret
          unfold DoesR
          rw [H2.out, H1.out]
          rw [HX2.out]
          exact ⟨rfl, Rf.of HK.out HNE.out HM.out HBE.out HST.out.1 rfl, hk1'.trans (Keeps.of_grown HST.out.2) (by simp)⟩
  · have H1 := hide (show proE s a = refE s.on a s.ws.length by unfold proE; rw [if_neg hr])
    have H2 := hide (show proS s a v = s by unfold proS; rw [if_neg hr])
    rcases hon : s.on with _ | _
    · rw [hon] at c1
      have c1' : w.cell? ⟨g, 1, none⟩ = some (.bool true) := c1
      have E := hide (show refE s.on a s.ws.length = 7 by rw [hon]; rfl)
      clear c1 hb ho
      go_enter Try.func33, Try.ntmps33
      go_wp2
      go_ret
      exact ⟨ret_int (by rw [H1.out, E.out]), by rw [H2.out]; exact f, Keeps.refl _ _⟩
    · rw [hon] at c1
      have c1' : w.cell? ⟨g, 1, none⟩ = some (.bool false) := c1
      have E := hide (show refE s.on a s.ws.length = 10 by
        rw [hon] at hr ⊢
        unfold refE at hr ⊢
        rw [if_pos rfl] at hr ⊢
        split at hr
        · omega
        · rw [if_neg (by assumption)])
      by_cases h1 : a < 0
      · have d1 : decide (a < 0) = true := by simpa using h1
        clear c1 hb ho
        go_enter Try.func33, Try.ntmps33
        go_wp2
        go_ret
        exact ⟨ret_int (by rw [H1.out, E.out]), by rw [H2.out]; exact f, Keeps.refl _ _⟩
      · have d1 : decide (a < 0) = false := by simpa using h1
        have d2 : decide ((s.ws.length : Int) ≤ a) = true := by
          rw [decide_eq_true_iff]
          rw [hon] at hr
          unfold refE at hr
          rw [if_pos rfl] at hr
          split at hr
          · omega
          · omega
        clear c1 hb ho
        go_enter Try.func33, Try.ntmps33
        go_wp2
        go_ret
        exact ⟨ret_int (by rw [H1.out, E.out]), by rw [H2.out]; exact f, Keeps.refl _ _⟩
end Go.Proofs.Ytahnfkoakaimhaa
