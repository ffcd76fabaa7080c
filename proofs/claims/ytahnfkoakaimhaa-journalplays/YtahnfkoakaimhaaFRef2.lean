/-
  Contracts of the reference of layer 6 (midstreamref06): Erase, Program.
-/
import Derived.Test.YtahnfkoakaimhaaFRef
namespace Go.Proofs.Ytahnfkoakaimhaa
open Go.RowKit
set_option maxHeartbeats 400000

theorem plan_cases (p : Option (Nat × UInt32)) : (∃ x, p = some (0, x)) ∨ planE p = 0 := by
  rcases p with _ | ⟨_ | k, x⟩
  · exact .inr rfl
  · exact .inl ⟨x, rfl⟩
  · exact .inr rfl
theorem eraW_256 (ws : List UInt32) (lo j : Nat) (hj : j = 256) : fillW ws lo j = eraW ws lo s256 := by
  subst hj; unfold eraW; rw [s256_toNat, Nat.mod_eq_of_lt (by omega)]
theorem opS_no {s : FS} (h : planE s.plan = 0) (eff : UInt32 → List UInt32) (wh : UInt32) : opS s eff wh = ⟨eff wh, s.on, s.ops + 1, decP s.plan⟩ := by
  obtain ⟨ws, on, ops, plan⟩ := s
  rcases plan with _ | ⟨_ | k, x⟩
  · rfl
  · cases h
  · rfl
theorem opS_yes {s : FS} {x : UInt32} (h : s.plan = some (0, x)) (eff : UInt32 → List UInt32) (wh : UInt32) : opS s eff wh = ⟨eff x, false, s.ops, none⟩ := by
  obtain ⟨ws, on, ops, plan⟩ := s
  subst h
  rfl
theorem decP_mask {p : Option (Nat × UInt32)} {m : UInt32} (h : ∀ k x, p = some (k, x) → m = x) : ∀ k x, decP p = some (k, x) → m = x := by
  rcases p with _ | ⟨_ | k, x⟩
  · intro k x e; cases e
  · intro k x e; cases e
  · intro k2 x2 e
    have : x = x2 := by injection e with e; injection e
    subst this
    exact h _ _ rfl
theorem rErase_any (g h : Nat) (s : FS) (a : Int) (w : World) (f : Rf w g h s) (hops : s.ops ≤ 4611686018427387904) :
    Calls Try.prog 32 #[.pointer (some ⟨g, 0, none⟩), .int .i64 a] w (DoesR w g h (eraS s a) (.int .i64 (eraE s a))) := by
  obtain ⟨q, hq⟩ : ∃ q, q = s.ws.length / 256 := ⟨_, rfl⟩
  have hdv : (s.ws.length : Int) / 256 = (q : Int) := by omega
  obtain ⟨c, m, hm, hb, ho⟩ := f.ex
  have hl := len_pos f.ok
  have c0 : w.cell? ⟨g, 0, none⟩ = some (.slice (some ⟨h, 0, none⟩) s.ws.length c) := hb.cell (j := 0) rfl
  have c1 : w.cell? ⟨g, 1, none⟩ = some (.bool (!s.on)) := hb.cell (j := 1) rfl
  by_cases hr : refE s.on a q = 0
  · have hon : s.on = true := by
      unfold refE at hr; split at hr
      · assumption
      · omega
    have h2 := refE_in hr
    rw [hon] at c1
    have c1' : w.cell? ⟨g, 1, none⟩ = some (.bool false) := c1
    clear c1
    obtain ⟨k, rfl⟩ : ∃ k : Nat, a = (k : Int) := ⟨a.toNat, by omega⟩
    have d1 : decide ((k : Int) < 0) = false := by simp
    have d2 : decide ((q : Int) ≤ (k : Int)) = false := by simp; omega
    have hlo2 := h2
    obtain ⟨lo, hlo⟩ : ∃ lo, lo = 256 * k := ⟨_, rfl⟩
    have hki : (k : Int) * 256 = (lo : Int) := by omega
    have hk2 : lo + 256 ≤ s.ws.length := by omega
    have HB := hide (show Blk w g 62 (rfN h c s.ws.length m ⟨[], s.on, s.ops, s.plan⟩) from hb)
    have HO := hide ho
    have HNE := hide f.ne
    rcases plan_cases s.plan with ⟨x, hp⟩ | hp
    · obtain rfl := hm _ _ hp
      obtain ⟨kk, hkk⟩ : ∃ kk : Nat, kk = m.toNat % 257 := ⟨_, rfl⟩
      have hkk2 : kk ≤ 256 := by omega
      have hmk : (m.toNat : Int) % 257 = (kk : Int) := by omega
      have H1 := hide (show eraE s (k : Int) = 7 by unfold eraE; rw [← hq, if_pos hr, hp]; rfl)
      have H2 := hide (show eraS s (k : Int) = ⟨fillW s.ws lo kk, false, s.ops, none⟩ by unfold eraS; rw [← hq, if_pos hr, opS_yes hp, Int.toNat_natCast, ← hlo]; unfold eraW; rw [← hkk])
      have HK := hide (H2.out ▸ f.ok.eraS (k : Int))
      rw [hp] at HB
      have hml := m.toNat_lt
      clear hb ho h2 hr hlo hkk hm hq hp hlo2 f
      go_enter Try.func32, Try.ntmps32
      go_wp2_with fail
      refine (torn_yes g h c _ m m s.on s.ops _ HB.out).mono ?_
      rintro e w1 ⟨rfl, hb1, hk1⟩
      have ho1 := hk1.own HO.out (fun g' e => by injection e with e; injection e with e; subst e; simpa using fun e => HNE.out e.symm)
      have hk1' : Keeps [g, h] w w1 := hk1.more (by simp)
      have b3 : w1.cell? ⟨g, 3, none⟩ = some (.int .u32 (m.toNat : Int)) := hb1.cell (j := 3) rfl
      clear c0 c1'
      go_wp2
      clear b3
      go_loopw [7] (fun i wr => ∃ j : Nat, j ≤ kk ∧ i = .int .i64 (j : Int) ∧ Blk wr g 62 (rfN h c s.ws.length m ⟨[], false, s.ops, none⟩) ∧ wr.ownsRow 0 37 1 (.slice (some ⟨h, 0, none⟩) s.ws.length c) s.ws.length (cs32 (fillW s.ws lo j)) ∧ Keeps [g, h] w wr) (fun i _ => kk - (intOf i).toNat)
      case atStart => exact ⟨0, Nat.zero_le _, rfl, hb1, ho1, hk1'⟩
      case round =>
        clear hb1 ho1 hk1 hk1'
        obtain ⟨j, hj, rfl, hb, ho, hkp⟩ := hrel
        have b0 : wr.cell? ⟨g, 0, none⟩ = some (.slice (some ⟨h, 0, none⟩) s.ws.length c) := hb.cell (j := 0) rfl
        by_cases hlt : j < kk
        · have hl2 := fillW_len s.ws lo j
          have hjl : lo + j < (fillW s.ws lo j).length := by omega
          have hc := ho.cellAt (lo + j) (by omega)
          rw [cs32_at hjl] at hc
          have hz := ho.frozenAt (lo + j)
          have hst := ho.stored (lo + j) (.int .u32 (ones32.toNat : Int))
          rw [cs32_set] at hst
          rw [show (ones32.toNat : Int) = 4294967295 from rfl] at hst
          have HST := hide hst
          have HB2 := hide (hb.other HNE.out (lo + j) (.int .u32 4294967295))
          have HL := hide hl2
          clear hb ho hst hl2
          go_wp2
          go_roundw
          case rel => exact ⟨j + 1, by omega, by go_num, HB2.out, HST.out.1, hkp.trans (Keeps.of_grown HST.out.2) (by simp)⟩
          case measure => simp [intOf]; omega
        · obtain rfl : j = kk := by omega
          go_wp2
          go_ret
          unfold DoesR
          rw [H2.out, H1.out]
          exact ⟨rfl, Rf.of HK.out HNE.out (by intro _ _ e; cases e) hb ho rfl, hkp⟩
    · have H1 := hide (show eraE s (k : Int) = 0 by unfold eraE; rw [← hq, if_pos hr, hp])
      have H2 := hide (show eraS s (k : Int) = ⟨eraW s.ws lo s256, s.on, s.ops + 1, decP s.plan⟩ by unfold eraS; rw [← hq, if_pos hr, opS_no hp, Int.toNat_natCast, ← hlo])
      have HW := hide (fun j (hj : j = 256) => eraW_256 s.ws lo j hj)
      have HK := hide (H2.out ▸ f.ok.eraS (k : Int))
      have HM := hide (decP_mask hm)
      have hlf := f.ok.left
      clear hb ho h2 hr hlo hm hq hlo2 f
      go_enter Try.func32, Try.ntmps32
      go_wp2_with fail
      refine (torn_no g h c _ m s.on s.ops s.plan _ HB.out hp hlf hops).mono ?_
      rintro e w1 ⟨rfl, hb1, hk1⟩
      have ho1 := hk1.own HO.out (fun g' e => by injection e with e; injection e with e; subst e; simpa using fun e => HNE.out e.symm)
      have hk1' : Keeps [g, h] w w1 := hk1.more (by simp)
      have b3 : w1.cell? ⟨g, 3, none⟩ = some (.int .u32 (m.toNat : Int)) := hb1.cell (j := 3) rfl
      clear c0 c1'
      go_wp2
      clear b3
      go_loopw [7] (fun i wr => ∃ j : Nat, j ≤ 256 ∧ i = .int .i64 (j : Int) ∧ Blk wr g 62 (rfN h c s.ws.length m ⟨[], s.on, s.ops + 1, decP s.plan⟩) ∧ wr.ownsRow 0 37 1 (.slice (some ⟨h, 0, none⟩) s.ws.length c) s.ws.length (cs32 (fillW s.ws lo j)) ∧ Keeps [g, h] w wr) (fun i _ => 256 - (intOf i).toNat)
      case atStart => exact ⟨0, Nat.zero_le _, rfl, hb1, ho1, hk1'⟩
      case round =>
        clear hb1 ho1 hk1 hk1'
        obtain ⟨j, hj, rfl, hb, ho, hkp⟩ := hrel
        have b0 : wr.cell? ⟨g, 0, none⟩ = some (.slice (some ⟨h, 0, none⟩) s.ws.length c) := hb.cell (j := 0) rfl
        by_cases hlt : j < 256
        · have hl2 := fillW_len s.ws lo j
          have hjl : lo + j < (fillW s.ws lo j).length := by omega
          have hc := ho.cellAt (lo + j) (by omega)
          rw [cs32_at hjl] at hc
          have hz := ho.frozenAt (lo + j)
          have hst := ho.stored (lo + j) (.int .u32 (ones32.toNat : Int))
          rw [cs32_set] at hst
          rw [show (ones32.toNat : Int) = 4294967295 from rfl] at hst
          have HST := hide hst
          have HB2 := hide (hb.other HNE.out (lo + j) (.int .u32 4294967295))
          have HL := hide hl2
          have dj : decide ((j : Int) < 256) = true := by simp; omega
          have hjb : lo + j < s.ws.length := by omega
          have HLT := hide hlt
          have HJ := hide hj
          clear hb ho hst hl2 hlt hj
          go_wp2
          go_roundw
          case rel => exact ⟨j + 1, by have := HLT.out; omega, by go_num, HB2.out, HST.out.1, hkp.trans (Keeps.of_grown HST.out.2) (by simp)⟩
          case measure => have := HLT.out; simp [intOf]; omega
        · have hj6 : j = 256 := by omega
          have dj : decide ((j : Int) < 256) = false := by simp; omega
          rw [HW.out j hj6] at ho
          clear hj6 hlt
          go_wp2
          go_ret
          unfold DoesR
          rw [H2.out, H1.out]
          exact ⟨rfl, Rf.of HK.out HNE.out HM.out hb ho rfl, hkp⟩
  · have H1 := hide (show eraE s a = refE s.on a q by unfold eraE; rw [← hq, if_neg hr])
    have H2 := hide (show eraS s a = s by unfold eraS; rw [← hq, if_neg hr])
    rcases hon : s.on with _ | _
    · rw [hon] at c1
      have c1' : w.cell? ⟨g, 1, none⟩ = some (.bool true) := c1
      have E := hide (show refE s.on a q = 7 by rw [hon]; rfl)
      clear c1 hb ho hq
      go_enter Try.func32, Try.ntmps32
      go_wp2
      go_ret
      exact ⟨ret_int (by rw [H1.out, E.out]), by rw [H2.out]; exact f, Keeps.refl _ _⟩
    · rw [hon] at c1
      have c1' : w.cell? ⟨g, 1, none⟩ = some (.bool false) := c1
      have E := hide (show refE s.on a q = 10 by
        rw [hon] at hr ⊢
        unfold refE at hr ⊢
        rw [if_pos rfl] at hr ⊢
        split at hr
        · omega
        · rw [if_neg (by assumption)])
      by_cases h1 : a < 0
      · have d1 : decide (a < 0) = true := by simpa using h1
        clear c1 hb ho hq
        go_enter Try.func32, Try.ntmps32
        go_wp2
        go_ret
        exact ⟨ret_int (by rw [H1.out, E.out]), by rw [H2.out]; exact f, Keeps.refl _ _⟩
      · have d1 : decide (a < 0) = false := by simpa using h1
        have d2 : decide ((q : Int) ≤ a) = true := by
          rw [decide_eq_true_iff]
          rw [hon] at hr
          unfold refE at hr
          rw [if_pos rfl] at hr
          split at hr
          · omega
          · omega
        clear c1 hb ho hq
        go_enter Try.func32, Try.ntmps32
        go_wp2
        go_ret
        exact ⟨ret_int (by rw [H1.out, E.out]), by rw [H2.out]; exact f, Keeps.refl _ _⟩
end Go.Proofs.Ytahnfkoakaimhaa
