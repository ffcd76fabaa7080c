/-
  The walk of the law FlashTorn.
-/
import Derived.Test.YtimajdhfgkpndaaFClears
namespace Go.Proofs.Ytimajdhfgkpndaa
open Go.RowKit
set_option maxHeartbeats 8000000

theorem torn_a (o v m : UInt32) : nU (pw o v m) v = nU o v := by
  unfold pw nU
  apply UInt32.eq_of_toBitVec_eq
  show (o.toBitVec &&& ~~~(~~~v.toBitVec &&& m.toBitVec)) &&& v.toBitVec = o.toBitVec &&& v.toBitVec
  ext i hi
  simp
  cases o.toBitVec[i] <;> cases v.toBitVec[i] <;> cases m.toBitVec[i] <;> rfl
theorem torn_b (o v m : UInt32) : dU (pw o v m) o = u0 := by
  unfold pw dU u0
  apply UInt32.eq_of_toBitVec_eq
  show (o.toBitVec &&& ~~~(~~~v.toBitVec &&& m.toBitVec)) &&& ~~~o.toBitVec = 0#32
  ext i hi
  simp
  cases o.toBitVec[i] <;> cases v.toBitVec[i] <;> cases m.toBitVec[i] <;> simp
theorem torn_c (o v m : UInt32) : dU (nU o v) (pw o v m) = u0 := by
  unfold pw dU nU u0
  apply UInt32.eq_of_toBitVec_eq
  show (o.toBitVec &&& v.toBitVec) &&& ~~~(o.toBitVec &&& ~~~(~~~v.toBitVec &&& m.toBitVec)) = 0#32
  ext i hi
  simp
  cases o.toBitVec[i] <;> cases v.toBitVec[i] <;> cases m.toBitVec[i] <;> simp
theorem proS_torn {ws : List UInt32} {k : Nat} (v m : UInt32) (hk : k < ws.length) : proS ⟨ws, true, 0, some (0, m)⟩ (k : Int) v = ⟨proW ws k v m, false, 0, none⟩ ∧ proE ⟨ws, true, 0, some (0, m)⟩ (k : Int) = 7 := by
  have hr : refE true (k : Int) ws.length = 0 := by unfold refE; rw [if_pos rfl, if_pos (by omega)]
  constructor
  · unfold proS
    rw [if_pos hr, opS_yes (x := m) rfl, Int.toNat_natCast]
  · unfold proE; rw [if_pos hr]; rfl
theorem eraS_torn {ws : List UInt32} {q : Nat} (m : UInt32) (hk : q < ws.length / 256) : eraS ⟨ws, true, 0, some (0, m)⟩ (q : Int) = ⟨eraW ws (256 * q) m, false, 0, none⟩ ∧ eraE ⟨ws, true, 0, some (0, m)⟩ (q : Int) = 7 := by
  have hr : refE true (q : Int) (ws.length / 256) = 0 := by unfold refE; rw [if_pos rfl, if_pos (by omega)]
  constructor
  · unfold eraS
    rw [if_pos hr, opS_yes (x := m) rfl, Int.toNat_natCast]
  · unfold eraE; rw [if_pos hr]; rfl
set_option maxRecDepth 10000 in
theorem torn_walk (A : Option Addr) (n c : Nat) (l : List UInt32) (a : Int) (xs : List UInt32) (w : World) (hr : Row w w.heap.size A n c (cs32 l)) (_ha : (Lit.int .i64 a).wf = true) (hxs : xs.length = 2) :
    Calls Try.prog 6 #[.slice A n c, .int .i64 a, .agg (cs32 xs).toArray] w fun e w' => e = .returned (.bool true) ∧ Below w.heap.size w w' := by
  obtain ⟨v, m, rfl⟩ : ∃ v m, xs = [v, m] := by
    rcases xs with _ | ⟨v, _ | ⟨m, _ | ⟨_, _⟩⟩⟩
    · simp at hxs
    · simp at hxs
    · exact ⟨v, m, rfl⟩
    · simp at hxs
  rw [show (cs32 [v, m]).toArray = #[.int .u32 (v.toNat : Int), .int .u32 (m.toNat : Int)] from rfl]
  clear hxs
  obtain ⟨ws, hws⟩ : ∃ ws, ws = rowsL l 512 := ⟨_, rfl⟩
  have hlen : ws.length = 512 := by rw [hws]; exact rowsL_len l 512
  obtain ⟨k, hk⟩ : ∃ k, k = cntN a 512 := ⟨_, rfl⟩
  have hk5 : k < 512 := by rw [hk]; exact cntN_lt a (by omega)
  obtain ⟨q, hq⟩ : ∃ q, q = k / 256 := ⟨_, rfl⟩
  have hqi : (k : Int) / 256 = (q : Int) := by omega
  have hq2 : q ≤ 1 := by omega
  have HW := hide hws
  have HC := hide hk
  have hkb : k ≤ 511 := by omega
  obtain ⟨W1, hW1⟩ : ∃ W1, W1 = proW ws k v m := ⟨_, rfl⟩
  obtain ⟨W2, hW2⟩ : ∃ W2, W2 = eraW ws (256 * q) m := ⟨_, rfl⟩
  obtain ⟨W3, hW3⟩ : ∃ W3, W3 = proW W1 k v ones32 := ⟨_, rfl⟩
  have hl1 : W1.length = 512 := by rw [hW1, proW_len]; exact hlen
  have hl2 : W2.length = 512 := by rw [hW2, eraW_len]; exact hlen
  have hl3 : W3.length = 512 := by rw [hW3, proW_len]; exact hl1
  have hkw : k < ws.length := by omega
  have P0 : Hid (cutS (ofS ws) 0 m = ⟨ws, true, 0, some (0, m)⟩) := rfl
  have P1 : Hid (proS ⟨ws, true, 0, some (0, m)⟩ (k : Int) v = ⟨W1, false, 0, none⟩ ∧ proE ⟨ws, true, 0, some (0, m)⟩ (k : Int) = 7) := by
    rw [hW1]; exact proS_torn v m hkw
  have P2 : Hid (eraS ⟨ws, true, 0, some (0, m)⟩ (q : Int) = ⟨W2, false, 0, none⟩ ∧ eraE ⟨ws, true, 0, some (0, m)⟩ (q : Int) = 7) := by
    rw [hW2]; exact eraS_torn m (by omega)
  have P3 : Hid (proS ⟨W1, true, 0, none⟩ (k : Int) v = ⟨W3, true, 1, none⟩ ∧ proE ⟨W1, true, 0, none⟩ (k : Int) = 0) := by
    rw [hW3]; exact proS_on (s := ⟨W1, true, 0, none⟩) (k := k) v rfl rfl (by show k < W1.length; omega)
  have e1k : W1[k]? = some (pw ws[k] v m) := by rw [hW1, proW_get v m hkw, if_pos rfl]
  have P4 : Hid (refE true (k : Int) W3.length = 0 ∧ reaV ⟨W3, true, 1, none⟩ (k : Int) = nU ws[k] v) := by
    have h1 : refE true (k : Int) W3.length = 0 := by unfold refE; rw [if_pos rfl, if_pos (by omega)]
    refine ⟨h1, ?_⟩
    unfold reaV
    rw [if_pos h1, Int.toNat_natCast, List.getD_eq_getElem?_getD]
    have hk1 : k < W1.length := by omega
    have e3 : W3[k]? = some (nU ws[k] v) := by
      rw [hW3, proW_get v ones32 hk1, if_pos rfl, pw_ones]
      have : W1[k] = pw ws[k] v m := by rw [List.getElem?_eq_getElem hk1] at e1k; exact Option.some.inj e1k
      rw [this, torn_a]
    show (W3[k]?).getD 0 = _
    rw [e3]; rfl
  have L1 := hide hl1
  have L2 := hide hl2
  have HW1 := hide hW1
  have HW2 := hide hW2
  have HL := hide hlen
  have HQ := hide hq
  have E1 := hide e1k
  clear hws hk hlen hk5 hq hW1 hW2 hW3 hl1 hl2 hl3 e1k
  go_enter Try.func6, Try.ntmps6
  go_wp2_with fail
  have bx0 := Blk.new w 47 [.int .u32 (v.toNat : Int), .int .u32 (m.toNat : Int)]
  have k0 := (Keeps.refl [] w).alloc (.cells #[.int .u32 (v.toNat : Int), .int .u32 (m.toNat : Int)] 47)
  have hw0 : (w.alloc (.cells #[.int .u32 (v.toNat : Int), .int .u32 (m.toNat : Int)] 47)).heap.size = w.heap.size + 1 := by simp
  generalize w.alloc _ = w0 at bx0 k0 hw0 ⊢
  have hr0 := k0.row hr (Nat.le_refl _) (by simp)
  refine (rows_any _ _ _ l _ (hr0.more (by omega))).mono ?_
  rintro e w1 ⟨g1, h1, rfl, f1, k1, hg1, hh1⟩
  rw [← HW.out] at f1
  have bx1 := k1.blk bx0 (by simp)
  have hr1 := k1.row hr0 (by omega) (by simp)
  have b1 := f1.lt
  have b2 := f1.lt2
  have s1 := k1.size
  clear bx0
  go_wp2_with fail
  refine (rows_any _ _ _ l _ (hr1.more (by omega))).mono ?_
  rintro e w2 ⟨g2, h2, rfl, f2, k2, hg2, hh2⟩
  rw [← HW.out] at f2
  have fa2 := k2.fl f1 (by simp) (by simp)
  have bx2 := k2.blk bx1 (by simp)
  have x20 := bx2.cell (j := 0) rfl
  have b3 := f2.lt
  have b4 := f2.lt2
  have s2 := k2.size
  have k02 : Keeps [] w w2 := (k0.trans k1 (by simp)).trans k2 (by simp)
  clear bx1 f1 k0 k1 k2 hr0 hr1
  go_wp2_with (go_at_call 27; refine (Count_512 _ _).mono ?_; rintro e w9 ⟨rfl, rfl⟩; rw [← HC.out])
  refine (Words_512 g1 h1 _ _ fa2 HL.out).mono ?_
  rintro e w3 ⟨x1, c1, rfl, o3, k3, hx1⟩
  have fa3 := k3.fl fa2 (by simp) (by simp)
  have fb3 := k3.fl f2 (by simp) (by simp)
  have bx3 := k3.blk bx2 (by simp)
  have x31 := bx3.cell (j := 1) rfl
  have s3 := k3.size
  have b5 := own_lt o3
  have k03 : Keeps [] w w3 := k02.trans k3 (by simp)
  clear fa2 f2 bx2 k02 k3 x20
  go_wp2_with fail
  refine (Cut_any g1 h1 _ 0 m _ fa3 (by omega)).mono ?_
  rintro e w4 ⟨rfl, fa4, k4⟩
  rw [P0.out] at fa4
  have fb4 := k4.fl fb3 (by simp; omega) (by simp; omega)
  have bx4 := k4.blk bx3 (by simp; omega)
  have o4 := k4.own1 o3 (by simp; omega)
  have x41 := bx4.cell (j := 1) rfl
  have s4 := k4.size
  have k04 : Keeps [] w w4 := k03.trans k4 (by simp; omega)
  clear fa3 fb3 bx3 o3 k03 k4 x31
  go_wp2_with fail
  refine (Cut_any g2 h2 _ 0 m _ fb4 (by omega)).mono ?_
  rintro e w5 ⟨rfl, fb5, k5⟩
  rw [P0.out] at fb5
  have fa5 := k5.fl fa4 (by simp; omega) (by simp; omega)
  have o5 := k5.own1 o4 (by simp; omega)
  have s5 := k5.size
  have k05 : Keeps [] w w5 := k04.trans k5 (by simp; omega)
  clear fa4 fb4 bx4 o4 k04 k5 x41
  go_wp2_with fail
  refine (Program_any g1 h1 _ _ v _ fa5 (by show 0 ≤ _; omega)).mono ?_
  rintro e w6 ⟨rfl, fa6, k6⟩
  rw [P1.out.1] at fa6
  rw [P1.out.2]
  have fb6 := k6.fl fb5 (by simp; omega) (by simp; omega)
  have o6 := k6.own1 o5 (by simp; omega)
  have s6 := k6.size
  have k06 : Keeps [] w w6 := k05.trans k6 (by simp; omega)
  clear fa5 fb5 o5 k05 k6
  go_wp2_with fail
  refine (Erase_any g2 h2 _ _ _ fb6 (by show 0 ≤ _; omega)).mono ?_
  rintro e w7 ⟨rfl, fb7, k7⟩
  rw [P2.out.1] at fb7
  rw [P2.out.2]
  have fa7 := k7.fl fa6 (by simp; omega) (by simp; omega)
  have o7 := k7.own1 o6 (by simp; omega)
  have s7 := k7.size
  have k07 : Keeps [] w w7 := k06.trans k7 (by simp; omega)
  clear fa6 fb6 o6 k06 k7
  go_wp2_with fail
  refine (On_any g1 h1 _ _ fa7).mono ?_
  rintro e w9 ⟨rfl, rfl⟩
  go_wp2_with fail
  refine (On_any g2 h2 _ _ fb7).mono ?_
  rintro e w9 ⟨rfl, rfl⟩
  go_wp2_with fail
  refine (Words_512 g1 h1 _ _ fa7 L1.out).mono ?_
  rintro e w8 ⟨x2, c2, rfl, p8, k8, hx2⟩
  have fa8 := k8.fl fa7 (by simp) (by simp)
  have fb8 := k8.fl fb7 (by simp) (by simp)
  have o8 := k8.own1 o7 (by simp)
  have s8 := k8.size
  have b6 := own_lt p8
  have k08 : Keeps [] w w8 := k07.trans k8 (by simp)
  clear fa7 fb7 o7 k07 k8
  go_wp2_with fail
  refine (Words_512 g2 h2 _ _ fb8 L2.out).mono ?_
  rintro e w9 ⟨x3, c3, rfl, q9, k9, hx3⟩
  have fa9 := k9.fl fa8 (by simp) (by simp)
  have o9 := k9.own1 o8 (by simp)
  have p9 := k9.own1 p8 (by simp)
  have s9 := k9.size
  have k09 : Keeps [] w w9 := k08.trans k9 (by simp)
  clear fa8 fb8 o8 p8 k08 k9
  go_wp2_with fail
  refine (Start_any g1 h1 _ _ fa9).mono ?_
  rintro e w10 ⟨rfl, fa10, k10⟩
  have fa10' : Fl w10 g1 h1 ⟨W1, true, 0, none⟩ := fa10
  have o10 := k10.own1 o9 (by simp; omega)
  have p10 := k10.own1 p9 (by simp; omega)
  have q10 := k10.own1 q9 (by simp; omega)
  have k010 : Keeps [] w w10 := k09.trans k10 (by simp; omega)
  clear fa9 o9 p9 q9 k09 fa10
  go_wp2_with fail
  refine (Program_any g1 h1 _ _ v _ fa10' (by show 0 ≤ _; omega)).mono ?_
  rintro e w11 ⟨rfl, fa11, k11⟩
  rw [P3.out.1] at fa11
  rw [P3.out.2]
  have o11 := k11.own1 o10 (by simp; omega)
  have p11 := k11.own1 p10 (by simp; omega)
  have q11 := k11.own1 q10 (by simp; omega)
  have k011 : Keeps [] w w11 := k010.trans k11 (by simp; omega)
  clear fa10' o10 p10 q10 k010 k10 k11
  go_wp2_with fail
  refine (Read_any g1 h1 _ _ _ fa11).mono ?_
  rintro e w12 ⟨rfl, rfl⟩
  rw [show refE (FS.mk W3 true 1 none).on (k : Int) (FS.mk W3 true 1 none).ws.length = 0 from P4.out.1, P4.out.2]
  have O1 := hide o11
  have O2 := hide p11
  have O3 := hide q11
  have yk : w11.cell? ⟨x1, k, none⟩ = some (.int .u32 (ws[k].toNat : Int)) := by have := o11.cellAt k (by omega); rwa [cs32_at (show k < (ofS ws).ws.length from hkw)] at this
  have yk2 : w11.cell? ⟨x2, k, none⟩ = some (.int .u32 ((pw ws[k] v m).toNat : Int)) := by have := p11.cellAt k (by omega); rwa [cs32_get E1.out] at this
  have ha := and_w
  have hd := andNot_w
  have hta := congrArg UInt32.toNat (torn_b ws[k] v m)
  have htb := congrArg UInt32.toNat (torn_c ws[k] v m)
  rw [show u0.toNat = 0 from rfl] at hta htb
  clear o11 p11 q11 fa11 hg1 hh1 hg2 hh2 b1 b2 b3 b4 b5 b6 s1 s2 s3 s4 s5 s6 s7 s8 s9 hx1 hx2 hx3 hw0
  have K11 := hide k011
  clear k011
  go_wp2_with fail
  go_quiet (fail)
  have K12 := hide (K11.out.drewN nq)
  have O1d : Hid ((w11.drewN nq).ownsRow 0 28 1 (.slice (some ⟨x1, 0, none⟩) 512 c1) 512 (cs32 ws)) := O1.out
  have O2d : Hid ((w11.drewN nq).ownsRow 0 28 1 (.slice (some ⟨x2, 0, none⟩) 512 c2) 512 (cs32 W1)) := O2.out
  have O3d : Hid ((w11.drewN nq).ownsRow 0 28 1 (.slice (some ⟨x3, 0, none⟩) 512 c3) 512 (cs32 W2)) := O3.out
  clear O1 O2 O3 K11 yk yk2 hta htb E1
  generalize w11.drewN nq = w12 at K12 O1d O2d O3d ⊢
  go_wp2
  obtain ⟨hi, hhi⟩ : ∃ hi, hi = 256 * q + m.toNat % 257 := ⟨_, rfl⟩
  have HHI := hide hhi
  clear hhi
  go_loopw [20, 21] (fun me i wr => ∃ (j t : Nat) (mb : Bool), j ≤ 512 ∧ i = .int .i64 (j : Int) ∧ me = .bool mb ∧ Hid (j ≤ hi → mb = false) ∧ wr = w12.drewN t) (fun _ i _ => 512 - (intOf i).toNat)
  case atStart => exact ⟨0, 0, false, by omega, rfl, rfl, fun _ => rfl, rfl⟩
  case round =>
    obtain ⟨j, t, mb, hj, rfl, rfl, HM, rfl⟩ := hrel
    by_cases hlt : j < 512
    · have dj : decide ((j : Int) < 512) = true := by simp; omega
      have hjw : j < ws.length := by have := HL.out; omega
      have y1 := O1d.out.cellAt j (by omega)
      have y2 := O2d.out.cellAt j (by omega)
      have y3 := O3d.out.cellAt j (by omega)
      rw [cs32_at hjw] at y1
      have y2g : W1[j]? = some (if j = k then pw ws[j] v m else ws[j]) := by rw [HW1.out]; exact proW_get v m hjw
      have y3g : W2[j]? = some (if 256 * q ≤ j ∧ j < 256 * q + m.toNat % 257 then ones32 else ws[j]) := by rw [HW2.out]; exact eraW_get m hjw
      rw [← HHI.out] at y3g
      rw [cs32_get y2g] at y2
      rw [cs32_get y3g] at y3
      obtain ⟨qj, hqj⟩ : ∃ qj, qj = j / 256 := ⟨_, rfl⟩
      have hqji : (j : Int) / 256 = (qj : Int) := by omega
      have HQJ := hide hqj
      have HLT := hide hlt
      have hjb : j ≤ 511 := by omega
      have hhb : hi ≤ 256 * q + 256 := by have := HHI.out; omega
      clear y2g y3g hqj ha hd hj hlt
      by_cases hqq : qj = q
      · subst hqq
        by_cases hin : j < hi
        · rw [if_pos ⟨by have := HQJ.out; omega, hin⟩, ones32_toNat, show ((4294967295 : Nat) : Int) = 4294967295 from rfl] at y3
          obtain rfl : mb = false := HM.out (by omega)
          have HM2 : Hid (j + 1 ≤ hi → false = false) := fun _ => rfl
          clear HQJ hhb hin
          by_cases hjk : j = k
          · rw [if_pos hjk] at y2
            subst hjk
            clear hqi
            go_wp2
            go_quiet (fail)
            go_wp2
            go_quiet (fail)
            go_wp2
            go_quiet (fail)
            go_wp2
            have hlt := HLT.out
            go_roundw
            case rel => exact ⟨j + 1, _, false, by omega, by go_num, rfl, fun _ => rfl, rfl⟩
            case measure => simp [intOf]; omega
          · rw [if_neg hjk] at y2
            have n0 : ((j : Int) != (k : Int)) = true := by rw [bne_iff_ne]; omega
            clear hjk
            go_wp2
            go_quiet (fail)
            go_wp2
            go_quiet (fail)
            go_wp2
            go_quiet (fail)
            go_wp2
            have hlt := HLT.out
            go_roundw
            case rel => exact ⟨j + 1, _, false, by omega, by go_num, rfl, fun _ => rfl, rfl⟩
            case measure => simp [intOf]; omega
        · rw [if_neg (fun h => hin h.2)] at y3
          have hni : ¬ j + 1 ≤ hi := by omega
          have HN := hide hni
          clear HQJ hhb hin hni HM
          have HM2 : ∀ b : Bool, Hid (j + 1 ≤ hi → b = false) := fun _ h => absurd h HN.out
          rcases mb with _ | _
          · rcases hon : ((ws[j].toNat : Int) == 4294967295) with _ | _
            · replace HM2 := HM2 true
              by_cases hjk : j = k
              · rw [if_pos hjk] at y2
                subst hjk
                clear hqi
                go_wp2
                go_quiet (fail)
                go_wp2
                go_quiet (fail)
                go_wp2
                go_quiet (fail)
                go_wp2
                have hlt := HLT.out
                go_roundw
                case rel => exact ⟨j + 1, _, true, by omega, by go_num, rfl, HM2, rfl⟩
                case measure => simp [intOf]; omega
              · rw [if_neg hjk] at y2
                have n0 : ((j : Int) != (k : Int)) = true := by rw [bne_iff_ne]; omega
                clear hjk
                go_wp2
                go_quiet (fail)
                go_wp2
                go_quiet (fail)
                go_wp2
                go_quiet (fail)
                go_wp2
                have hlt := HLT.out
                go_roundw
                case rel => exact ⟨j + 1, _, true, by omega, by go_num, rfl, HM2, rfl⟩
                case measure => simp [intOf]; omega
            · replace HM2 := HM2 false
              by_cases hjk : j = k
              · rw [if_pos hjk] at y2
                subst hjk
                clear hqi
                go_wp2
                go_quiet (fail)
                go_wp2
                go_quiet (fail)
                go_wp2
                go_quiet (fail)
                go_wp2
                have hlt := HLT.out
                go_roundw
                case rel => exact ⟨j + 1, _, false, by omega, by go_num, rfl, fun _ => rfl, rfl⟩
                case measure => simp [intOf]; omega
              · rw [if_neg hjk] at y2
                have n0 : ((j : Int) != (k : Int)) = true := by rw [bne_iff_ne]; omega
                clear hjk
                go_wp2
                go_quiet (fail)
                go_wp2
                go_quiet (fail)
                go_wp2
                go_quiet (fail)
                go_wp2
                have hlt := HLT.out
                go_roundw
                case rel => exact ⟨j + 1, _, false, by omega, by go_num, rfl, fun _ => rfl, rfl⟩
                case measure => simp [intOf]; omega
          · rcases hon : ((ws[j].toNat : Int) == 4294967295) with _ | _
            · replace HM2 := HM2 true
              by_cases hjk : j = k
              · rw [if_pos hjk] at y2
                subst hjk
                clear hqi
                go_wp2
                go_quiet (fail)
                go_wp2
                go_quiet (fail)
                go_wp2
                go_quiet (fail)
                go_wp2
                have hlt := HLT.out
                go_roundw
                case rel => exact ⟨j + 1, _, true, by omega, by go_num, rfl, HM2, rfl⟩
                case measure => simp [intOf]; omega
              · rw [if_neg hjk] at y2
                have n0 : ((j : Int) != (k : Int)) = true := by rw [bne_iff_ne]; omega
                clear hjk
                go_wp2
                go_quiet (fail)
                go_wp2
                go_quiet (fail)
                go_wp2
                go_quiet (fail)
                go_wp2
                have hlt := HLT.out
                go_roundw
                case rel => exact ⟨j + 1, _, true, by omega, by go_num, rfl, HM2, rfl⟩
                case measure => simp [intOf]; omega
            · replace HM2 := HM2 true
              by_cases hjk : j = k
              · rw [if_pos hjk] at y2
                subst hjk
                clear hqi
                go_wp2
                go_quiet (fail)
                go_wp2
                go_quiet (fail)
                go_wp2
                go_quiet (fail)
                go_wp2
                have hlt := HLT.out
                go_roundw
                case rel => exact ⟨j + 1, _, true, by omega, by go_num, rfl, HM2, rfl⟩
                case measure => simp [intOf]; omega
              · rw [if_neg hjk] at y2
                have n0 : ((j : Int) != (k : Int)) = true := by rw [bne_iff_ne]; omega
                clear hjk
                go_wp2
                go_quiet (fail)
                go_wp2
                go_quiet (fail)
                go_wp2
                go_quiet (fail)
                go_wp2
                have hlt := HLT.out
                go_roundw
                case rel => exact ⟨j + 1, _, true, by omega, by go_num, rfl, HM2, rfl⟩
                case measure => simp [intOf]; omega
      · have hjk : j ≠ k := by have := HQ.out; have := HQJ.out; omega
        rw [if_neg hjk] at y2
        have hno : ¬ (256 * q ≤ j ∧ j < hi) := by have := HQJ.out; omega
        rw [if_neg hno] at y3
        have n0 : ((j : Int) != (k : Int)) = true := by rw [bne_iff_ne]; omega
        have n1 : ((qj : Int) == (q : Int)) = false := by rw [beq_eq_false_iff_ne]; omega
        have n2 : ((qj : Int) != (q : Int)) = true := by rw [bne_iff_ne]; omega
        have HM2 : Hid (j + 1 ≤ hi → mb = false) := fun h => HM.out (by omega)
        clear hno HQJ hqq hjk hhb
        go_wp2
        go_quiet (fail)
        go_wp2
        go_quiet (fail)
        go_wp2
        have hlt := HLT.out
        go_roundw
        case rel => exact ⟨j + 1, _, mb, by omega, by go_num, rfl, HM2, rfl⟩
        case measure => simp [intOf]; omega
    · have dj : decide ((j : Int) < 512) = false := by simp; omega
      clear hlt hj
      go_wp2_with (go_at_call 23; refine (known_any _).mono ?_; rintro e w7 ⟨rfl, k7⟩)
      go_ret
      exact ⟨rfl, ((K12.out.drewN t).trans k7 (by simp)).back⟩
end Go.Proofs.Ytimajdhfgkpndaa
