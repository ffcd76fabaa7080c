/-
  The walk of the law FlashClears.
-/
import Derived.Test.YtimajdhfgkpndaaFRows
namespace Go.Proofs.Ytimajdhfgkpndaa
open Go.RowKit
set_option maxHeartbeats 800000

theorem u32_of {a : Int} (h : (Lit.int .u32 a).wf = true) : ∃ v : UInt32, a = (v.toNat : Int) := by
  have h1 : 0 ≤ a ∧ a ≤ 4294967295 := by simpa [Lit.wf, IntKind.min, IntKind.max, IntKind.signed, IntKind.bits] using h
  exact ⟨word a.toNat, by rw [word_toNat]; omega⟩
theorem pw_ones (old v : UInt32) : pw old v ones32 = nU old v := by
  unfold pw nU
  apply UInt32.eq_of_toBitVec_eq
  show old.toBitVec &&& ~~~(~~~v.toBitVec &&& BitVec.allOnes 32) = old.toBitVec &&& v.toBitVec
  rw [BitVec.and_allOnes, BitVec.not_not]
theorem proS_on {s : FS} {k : Nat} (v : UInt32) (hon : s.on = true) (hp : s.plan = none) (hk : k < s.ws.length) : proS s (k : Int) v = ⟨proW s.ws k v ones32, true, s.ops + 1, none⟩ ∧ proE s (k : Int) = 0 := by
  have hr : refE s.on (k : Int) s.ws.length = 0 := by unfold refE; rw [if_pos hon, if_pos (by omega)]
  have hd : planE s.plan = 0 := by rw [hp]; rfl
  constructor
  · unfold proS
    rw [if_pos hr, opS_no hd, Int.toNat_natCast, hp, hon]
    rfl
  · unfold proE; rw [if_pos hr, hd]
theorem eraS_on {s : FS} {q : Nat} (hon : s.on = true) (hp : s.plan = none) (hk : q < s.ws.length / 256) : eraS s (q : Int) = ⟨eraW s.ws (256 * q) s256, true, s.ops + 1, none⟩ ∧ eraE s (q : Int) = 0 := by
  have hr : refE s.on (q : Int) (s.ws.length / 256) = 0 := by unfold refE; rw [if_pos hon, if_pos (by omega)]
  have hd : planE s.plan = 0 := by rw [hp]; rfl
  constructor
  · unfold eraS
    rw [if_pos hr, opS_no hd, Int.toNat_natCast, hp, hon]
    rfl
  · unfold eraE; rw [if_pos hr, hd]
theorem proW_get {ws : List UInt32} {k i : Nat} (v m : UInt32) (hi : i < ws.length) : (proW ws k v m)[i]? = some (if i = k then pw ws[i] v m else ws[i]) := by
  unfold proW
  rw [List.getElem?_set]
  by_cases h : k = i
  · subst h
    rw [if_pos rfl, if_pos hi, if_pos rfl, List.getD_eq_getElem?_getD, List.getElem?_eq_getElem hi]; rfl
  · rw [if_neg h, if_neg (fun e => h e.symm), List.getElem?_eq_getElem hi]
theorem eraW_get {ws : List UInt32} {a i : Nat} (m : UInt32) (hi : i < ws.length) : (eraW ws a m)[i]? = some (if a ≤ i ∧ i < a + m.toNat % 257 then ones32 else ws[i]) := by
  unfold eraW
  rw [fillW_at]
  by_cases h : a ≤ i ∧ i < a + m.toNat % 257
  · rw [if_pos h, if_pos ⟨h.1, h.2, hi⟩]
  · rw [if_neg h, if_neg (fun e => h ⟨e.1, e.2.1⟩), List.getElem?_eq_getElem hi]
theorem cs32_get {l : List UInt32} {j : Nat} {u : UInt32} (h : l[j]? = some u) : (cs32 l)[j]? = some (.int .u32 (u.toNat : Int)) := by simp [cs32, h]
theorem Keeps.own1 {S : List Nat} {w w1 : World} {base n c x : Nat} {e : TypeId} {xs : List Value} (k : Keeps S w w1) (h : w.ownsRow base e 1 (.slice (some ⟨x, 0, none⟩) n c) n xs) (hx : x ∉ S) : w1.ownsRow base e 1 (.slice (some ⟨x, 0, none⟩) n c) n xs :=
  k.own h (fun g' e => by injection e with e; injection e with e; subst e; exact hx)
/-- New words, 512 of them. -/
def Lays512 (w : World) (ws : List UInt32) (e : Ending) (w' : World) : Prop :=
  ∃ x c, e = .returned (.slice (some ⟨x, 0, none⟩) 512 c) ∧ w'.ownsRow 0 28 1 (.slice (some ⟨x, 0, none⟩) 512 c) 512 (cs32 ws) ∧ Keeps [] w w' ∧ w.heap.size ≤ x
theorem Words_512 (g h : Nat) (s : FS) (w : World) (f : Fl w g h s) (hl : s.ws.length = 512) : Calls Try.prog 28 #[.pointer (some ⟨g, 0, none⟩)] w (Lays512 w s.ws) :=
  (Words_any g h s w f).mono fun e w' ⟨x, c, he, ho, hk, hx⟩ => ⟨x, c, by rw [he, hl], by rw [hl] at ho; exact ho, hk, hx⟩
theorem clears_walk (A : Option Addr) (n c : Nat) (l : List UInt32) (a vi : Int) (w : World) (hr : Row w w.heap.size A n c (cs32 l)) (_ha : (Lit.int .i64 a).wf = true) (hv : (Lit.int .u32 vi).wf = true) :
    Calls Try.prog 5 #[.slice A n c, .int .i64 a, .int .u32 vi] w fun e w' => e = .returned (.bool true) ∧ Below w.heap.size w w' := by
  obtain ⟨v, rfl⟩ := u32_of hv
  clear hv
  obtain ⟨ws, hws⟩ : ∃ ws, ws = rowsL l 512 := ⟨_, rfl⟩
  have hlen : ws.length = 512 := by rw [hws]; exact rowsL_len l 512
  obtain ⟨k, hk⟩ : ∃ k, k = cntN a 512 := ⟨_, rfl⟩
  have hk5 : k < 512 := by rw [hk]; exact cntN_lt a (by omega)
  obtain ⟨q, hq⟩ : ∃ q, q = k / 256 := ⟨_, rfl⟩
  have hqi : (k : Int) / 256 = (q : Int) := by omega
  have hq2 : q ≤ 1 := by omega
  have HW := hide hws
  have HC := hide hk
  have hkb : k ≤ 511 := by omega
  obtain ⟨W1, hW1⟩ : ∃ W1, W1 = proW ws k v ones32 := ⟨_, rfl⟩
  obtain ⟨W2, hW2⟩ : ∃ W2, W2 = eraW W1 (256 * q) s256 := ⟨_, rfl⟩
  have hl1 : W1.length = 512 := by rw [hW1, proW_len]; exact hlen
  have hl2 : W2.length = 512 := by rw [hW2, eraW_len]; exact hl1
  have P1 : Hid (proS (ofS ws) (k : Int) v = ⟨W1, true, 1, none⟩ ∧ proE (ofS ws) (k : Int) = 0) := by
    rw [hW1]; exact proS_on (s := ofS ws) (k := k) v rfl rfl (by show k < ws.length; omega)
  have P2 : Hid (eraS ⟨W1, true, 1, none⟩ (q : Int) = ⟨W2, true, 2, none⟩ ∧ eraE ⟨W1, true, 1, none⟩ (q : Int) = 0) := by
    rw [hW2]; exact eraS_on (s := ⟨W1, true, 1, none⟩) (q := q) rfl rfl (by show q < W1.length / 256; omega)
  have L1 := hide hl1
  have L2 := hide hl2
  have HW1 := hide hW1
  have HW2 := hide hW2
  clear hW1 hW2 hl1 hl2
  have HL := hide hlen
  have HQ := hide hq
  have HK5 := hide hk5
  clear hws hk hlen hk5 hq
  go_enter Try.func5, Try.ntmps5
  go_wp2_with fail
  refine (rows_any _ _ _ l _ hr).mono ?_
  rintro e w1 ⟨g, h, rfl, f1, k1, hg, hh⟩
  rw [← HW.out] at f1
  go_wp2_with (go_at_call 27; refine (Count_512 _ _).mono ?_; rintro e w9 ⟨rfl, rfl⟩; rw [← HC.out])
  have b1 := f1.lt
  have b2 := f1.lt2
  refine (Words_512 g h _ _ f1 HL.out).mono ?_
  rintro e w2 ⟨x1, c1, rfl, o1, k2, hx1⟩
  have f2 := k2.fl f1 (by simp) (by simp)
  clear f1
  go_wp2_with fail
  refine (Program_any g h _ _ v _ f2 (by show 0 ≤ _; omega)).mono ?_
  rintro e w3 ⟨rfl, f3, k3⟩
  rw [P1.out.1] at f3
  rw [P1.out.2]
  have o1b := k3.own1 o1 (by simp; omega)
  have s2 := k2.size
  have s3 := k3.size
  clear o1 f2
  go_wp2_with fail
  refine (Words_512 g h _ _ f3 L1.out).mono ?_
  rintro e w4 ⟨x2, c2, rfl, o2, k4, hx2⟩
  have f4 := k4.fl f3 (by simp) (by simp)
  have o1c := k4.own1 o1b (by simp)
  clear f3 o1b
  go_wp2_with fail
  refine (Erase_any g h _ _ _ f4 (by show 1 ≤ _; omega)).mono ?_
  rintro e w5 ⟨rfl, f5, k5⟩
  rw [P2.out.1] at f5
  rw [P2.out.2]
  have o1d := k5.own1 o1c (by simp; omega)
  have o2d := k5.own1 o2 (by simp; omega)
  have s4 := k4.size
  have s5 := k5.size
  clear o1c o2 f4
  go_wp2_with fail
  refine (Words_512 g h _ _ f5 L2.out).mono ?_
  rintro e w6 ⟨x3, c3, rfl, o3, k6, hx3⟩
  have o1e := k6.own1 o1d (by simp)
  have o2e := k6.own1 o2d (by simp)
  have k06 : Keeps [] w w6 := ((((k1.trans k2 (by simp)).trans k3 (by simp; omega)).trans k4 (by simp)).trans k5 (by simp; omega)).trans k6 (by simp)
  clear o1d o2d f5 k1 k2 k3 k4 k5 k6
  go_wp2
  have O1 := hide o1e
  have O2 := hide o2e
  have O3 := hide o3
  clear o1e o2e o3
  go_loopw [14] (fun i wr => ∃ j t : Nat, j ≤ 512 ∧ i = .int .i64 (j : Int) ∧ wr = w6.drewN t) (fun i _ => 512 - (intOf i).toNat)
  case atStart => exact ⟨0, 0, by omega, rfl, rfl⟩
  case round =>
    obtain ⟨j, t, hj, rfl, rfl⟩ := hrel
    by_cases hlt : j < 512
    · have dj : decide ((j : Int) < 512) = true := by simp; omega
      have hjw : j < ws.length := by have := HL.out; omega
      have y1 := O1.out.cellAt j (by omega)
      have y2 := O2.out.cellAt j (by omega)
      have y3 := O3.out.cellAt j (by omega)
      rw [cs32_at (show j < (ofS ws).ws.length from hjw)] at y1
      have hjp : j < W1.length := by have := L1.out; omega
      have y2g : W1[j]? = some (if j = k then pw ws[j] v ones32 else ws[j]) := by rw [HW1.out]; exact proW_get v ones32 hjw
      have e1 : W1[j] = if j = k then pw ws[j] v ones32 else ws[j] := by
        rw [List.getElem?_eq_getElem hjp] at y2g; exact Option.some.inj y2g
      have y3g : W2[j]? = some (if 256 * q ≤ j ∧ j < 256 * q + s256.toNat % 257 then ones32 else W1[j]) := by rw [HW2.out]; exact eraW_get s256 hjp
      rw [e1, s256_toNat, Nat.mod_eq_of_lt (show 256 < 257 by omega)] at y3g
      rw [cs32_get y2g] at y2
      rw [cs32_get y3g] at y3
      obtain ⟨qj, hqj⟩ : ∃ qj, qj = j / 256 := ⟨_, rfl⟩
      have hqji : (j : Int) / 256 = (qj : Int) := by omega
      have HQJ := hide hqj
      have ha := and_w
      have y1' : w6.cell? ⟨x1, j, none⟩ = some (.int .u32 (ws[j].toNat : Int)) := y1
      rw [pw_ones] at y2 y3
      have hu1 := ws[j].toNat_lt
      have hu2 := (nU ws[j] v).toNat_lt
      have HLT := hide hlt
      clear y1 y2g y3g e1 hqj hjp
      have hjb : j ≤ 511 := by omega
      by_cases hjk : j = k
      · rw [if_pos hjk] at y2 y3
        have hin : 256 * q ≤ j ∧ j < 256 * q + 256 := by have := HQ.out; omega
        rw [if_pos hin, ones32_toNat, show ((4294967295 : Nat) : Int) = 4294967295 from rfl] at y3
        have hqq : qj = q := by have := HQ.out; have := HQJ.out; omega
        subst hqq
        subst hjk
        clear hin hqi
        clear hlt hj HQJ
        go_wp2
        go_quiet (fail)
        go_wp2
        have hlt := HLT.out
        go_roundw
        case rel => exact ⟨j + 1, t + nq, by omega, by go_num, by first | rfl | exact World.drewN_drewN _ _ _⟩
        case measure => simp [intOf]; omega
      · rw [if_neg hjk] at y2 y3
        have dk : ((j : Int) == (k : Int)) = false := by rw [beq_eq_false_iff_ne]; omega
        by_cases hin : 256 * q ≤ j ∧ j < 256 * q + 256
        · rw [if_pos hin, ones32_toNat, show ((4294967295 : Nat) : Int) = 4294967295 from rfl] at y3
          have hqq : qj = q := by have := HQ.out; have := HQJ.out; omega
          subst hqq
          clear hin
          clear hlt hj HQJ
          go_wp2
          go_quiet (fail)
          go_wp2
          have hlt := HLT.out
          go_roundw
          case rel => exact ⟨j + 1, t + nq, by omega, by go_num, by first | rfl | exact World.drewN_drewN _ _ _⟩
          case measure => simp [intOf]; omega
        · rw [if_neg hin] at y3
          have hqq : qj ≠ q := by have := HQ.out; have := HQJ.out; omega
          have n1 : ((qj : Int) == (q : Int)) = false := by rw [beq_eq_false_iff_ne]; omega
          have n2 : ((qj : Int) != (q : Int)) = true := by rw [bne_iff_ne]; omega
          clear hin
          clear hlt hj HQJ
          go_wp2
          go_quiet (fail)
          go_wp2
          have hlt := HLT.out
          go_roundw
          case rel => exact ⟨j + 1, t + nq, by omega, by go_num, by first | rfl | exact World.drewN_drewN _ _ _⟩
          case measure => simp [intOf]; omega
    · have dj : decide ((j : Int) < 512) = false := by simp; omega
      clear hlt hj
      go_wp2_with (go_at_call 23; refine (known_any _).mono ?_; rintro e w7 ⟨rfl, k7⟩)
      go_ret
      exact ⟨rfl, ((k06.drewN t).trans k7 (by simp)).back⟩
end Go.Proofs.Ytimajdhfgkpndaa
