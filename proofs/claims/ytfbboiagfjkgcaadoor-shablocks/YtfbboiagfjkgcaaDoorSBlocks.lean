/-
  The statement ShaBlocks: each call returns true and changes nothing that was there.
-/
import Derived.Test.YtfbboiagfjkgcaaDoorSKnown
import Derived.Test.YtfbboiagfjkgcaaDoorSLay
namespace Go.Proofs.YtfbboiagfjkgcaaDoor
open Go.RowKit
set_option maxHeartbeats 1600000

theorem or4 (x : UInt32) : bits .or .u32 (bits .or .u32 (bits .or .u32 (((byt (x.toNat / 256 ^ 3)).toNat : Int) * 16777216) (((byt (x.toNat / 256 ^ 2)).toNat : Int) * 65536)) (((byt (x.toNat / 256 ^ 1)).toNat : Int) * 256)) ((byt (x.toNat / 256 ^ 0)).toNat : Int) = (x.toNat : Int) := by
  have hx := x.toNat_lt
  rw [byt_toNat, byt_toNat, byt_toNat, byt_toNat]
  obtain ⟨a, b, c, d, ha, hb, hc, hd, e⟩ : ∃ a b c d : Nat, a < 256 ∧ b < 256 ∧ c < 256 ∧ d < 256 ∧ x.toNat = a * 16777216 + b * 65536 + c * 256 + d := ⟨x.toNat / 16777216, x.toNat / 65536 % 256, x.toNat / 256 % 256, x.toNat % 256, by omega, by omega, by omega, by omega, by omega⟩
  have e3 : x.toNat / 256 ^ 3 % 256 = a := by omega
  have e2 : x.toNat / 256 ^ 2 % 256 = b := by omega
  have e1 : x.toNat / 256 ^ 1 % 256 = c := by omega
  have e0 : x.toNat / 256 ^ 0 % 256 = d := by omega
  rw [e3, e2, e1, e0, e]
  have f3 : ((a : Int) * 16777216) = ((a * 2 ^ 24 : Nat) : Int) := by omega
  have f2 : ((b : Int) * 65536) = ((b * 2 ^ 16 : Nat) : Int) := by omega
  have f1 : ((c : Int) * 256) = ((c * 2 ^ 8 : Nat) : Int) := by omega
  have g1 : (a * 2 ^ 24) ||| (b * 2 ^ 16) = a * 2 ^ 24 + b * 2 ^ 16 := by
    rw [← Nat.shiftLeft_eq a 24, ← Nat.shiftLeft_add_eq_or_of_lt (by omega)]
  have g2 : (a * 2 ^ 24 + b * 2 ^ 16) ||| (c * 2 ^ 8) = a * 2 ^ 24 + b * 2 ^ 16 + c * 2 ^ 8 := by
    rw [show a * 2 ^ 24 + b * 2 ^ 16 = (a * 2 ^ 8 + b) <<< 16 by rw [Nat.shiftLeft_eq]; omega, ← Nat.shiftLeft_add_eq_or_of_lt (by omega)]
  have g3 : (a * 2 ^ 24 + b * 2 ^ 16 + c * 2 ^ 8) ||| d = a * 2 ^ 24 + b * 2 ^ 16 + c * 2 ^ 8 + d := by
    rw [show a * 2 ^ 24 + b * 2 ^ 16 + c * 2 ^ 8 = (a * 2 ^ 16 + b * 2 ^ 8 + c) <<< 8 by rw [Nat.shiftLeft_eq]; omega, ← Nat.shiftLeft_add_eq_or_of_lt (by omega)]
  rw [f3, f2, f1, u32_or_nat _ _ (by omega) (by omega), g1, u32_or_nat _ _ (by omega) (by omega), g2, u32_or_nat _ _ (by omega) (by omega), g3]
theorem blocks_walk (A : Option Addr) (n c : Nat) (l : List UInt8) (w : World) (hr : Row w w.heap.size A n c (cs8 l)) (hK : KT w.heap.size w) :
    Calls Tryd.prog 7 #[.slice A n c] w fun e w' => e = .returned (.bool true) ∧ Below w.heap.size w w' := by
  by_cases hbig : 16384 < n
  · have hd : decide ((16384 : Int) < (n : Int)) = true := by simp; omega
    go_enter Tryd.func7, Tryd.ntmps7
    go_wp2_with (go_at_call 9; refine (known_any _ _ (Nat.le_refl _) hK).mono ?_; rintro e w1 ⟨rfl, hb1⟩)
    go_ret
    exact ⟨rfl, hb1⟩
  · obtain ⟨i0, hi, hz0, hz1, hz2⟩ := info_parts info8
    have hln := hr.len
    rw [cs8_len] at hln
    have HL := hide hln
    clear hln
    have hdb : decide ((16384 : Int) < (n : Int)) = false := by simp; omega
    go_enter Tryd.func7, Tryd.ntmps7
    go_wp2_with fail
    refine (Pad_ok n w (by omega)).mono ?_
    rw [pdL_ok n (by omega), pdE_ok n (by omega)]
    rintro e w2 ⟨A2, n2, c2, rfl, ho2, hb⟩
    have hn2 : n2 = padZ n + 9 := by have := own8_len ho2; rw [padL_len] at this; exact this.symm
    have hr2 := Row.of_own ho2
    clear ho2
    have hs2 := hb.size
    have HN2 := hide hn2
    have hn2b : n2 ≤ 72 := by rw [hn2]; have := padZ_lt n; omega
    have hn29 : 9 ≤ n2 := by omega
    clear hn2
    obtain ⟨q, HQ⟩ : ∃ q, Hid (n + n2 = 64 * q) := ⟨(n + n2) / 64, by have h1 := pad_whole n; have h2 := HN2.out; show _ = _; omega⟩
    have t1 : decide ((n2 : Int) < 9) = false := by simp; omega
    have t2 : decide ((72 : Int) < (n2 : Int)) = false := by simp; omega
    have t3 : (((n : Int) + (n2 : Int)) % 64 != 0) = false := by rw [bne_eq_false_iff_eq]; have := HQ.out; omega
    go_wp2_with (first
      | (at_builtin; refine wpList_append_row rfl (.tmp 44) (.tmp 45) 24 rfl w2.heap.size 5 i0 _ 1 Tryd.underlying24 hi hz0 hz1 hz2 rfl _ 0 [] rfl (World.ownsRow_nil _ _ _ _) w.heap.size _ _ _ _ rfl (hr.keep hb (Nat.le_refl _)) (cs8_one _) (by unfold maxLen; omega) (by omega) w2 (Below.refl _ _) (Nat.le_refl _) ?_; intro A3 c3 w3 ho3 hb3 hg3; simp only [Nat.zero_add, List.nil_append] at ho3)
      | (at_builtin; refine wpList_append_row rfl (.tmp 47) (.tmp 48) 24 rfl w2.heap.size 5 i0 _ 1 Tryd.underlying24 hi hz0 hz1 hz2 rfl _ _ _ rfl ho3 w2.heap.size _ _ _ _ rfl (hr2.keep hb3 (Nat.le_refl _)) (cs8_one _) (by unfold maxLen; omega) (by omega) w2 hb3 (Nat.le_refl _) ?_; intro A4 c4 w4 ho4 hb4 hg4))
    have hr4 := Row.of_own ho4
    rw [← cs8_app] at hr4
    have hbb := hb.trans (hb4.mono hs2)
    clear ho4 ho3 hg3 hg4 hb3 hb4 hr2 hb t1 t2 t3 hdb
    have hs4 := hbb.size
    obtain ⟨C, HC⟩ : ∃ C, Hid (C = l ++ padL n) := ⟨_, rfl⟩
    rw [← HC.out] at hr4
    obtain ⟨nn, HNN⟩ : ∃ x, Hid (x = n + n2) := ⟨_, rfl⟩
    rw [← HNN.out] at hr4 HQ ⊢
    have hnn : nn ≤ 1099511627776 := by rw [HNN.out]; omega
    refine (First_any w4).mono ?_
    rintro e w5 ⟨rfl, hbw⟩
    have hr5 := hr4.keep hbw (Nat.le_refl _)
    have hbb5 := hbb.trans (hbw.mono hs4)
    have hs45 := hbw.size
    clear hr4 hbb hbw
    have hfl : (cs32 firstL).length = 8 := rfl
    go_wp2_with (refine wpList_storeB rfl 23 (.tmp 6) (.tmp 50) rfl w5.heap.size (cs32 firstL) rfl rfl 23 (zeros32 8) (Blk.at _ _ _ rfl) 8 size8w hfl rfl (cs32_one _) ?_)
    rw [World.setRow_alloc_new]
    generalize hw6 : World.alloc _ _ = w6
    have h6 : Blk w6 w5.heap.size 23 (cs32 firstL) := by rw [← hw6]; exact Blk.at _ _ _ rfl
    have hb6 : Below w5.heap.size w5 w6 := by rw [← hw6]; exact (Below.refl _ _).alloc (Nat.le_refl _) _
    clear hw6
    have hr6 := hr5.keep hb6 hs45
    have hbb6 := hbb5.trans (hb6.mono (by omega))
    clear hr5 hbb5 hb6
    go_loopw [7] (fun i wr => ∃ (j m : Nat), j ≤ q ∧ i = .int .i64 (m : Int) ∧ Hid (m = 64 * j) ∧ Blk wr w5.heap.size 23 (cs32 (overL firstL C j)) ∧ Row wr w4.heap.size A4 nn c4 (cs8 C) ∧ Below w.heap.size w wr) (fun i _ => nn - (intOf i).toNat)
    case atStart => exact ⟨0, 0, Nat.zero_le _, rfl, rfl, h6, hr6, hbb6⟩
    case round =>
      clear h6 hr6 hbb6
      have hrw := hr
      clear hr
      obtain ⟨j, m, hj, rfl, HM, h6, hr, hb⟩ := hrel
      have hbs := hb.size
      have hl6 := h6.lt
      by_cases hlt : j < q
      · have hmn : m + 64 ≤ nn := by rw [HM.out, HQ.out]; omega
        have hmi : (m : Int) < (nn : Int) := by omega
        obtain ⟨p, hp⟩ : ∃ p : Nat, (m : Int) + 64 = (p : Int) := ⟨m + 64, by omega⟩
        have hwp : IntKind.i64.wrap (p : Int) = (p : Int) := by simp [IntKind.wrap, IntKind.signed, IntKind.bits]; omega
        obtain ⟨A2', c2', hsl, hr2⟩ := hr.sliced Tryd.underlying24 size8 (lo := m) (hi := p) (by omega) (by omega) (m : Int) (p : Int) rfl rfl
        rw [show p - m = 64 by omega] at hsl hr2
        have HR : Hid (((cs8 C).drop m).take 64 = cs8 ((C.drop (64 * j)).take 64)) := by show _ = _; rw [HM.out]; simp [cs8, List.map_drop, List.map_take]
        rw [HR.out] at hr2
        have h64 : ((C.drop (64 * j)).take 64).length = 64 := by have := hr2.len; rwa [cs8_len] at this
        have HO : Hid (stS (overL firstL C j) ((C.drop (64 * j)).take 64) = overL firstL C (j + 1)) := by
          show _ = _
          unfold stS
          rw [if_pos h64, overL]
        have HE0 : Hid (stE ((C.drop (64 * j)).take 64) = 0) := if_pos h64
        clear h64
        have h10 := overL_len firstL_len C (j + 1)
        obtain ⟨a, b, c', d, e, f, g, h, h8⟩ := eight (overL_len firstL_len C j)
        rw [h8] at h6 HO
        obtain ⟨c0, c1, c2'', c3', c4', c5, c6, c7⟩ := eight_cells h6
        clear h8
        obtain ⟨S, HS⟩ : ∃ S, Hid (S = overL firstL C (j + 1)) := ⟨_, rfl⟩
        rw [← HS.out] at HO h10
        have hSl : (cs32 S).length = 8 := by rw [cs32_len, h10]
        have hstA := fun W : World => store_new W hSl
        have hz32 : (zeros32 8).length = (cs32 S).length := by rw [hSl]; rfl
        go_wp2_with fail
        go_region_with (first
          | (go_at_call 11; refine (Step_ok w4.heap.size A2' c2' _ [a, b, c', d, e, f, g, h] _ (hr2.keep (B' := wr.heap.size) (by first | exact (Below.refl _ wr).drew | exact (Below.refl _ wr).drew.alloc (by simp) _ | exact ((Below.refl _ wr).alloc (by simp) _).drew) (by omega)) (by simp; omega) rfl (((hK.keep hb (Nat.le_refl _)).keep (B' := wr.heap.size) (by first | exact (Below.refl _ wr).drew | exact (Below.refl _ wr).drew.alloc (by simp) _ | exact ((Below.refl _ wr).alloc (by simp) _).drew) hbs).more hs4)).mono ?_; rintro e9 w1 ⟨rfl, hbw⟩; rw [HO.out, HE0.out]; have hx1 : Below wr.heap.size wr w1 := (by first | exact (Below.refl _ wr).drew.trans (hbw.mono (by simp)) | exact ((Below.refl _ wr).drew.alloc (by simp) _).trans (hbw.mono (by simp)) | exact ((Below.refl _ wr).alloc (by simp) _).drew.trans (hbw.mono (by simp))); (first | (have hz4 : Blk w1 wr.heap.size 23 (zeros32 8) := (by first | exact keep_new hbw | exact keep_new' hbw); have hst4 := run_storeB (P := Tryd.prog) hz4 (cs32 S) hz32 (cs32_one _)) | skip)))
        all_goals
          clear hstA c0 c1 c2'' c3' c4' c5 c6 c7
          (first
            | (have h8b := hz4.row (cs32 S); have hx2 := below_setRow (g := wr.heap.size) hx1 (Nat.le_refl _) (cs32 S).toArray; clear hst4 hz4; generalize World.setRow w1 _ _ = w7 at h8b hx2 ⊢; obtain ⟨g8, hg8e⟩ : ∃ g, g = wr.heap.size := ⟨_, rfl⟩; rw [← hg8e] at h8b ⊢; have hg8 : wr.heap.size ≤ g8 := Nat.le_of_eq hg8e.symm; clear hg8e)
            | (have h8b := Blk.new w1 23 (cs32 S); have hx2 := hx1.alloc hx1.size (.cells (cs32 S).toArray 23 (0, 0)); have hg8 := hx1.size; generalize World.alloc w1 _ = w7 at h8b hx2 ⊢; generalize w1.heap.size = g8 at h8b hg8 ⊢))
          have k6 := h6.keep hx2 hl6
          have kr := hr.keep hx2 (by omega)
          have kb := hb.trans (hx2.mono hbs)
          have k7 := k6.row (cs32 S)
          have k9 := kr.keep (below_setRow (Below.refl w4.heap.size _) hs45 (cs32 S).toArray) (Nat.le_refl _)
          have k10 := below_setRow (g := w5.heap.size) kb (by omega) (cs32 S).toArray
          clear hx2 hx1 hbw
          go_wp2_with (first
            | (refine wpList_loadB rfl 23 (.tmp 8) rfl _ rfl 23 _ h8b 8 22 Tryd.underlying23 size8w hSl ?_)
            | (refine wpList_storeB rfl 23 (.tmp 6) (.tmp 69) rfl _ (cs32 S) rfl rfl 23 _ k6 8 size8w hSl rfl (cs32_one _) ?_))
          go_roundw
          case rel => exact ⟨j + 1, p, by omega, rfl, by show _ = _; have := HM.out; omega, by rw [← HS.out]; exact k7, k9, k10⟩
          case measure => simp [intOf]; omega
      · have hjq : j = q := by omega
        have hmn : ¬ m < nn := by have h1 := HM.out; have h2 := HQ.out; omega
        have hmd : decide (m < nn) = false := by simp; omega
        rw [hjq] at h6
        obtain ⟨S, HS⟩ : ∃ S, Hid (S = sumS l) := ⟨_, rfl⟩
        have hS8 : S.length = 8 := by rw [HS.out]; exact sumS_len l
        have e6 : overL firstL C q = S := by
          rw [HS.out, HC.out]
          unfold sumS
          have h1 := HL.out
          have h2 := HN2.out
          have h3 := HQ.out
          have h4 := HNN.out
          subst h1
          rw [show (l.length + (padZ l.length + 9)) / 64 = q by omega]
        rw [e6] at h6
        have HD : Hid (sumL l = laidL S) := by show _ = _; rw [HS.out]; rfl
        clear hr hjq hlt e6
        go_wp2_with fail
        refine (Sum_any w.heap.size _ _ _ l wr (hrw.keep hb (Nat.le_refl _)) hbs (hK.keep hb (Nat.le_refl _)) (by omega)).mono ?_
        unfold Sum32
        rw [HD.out]
        rintro e w8 ⟨rfl, hb8⟩
        have k6 := h6.keep hb8 hl6
        have kb := hb.trans (hb8.mono hbs)
        have kl6 := k6.lt
        have ks := kb.size
        clear h6 hb hb8
        have hDl : (cs8 (laidL S)).length = 32 := by rw [cs8_len, laidL_len, hS8]
        go_wp2_with (refine wpList_storeB rfl 37 (.tmp 10) (.tmp 71) rfl w8.heap.size (cs8 (laidL S)) rfl rfl 37 (cs8 (List.replicate 32 0)) (Blk.at _ _ _ rfl) 32 size32b hDl rfl (cs8_one _) ?_; rw [World.setRow_alloc_new]; have h10 := Blk.new w8 37 (cs8 (laidL S)); have hb10 := (Below.refl w8.heap.size w8).alloc (Nat.le_refl _) (.cells (cs8 (laidL S)).toArray 37 (0, 0)); generalize World.alloc w8 _ = w10 at h10 hb10 ⊢)
        have m6 := k6.keep hb10 kl6
        have mb := kb.trans (hb10.mono ks)
        clear k6 kb hb10
        generalize hg10 : w8.heap.size = g10 at *
        go_loopw [11] (fun i wr => ∃ (k : Nat), k ≤ 8 ∧ i = .int .i64 (k : Int) ∧ Blk wr g10 37 (cs8 (laidL S)) ∧ Blk wr w5.heap.size 23 (cs32 S) ∧ Below w.heap.size w wr) (fun i _ => 8 - (intOf i).toNat)
        case atStart => exact ⟨0, Nat.zero_le _, rfl, h10, m6, mb⟩
        case round =>
          clear h10 m6 mb
          obtain ⟨k, hk, rfl, h10, m6, mb⟩ := hrel
          have mbs := mb.size
          by_cases hlt : k < 8
          · obtain ⟨p0, hp0, P0⟩ : ∃ p : Nat, 4 * (k : Int) = (p : Int) ∧ Hid (p = 4 * k) := ⟨4 * k, by omega, rfl⟩
            obtain ⟨p1, hp1, P1⟩ : ∃ p : Nat, (p0 : Int) + 1 = (p : Int) ∧ Hid (p = 4 * k + 1) := ⟨4 * k + 1, by omega, rfl⟩
            obtain ⟨p2, hp2, P2⟩ : ∃ p : Nat, (p0 : Int) + 2 = (p : Int) ∧ Hid (p = 4 * k + 2) := ⟨4 * k + 2, by omega, rfl⟩
            obtain ⟨p3, hp3, P3⟩ : ∃ p : Nat, (p0 : Int) + 3 = (p : Int) ∧ Hid (p = 4 * k + 3) := ⟨4 * k + 3, by omega, rfl⟩
            have w0 : IntKind.i64.wrap (p0 : Int) = (p0 : Int) := by simp [IntKind.wrap, IntKind.signed, IntKind.bits]; omega
            have w1 : IntKind.i64.wrap (p1 : Int) = (p1 : Int) := by simp [IntKind.wrap, IntKind.signed, IntKind.bits]; omega
            have w2 : IntKind.i64.wrap (p2 : Int) = (p2 : Int) := by simp [IntKind.wrap, IntKind.signed, IntKind.bits]; omega
            have w3 : IntKind.i64.wrap (p3 : Int) = (p3 : Int) := by simp [IntKind.wrap, IntKind.signed, IntKind.bits]; omega
            have b0 : (p0 : Int) < 32 := by omega
            have b1 : (p1 : Int) < 32 := by omega
            have b2 : (p2 : Int) < 32 := by omega
            have b3 : (p3 : Int) < 32 := by omega
            have c0 := h10.cell (j := p0) (v := .int .u8 ((byt ((nth S k).toNat / 256 ^ 3)).toNat : Int)) (by rw [P0.out]; simp [cs8, laid_get S (4 * k) (by omega), show 4 * k / 4 = k by omega, show 4 * k % 4 = 0 by omega])
            have c1 := h10.cell (j := p1) (v := .int .u8 ((byt ((nth S k).toNat / 256 ^ 2)).toNat : Int)) (by rw [P1.out]; simp [cs8, laid_get S (4 * k + 1) (by omega), show (4 * k + 1) / 4 = k by omega, show (4 * k + 1) % 4 = 1 by omega])
            have c2 := h10.cell (j := p2) (v := .int .u8 ((byt ((nth S k).toNat / 256 ^ 1)).toNat : Int)) (by rw [P2.out]; simp [cs8, laid_get S (4 * k + 2) (by omega), show (4 * k + 2) / 4 = k by omega, show (4 * k + 2) % 4 = 2 by omega])
            have c3 := h10.cell (j := p3) (v := .int .u8 ((byt ((nth S k).toNat / 256 ^ 0)).toNat : Int)) (by rw [P3.out]; simp [cs8, laid_get S (4 * k + 3) (by omega), show (4 * k + 3) / 4 = k by omega, show (4 * k + 3) % 4 = 3 by omega])
            have HV := hide (or4 (nth S k))
            generalize byt ((nth S k).toNat / 256 ^ 3) = y3 at *
            generalize byt ((nth S k).toNat / 256 ^ 2) = y2 at *
            generalize byt ((nth S k).toNat / 256 ^ 1) = y1 at *
            generalize byt ((nth S k).toNat / 256 ^ 0) = y0 at *
            have z0 := y0.toNat_lt
            have z1 := y1.toNat_lt
            have z2 := y2.toNat_lt
            have z3 := y3.toNat_lt
            go_wp2_with fail
            go_quiet (fail)
            rw [HV.out]
            have r10 := h10.drewN nq
            have r6 := m6.drewN nq
            have rb := mb.trans (below_drewN _ wr nq)
            clear h10 m6 mb c0 c1 c2 c3
            generalize wr.drewN nq = w9 at r10 r6 rb ⊢
            have cs := r6.cell (j := k) (v := .int .u32 ((nth S k).toNat : Int)) (by rw [cs32_at (show k < S.length by omega), nth_at])
            have hki : (k : Int) < 8 := by omega
            go_wp2
            go_roundw
            case rel => exact ⟨k + 1, by omega, by go_num, r10, r6, rb⟩
            case measure => simp [intOf]; omega
          · obtain rfl : k = 8 := by omega
            go_wp2_with (go_at_call 9; refine (known_any w.heap.size _ mbs (hK.keep mb (Nat.le_refl _))).mono ?_; rintro e w11 ⟨rfl, hb11⟩)
            go_ret
            exact ⟨rfl, mb.trans (hb11.mono mbs)⟩
end Go.Proofs.YtfbboiagfjkgcaaDoor
