/-
  Contract of the reference's Sum of layer 4.
-/
import Derived.Test.YthglpniemenhcaaDoorSRef2
import Derived.Test.YthglpniemenhcaaDoorSPad2
import Derived.Test.YthglpniemenhcaaDoorSSum
namespace Go.Proofs.YthglpniemenhcaaDoor
open Go.RowKit
set_option maxHeartbeats 1600000

theorem be4_at (x : UInt32) (i : Nat) (hi : i < 4) : (be4 x)[i]? = some (byt (x.toNat / 256 ^ (3 - i))) := by
  unfold be4
  rw [List.getElem?_reverse (by rw [leB_len]; exact hi), leB_len]
  simp [leB, show 4 - 1 - i < 4 by omega]
theorem laid_at : ∀ (s : List UInt32) (i : Nat), i < 4 * s.length → (laidL s)[i]? = some (byt ((nth s (i / 4)).toNat / 256 ^ (3 - i % 4)))
  | [], i, h => by simp at h
  | x :: r, i, h => by
    have e : laidL (x :: r) = be4 x ++ laidL r := rfl
    rw [e]
    by_cases hi : i < 4
    · rw [List.getElem?_append_left (by rw [be4_len]; exact hi), be4_at x i hi, show i / 4 = 0 by omega, show i % 4 = i by omega]
      rfl
    · rw [List.getElem?_append_right (by rw [be4_len]; omega), be4_len, laid_at r (i - 4) (by simp at h; omega), show (i - 4) % 4 = i % 4 by omega]
      obtain ⟨k, hk⟩ : ∃ k, i / 4 = k + 1 := ⟨i / 4 - 1, by omega⟩
      rw [hk, show (i - 4) / 4 = k by omega]
      rfl
theorem laid_byte (s : List UInt32) (i k : Nat) (hk : k = 24 - 8 * (i % 4)) : (((sU k (nth s (i / 4))).toNat : Int)) % 256 = ((byt ((nth s (i / 4)).toNat / 256 ^ (3 - i % 4))).toNat : Int) := by
  rw [sU_toNat, byt_toNat, p256, show 8 * (3 - i % 4) = k by omega]
  omega
def laidT (s : List UInt32) (i : Nat) : List UInt8 := (laidL s).take i ++ List.replicate (32 - i) 0
theorem laidT_next (s : List UInt32) (i : Nat) (hs : s.length = 8) (hi : i < 32) : (laidT s i).set i (byt ((nth s (i / 4)).toNat / 256 ^ (3 - i % 4))) = laidT s (i + 1) := by
  have h1 := laid_at s i (by omega)
  obtain ⟨hl, hv⟩ := List.getElem?_eq_some_iff.1 h1
  unfold laidT
  rw [List.set_append_right _ _ (by simp; omega), List.length_take, show i - min i (laidL s).length = 0 by omega, show 32 - i = (32 - (i + 1)) + 1 by omega, List.replicate_succ, List.set_cons_zero, List.take_succ_eq_append_getElem hl, hv]
  simp
theorem laidT_at (s : List UInt32) (i : Nat) (hs : s.length = 8) (hi : i < 32) : (laidT s i)[i]? = some 0 := by
  have hl : (laidL s).length = 32 := by rw [laidL_len, hs]
  unfold laidT
  rw [List.getElem?_append_right (by simp; omega), List.length_take, show i - min i (laidL s).length = 0 by omega, show 32 - i = (31 - i) + 1 by omega]
  rfl
theorem laidT_end (s : List UInt32) (hs : s.length = 8) : laidT s 32 = laidL s := by
  have hl : (laidL s).length = 32 := by rw [laidL_len, hs]
  unfold laidT
  rw [List.take_of_length_le (by omega)]; simp
theorem rSum_any (B : Nat) (A : Option Addr) (n c : Nat) (l : List UInt8) (w : World) (hr : Row w B A n c (cs8 l)) (hB : B ≤ w.heap.size) (hl : n ≤ 1073741824) :
    Calls Tryd.prog 25 #[.slice A n c] w (Sum32 w l) := by
  obtain ⟨i0, hi, hz0, hz1, hz2⟩ := info_parts info8
  have hln := hr.len
  rw [cs8_len] at hln
  have HL := hide hln
  clear hln
  go_enter Tryd.func25, Tryd.ntmps25
  go_wp2_with fail
  generalize hw : World.alloc _ _ = w1
  have hb : Below w.heap.size w w1 := by rw [← hw]; exact (Below.refl _ w).alloc (Nat.le_refl _) _
  have hb0 : Blk w1 w.heap.size 27 (cs8 (List.replicate 32 0)) := by rw [← hw]; exact Blk.at _ _ _ rfl
  clear hw
  have hs1 := hb.size
  have hl0 := hb0.lt
  refine (rPad_ok n w1 (by omega)).mono ?_
  rw [pdL_ok n (by omega), pdE_ok n (by omega)]
  rintro e w2 ⟨A2, n2, c2, rfl, ho2, hbw⟩
  replace hb0 := hb0.keep hbw hl0
  replace hb := hb.trans (hbw.mono hs1)
  have hn2 : n2 = padZ n + 9 := by have := own8_len ho2; rw [padL_len] at this; exact this.symm
  have hr2 := Row.of_own ho2
  clear hbw ho2 hs1
  have hs2 := hb.size
  have HN2 := hide hn2
  have hn2b : n2 ≤ 72 := by rw [hn2]; have := padZ_lt n; omega
  replace hl0 := hb0.lt
  clear hn2
  go_wp2_with (first
    | (at_builtin; refine wpList_append_row rfl (.tmp 18) (.tmp 19) 22 rfl w2.heap.size 5 i0 _ 1 Tryd.underlying22 hi hz0 hz1 hz2 rfl _ 0 [] rfl (World.ownsRow_nil _ _ _ _) B _ _ _ _ rfl (hr.keep hb hB) (cs8_one _) (by unfold maxLen; omega) (by omega) w2 (Below.refl _ _) (Nat.le_refl _) ?_; intro A3 c3 w3 ho3 hb3 hg3; simp only [Nat.zero_add, List.nil_append] at ho3)
    | (at_builtin; refine wpList_append_row rfl (.tmp 21) (.tmp 22) 22 rfl w2.heap.size 5 i0 _ 1 Tryd.underlying22 hi hz0 hz1 hz2 rfl _ _ _ rfl ho3 w2.heap.size _ _ _ _ rfl (hr2.keep hb3 (Nat.le_refl _)) (cs8_one _) (by unfold maxLen; omega) (by omega) w2 hb3 (Nat.le_refl _) ?_; intro A4 c4 w4 ho4 hb4 hg4))
  have hr4 := Row.of_own ho4
  rw [← cs8_app] at hr4
  have hb04 := hb0.keep hb4 hl0
  have hbb := hb.trans (hb4.mono hs2)
  clear ho4 ho3 hg3 hg4 hb3 hb4 hr2 hb0 hb
  have hs4 := hbb.size
  replace hl0 := hb04.lt
  obtain ⟨q, HQ⟩ : ∃ q, Hid (n + n2 = 64 * q) := ⟨(n + n2) / 64, by have h1 := pad_whole n; have h2 := HN2.out; show _ = _; omega⟩
  obtain ⟨C, HC⟩ : ∃ C, Hid (C = l ++ padL n) := ⟨_, rfl⟩
  rw [← HC.out] at hr4
  obtain ⟨nn, HNN⟩ : ∃ x, Hid (x = n + n2) := ⟨_, rfl⟩
  rw [← HNN.out] at hr4 HQ ⊢
  have hnn : nn ≤ 1099511627776 := by rw [HNN.out]; omega
  refine (rFirst_any w4).mono ?_
  rintro e w5 ⟨rfl, hbw⟩
  have hr5 := hr4.keep hbw (Nat.le_refl _)
  have hb05 := hb04.keep hbw hl0
  have hbb5 := hbb.trans (hbw.mono hs4)
  have hs45 := hbw.size
  clear hr4 hb04 hbb hbw
  have hfl : (cs32 firstL).length = 8 := rfl
  go_wp2_with (refine wpList_storeB rfl 45 (.tmp 6) (.tmp 24) rfl w5.heap.size (cs32 firstL) rfl rfl 45 (zeros32 8) (Blk.at _ _ _ rfl) 8 size8w hfl rfl (cs32_one _) ?_)
  rw [World.setRow_alloc_new]
  generalize hw6 : World.alloc _ _ = w6
  have h6 : Blk w6 w5.heap.size 45 (cs32 firstL) := by rw [← hw6]; exact Blk.at _ _ _ rfl
  have hb6 : Below w5.heap.size w5 w6 := by rw [← hw6]; exact (Below.refl _ _).alloc (Nat.le_refl _) _
  clear hw6
  have hr6 := hr5.keep hb6 hs45
  have hb06 := hb05.keep hb6 (by omega)
  have hbb6 := hbb5.trans (hb6.mono (by omega))
  clear hr5 hb05 hbb5 hb6
  go_loopw [7] (fun i wr => ∃ (j m : Nat), j ≤ q ∧ i = .int .i64 (m : Int) ∧ Hid (m = 64 * j) ∧ Blk wr w5.heap.size 45 (cs32 (overL firstL C j)) ∧ Blk wr w.heap.size 27 (cs8 (List.replicate 32 0)) ∧ Row wr w4.heap.size A4 nn c4 (cs8 C) ∧ Below w.heap.size w wr) (fun i _ => nn - (intOf i).toNat)
  case atStart => exact ⟨0, 0, Nat.zero_le _, rfl, rfl, h6, hb06, hr6, hbb6⟩
  case round =>
    clear h6 hb06 hr6 hbb6
    obtain ⟨j, m, hj, rfl, HM, h6, hb0, hr, hb⟩ := hrel
    have hbs := hb.size
    have hl6 := h6.lt
    by_cases hlt : j < q
    · have hmn : m + 64 ≤ nn := by rw [HM.out, HQ.out]; omega
      have hmi : (m : Int) < (nn : Int) := by omega
      obtain ⟨p, hp⟩ : ∃ p : Nat, (m : Int) + 64 = (p : Int) := ⟨m + 64, by omega⟩
      have hwp : IntKind.i64.wrap (p : Int) = (p : Int) := by simp [IntKind.wrap, IntKind.signed, IntKind.bits]; omega
      obtain ⟨A2', c2', hsl, hr2⟩ := hr.sliced Tryd.underlying22 size8 (lo := m) (hi := p) (by omega) (by omega) (m : Int) (p : Int) rfl rfl
      rw [show p - m = 64 by omega] at hsl hr2
      have HR : Hid (((cs8 C).drop m).take 64 = cs8 ((C.drop (64 * j)).take 64)) := by show _ = _; rw [HM.out]; simp [cs8, List.map_drop, List.map_take]
      rw [HR.out] at hr2
      have HO : Hid (stS (overL firstL C j) ((C.drop (64 * j)).take 64) = overL firstL C (j + 1)) := by
        show _ = _
        unfold stS
        rw [if_pos (by have := hr2.len; rwa [cs8_len] at this), overL]
      have h10 := overL_len firstL_len C (j + 1)
      obtain ⟨a, b, c', d, e, f, g, h, h8⟩ := eight (overL_len firstL_len C j)
      rw [h8] at h6 HO
      obtain ⟨c0, c1, c2'', c3', c4', c5, c6, c7⟩ := eight_cells h6
      clear h8
      obtain ⟨S, HS⟩ : ∃ S, Hid (S = overL firstL C (j + 1)) := ⟨_, rfl⟩
      rw [← HS.out] at HO h10
      have hSl : (cs32 S).length = 8 := by rw [cs32_len, h10]
      have hstA := fun W : World => store_new W hSl
      have hz32 : (zeros32 8).length = (cs32 S).length := by rw [hSl]; rfl
      go_wp2_with fail
      go_region_with (first
        | (go_at_call 37; refine (rStep_ok w4.heap.size A2' c2' _ [a, b, c', d, e, f, g, h] _ (hr2.keep (B' := wr.heap.size) (by first | exact (Below.refl _ wr).drew | exact (Below.refl _ wr).drew.alloc (by simp) _ | exact ((Below.refl _ wr).alloc (by simp) _).drew) (by omega)) (by simp; omega) rfl).mono ?_; rintro e9 w1 ⟨rfl, hbw⟩; rw [HO.out]; have hx1 : Below wr.heap.size wr w1 := (by first | exact (Below.refl _ wr).drew.trans (hbw.mono (by simp)) | exact ((Below.refl _ wr).drew.alloc (by simp) _).trans (hbw.mono (by simp)) | exact ((Below.refl _ wr).alloc (by simp) _).drew.trans (hbw.mono (by simp))); (first | (have hz4 : Blk w1 wr.heap.size 45 (zeros32 8) := (by first | exact keep_new hbw | exact keep_new' hbw); have hst4 := run_storeB (P := Tryd.prog) hz4 (cs32 S) hz32 (cs32_one _)) | skip)))
      all_goals
        clear hstA c0 c1 c2'' c3' c4' c5 c6 c7
        (first
          | (have h8b := hz4.row (cs32 S); have hx2 := below_setRow (g := wr.heap.size) hx1 (Nat.le_refl _) (cs32 S).toArray; clear hst4 hz4; generalize World.setRow w1 _ _ = w7 at h8b hx2 ⊢; obtain ⟨g8, hg8e⟩ : ∃ g, g = wr.heap.size := ⟨_, rfl⟩; rw [← hg8e] at h8b ⊢; have hg8 : wr.heap.size ≤ g8 := Nat.le_of_eq hg8e.symm; clear hg8e)
          | (have h8b := Blk.new w1 45 (cs32 S); have hx2 := hx1.alloc hx1.size (.cells (cs32 S).toArray 45 (0, 0)); have hg8 := hx1.size; generalize World.alloc w1 _ = w7 at h8b hx2 ⊢; generalize w1.heap.size = g8 at h8b hg8 ⊢))
        have k6 := h6.keep hx2 hl6
        have k0 := hb0.keep hx2 (by omega)
        have kr := hr.keep hx2 (by omega)
        have kb := hb.trans (hx2.mono hbs)
        have k7 := k6.row (cs32 S)
        have k8 := k0.rowOther (h := w5.heap.size) (by omega) (cs32 S).toArray
        have k9 := kr.keep (below_setRow (Below.refl w4.heap.size _) hs45 (cs32 S).toArray) (Nat.le_refl _)
        have k10 := below_setRow (g := w5.heap.size) kb (by omega) (cs32 S).toArray
        clear hx2 hx1 hbw
        go_wp2_with (first
          | (refine wpList_loadB rfl 45 (.tmp 8) rfl _ rfl 45 _ h8b 8 44 Tryd.underlying45 size8w hSl ?_)
          | (refine wpList_storeB rfl 45 (.tmp 6) (.tmp 41) rfl _ (cs32 S) rfl rfl 45 _ k6 8 size8w hSl rfl (cs32_one _) ?_))
        go_roundw
        case rel => exact ⟨j + 1, p, by omega, rfl, by show _ = _; have := HM.out; omega, by rw [← HS.out]; exact k7, k8, k9, k10⟩
        case measure => simp [intOf]; omega
    · have hjq : j = q := by omega
      have hmn : ¬ m < nn := by have h1 := HM.out; have h2 := HQ.out; omega
      have hmd : decide (m < nn) = false := by simp; omega
      rw [hjq] at h6
      obtain ⟨S, HS⟩ : ∃ S, Hid (S = overL firstL C q) := ⟨_, rfl⟩
      have hS8 : S.length = 8 := by rw [HS.out]; exact overL_len firstL_len _ _
      rw [← HS.out] at h6
      have HE : Hid (sumL l = laidL S) := by
        show _ = _
        rw [HS.out, HC.out]
        unfold sumL sumS
        have h1 := HL.out
        have h2 := HN2.out
        have h3 := HQ.out
        have h4 := HNN.out
        subst h1
        rw [show (l.length + (padZ l.length + 9)) / 64 = q by omega]
      clear hr hjq hlt
      go_wp2
      generalize hw9 : World.alloc wr _ = w9
      have hg10 : Blk w9 wr.heap.size 27 (cs8 (laidT S 0)) := by rw [← hw9]; exact Blk.at _ _ _ rfl
      have k6 : Blk w9 w5.heap.size 45 (cs32 S) := by rw [← hw9]; exact h6.alloc _
      have k0 : Blk w9 w.heap.size 27 (cs8 (List.replicate 32 0)) := by rw [← hw9]; exact hb0.alloc _
      have kb : Below w.heap.size w w9 := by rw [← hw9]; exact hb.alloc hbs _
      clear hw9 h6 hb0 hb
      generalize wr.heap.size = g10 at *
      go_loopw [11] (fun i wr => ∃ (k : Nat), k ≤ 32 ∧ i = .int .i64 (k : Int) ∧ Blk wr g10 27 (cs8 (laidT S k)) ∧ Blk wr w5.heap.size 45 (cs32 S) ∧ Blk wr w.heap.size 27 (cs8 (List.replicate 32 0)) ∧ Below w.heap.size w wr) (fun i _ => 32 - (intOf i).toNat)
      case atStart => exact ⟨0, Nat.zero_le _, rfl, hg10, k6, k0, kb⟩
      case round =>
        clear hg10 k6 k0 kb
        obtain ⟨k, hk, rfl, hg10, k6, k0, kb⟩ := hrel
        by_cases hlt : k < 32
        · obtain ⟨x, hx, HX⟩ : ∃ x : Nat, (k : Int) / 4 = (x : Int) ∧ Hid (x = k / 4) := ⟨k / 4, by omega, rfl⟩
          obtain ⟨y, hy, HY⟩ : ∃ y : Nat, (24 : Int) - 8 * ((k : Int) % 4) = (y : Int) ∧ Hid (y = 24 - 8 * (k % 4)) := ⟨24 - 8 * (k % 4), by omega, rfl⟩
          have hx8 : (x : Int) < 8 := by omega
          have hy0 : (0 : Int) ≤ (y : Int) := by omega
          have hy31 : (y : Int) ≤ 31 := by omega
          have hcx := k6.cell (j := x) (v := .int .u32 ((nth S x).toNat : Int)) (by rw [cs32_at (show x < S.length by omega), nth_at])
          have hlb := laid_byte S k y HY.out
          have hN := laidT_next S k hS8 hlt
          rw [← HX.out] at hlb hN
          have hc := hg10.cell (j := k) (v := .int .u8 0) (by simp [cs8, laidT_at S k hS8 hlt])
          have hfz := hg10.frozen k
          have HK := hide (hg10.set k (.int .u8 ((byt ((nth S x).toNat / 256 ^ (3 - k % 4))).toNat : Int)))
          rw [cs8_set, hN] at HK
          have H6 := hide (k6.other (h := g10) (by omega) k (.int .u8 ((byt ((nth S x).toNat / 256 ^ (3 - k % 4))).toNat : Int)))
          have H0 := hide (k0.other (h := g10) (by omega) k (.int .u8 ((byt ((nth S x).toNat / 256 ^ (3 - k % 4))).toNat : Int)))
          have HB := hide (kb.setCell (p := ⟨g10, k, none⟩) (show w.heap.size ≤ g10 by omega) (.int .u8 ((byt ((nth S x).toNat / 256 ^ (3 - k % 4))).toNat : Int)))
          clear hg10 k6 k0 kb hN
          go_wp2_with (go_at_call 38; refine (shifted_at _ _ _ hy0 hy31).mono ?_; rintro e' w' ⟨rfl, rfl⟩)
          go_roundw
          case rel => exact ⟨k + 1, by omega, by go_num, HK, H6, H0, HB⟩
          case measure => simp [intOf]; omega
        · obtain rfl : k = 32 := by omega
          rw [laidT_end S hS8, ← HE.out] at hg10
          have hl32 : (cs8 (sumL l)).length = 32 := by rw [cs8_len, sumL_len]
          go_wp2_with (first
            | (refine wpList_loadB rfl 27 (.tmp 10) rfl _ rfl 27 _ hg10 32 5 Tryd.underlying27 size32b hl32 ?_)
            | (refine wpList_storeB rfl 27 (.tmp 2) (.tmp 59) rfl _ (cs8 (sumL l)) rfl rfl 27 _ k0 32 size32b hl32 rfl (cs8_one _) ?_))
          refine ret_cell rfl Tryd.underlying27 size32b rfl (k0.row _) hl32 rfl ?_
          exact ⟨rfl, below_setRow kb (Nat.le_refl _) _⟩
end Go.Proofs.YthglpniemenhcaaDoor
