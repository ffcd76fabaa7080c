/-
  Contracts of the reference of layer 5 (midstreamref05): Block, mixed.
-/
import Derived.Test.YthglpniemenhcaaDoorMPkg3
import Derived.Test.YthglpniemenhcaaDoorSSum2
namespace Go.Proofs.YthglpniemenhcaaDoor
open Go.RowKit
set_option maxHeartbeats 1600000

/-- The first j bytes, and bytes 0 behind them. -/
def filL (D : List UInt8) (n j : Nat) : List UInt8 := D.take j ++ nulL (n - j)
theorem filL_zero (D : List UInt8) (n : Nat) : filL D n 0 = nulL n := by simp [filL]
theorem filL_at (D : List UInt8) (n j : Nat) (h : j < D.length) (hn : j < n) : (filL D n j)[j]? = some 0 := by
  unfold filL nulL
  rw [List.getElem?_append_right (by simp; omega), List.length_take, show j - min j D.length = 0 by omega, show n - j = (n - j - 1) + 1 by omega]
  rfl
theorem filL_next (D : List UInt8) (n j : Nat) (h : j < D.length) (hn : j < n) : (filL D n j).set j D[j] = filL D n (j + 1) := by
  unfold filL nulL
  rw [List.set_append_right _ _ (by simp; omega), List.length_take, show j - min j D.length = 0 by omega, show n - j = (n - (j + 1)) + 1 by omega, List.replicate_succ, List.set_cons_zero, List.take_succ_eq_append_getElem h, List.append_assoc]
  rfl
theorem rBlock_any (B : Nat) (A : Option Addr) (n c : Nat) (l : List UInt8) (w : World) (hr : Row w B A n c (cs8 l)) (hB : B ≤ w.heap.size) (hl : n ≤ 1073741824) :
    Calls Tryd.prog 12 #[.slice A n c] w (Ret64 w (blkL l)) := by
  have HL : Hid (l.length = n) := by have := hr.len; rwa [cs8_len] at this
  obtain ⟨X, HX⟩ : ∃ X, Hid (X = blkL l) := ⟨_, rfl⟩
  have hX64 : (cs8 X).length = 64 := by rw [cs8_len, HX.out, blkL_len]
  rw [← HX.out]
  by_cases h64 : n ≤ 64
  · have hd : decide ((64 : Int) < (n : Int)) = false := by simp; omega
    have HE : Hid (filL l 64 n = X) := by
      show _ = _
      rw [HX.out, blkL_short (by rw [HL.out]; exact h64), filL, List.take_of_length_le (by rw [HL.out]; exact Nat.le_refl _), HL.out]
    go_enter Tryd.func12, Tryd.ntmps12
    go_wp2
    go_loopw [6] (fun i wr => ∃ j : Nat, j ≤ n ∧ i = .int .i64 (j : Int) ∧ Blk wr (w.heap.size + 1) 25 (cs8 (filL l 64 j)) ∧ Blk wr w.heap.size 25 (cs8 (nulL 64)) ∧ Below w.heap.size w wr) (fun i _ => n - (intOf i).toNat)
    case atStart => exact ⟨0, Nat.zero_le _, rfl, by rw [filL_zero]; exact Blk.at _ _ _ (by simp), (Blk.at _ _ _ rfl).alloc _, ((Below.refl _ _).alloc (Nat.le_refl _) _).alloc (by simp) _⟩
    case round =>
      obtain ⟨j, hj, rfl, h3, h2, hb⟩ := hrel
      have hs := hb.size
      by_cases hlt : j < n
      · have hlj : j < l.length := by rw [HL.out]; exact hlt
        have hji : (j : Int) < (n : Int) := by omega
        have hj64 : (j : Int) < 64 := by omega
        obtain ⟨b, o, u, rfl, hbB, hu, hcu⟩ := (hr.keep hb hB).get hlt
        rw [cs8_at hlj] at hu
        obtain rfl := Option.some.inj hu
        have hc := h3.cell (j := j) (v := .int .u8 0) (by have := filL_at l 64 j hlj (by omega); simp [cs8, this])
        have hfz := h3.frozen j
        have HK := hide (h3.set j (.int .u8 (l[j].toNat : Int)))
        rw [cs8_set, filL_next l 64 j hlj (by omega)] at HK
        have HO := hide (h2.other (h := w.heap.size + 1) (by omega) j (.int .u8 (l[j].toNat : Int)))
        have HB := hide (hb.setCell (p := ⟨w.heap.size + 1, j, none⟩) (show w.heap.size ≤ w.heap.size + 1 by omega) (.int .u8 (l[j].toNat : Int)))
        clear h3 h2 hb hu
        go_wp2
        go_roundw
        case rel => exact ⟨j + 1, by omega, by go_num, HK, HO, HB⟩
        case measure => simp [intOf]; omega
      · obtain rfl : j = n := by omega
        rw [HE.out] at h3
        go_wp2_with (first
          | (refine wpList_loadB rfl 25 (.tmp 3) rfl _ rfl 25 _ h3 64 5 Tryd.underlying25 size64b hX64 ?_)
          | (refine wpList_storeB rfl 25 (.tmp 2) (.tmp 34) rfl _ (cs8 X) rfl rfl 25 _ h2 64 size64b hX64 rfl (cs8_one _) ?_))
        refine ret_cell rfl Tryd.underlying25 size64b rfl (h2.row _) hX64 rfl ?_
        exact ⟨rfl, below_setRow hb (Nat.le_refl _) _⟩
  · have hd : decide ((64 : Int) < (n : Int)) = true := by simp; omega
    obtain ⟨D, HD⟩ : ∃ D, Hid (D = sumL l) := ⟨_, rfl⟩
    have hD32 : D.length = 32 := by rw [HD.out]; exact sumL_len l
    have hDl : (cs8 D).length = 32 := by rw [cs8_len]; exact hD32
    have HE : Hid (filL D 64 32 = X) := by
      show _ = _
      rw [HX.out, blkL_long (by rw [HL.out]; exact h64), filL, List.take_of_length_le (by rw [hD32]; exact Nat.le_refl _), HD.out]
    go_enter Tryd.func12, Tryd.ntmps12
    go_wp2_with fail
    generalize hw : World.alloc (World.alloc w _) _ = w1
    have hb : Below w.heap.size w w1 := by rw [← hw]; exact ((Below.refl _ w).alloc (Nat.le_refl _) _).alloc (by simp) _
    have hb0 : Blk w1 w.heap.size 25 (cs8 (nulL 64)) := by rw [← hw]; exact (Blk.at _ _ _ rfl).alloc _
    have hb1 : Blk w1 (w.heap.size + 1) 25 (cs8 (nulL 64)) := by rw [← hw]; exact Blk.at _ _ _ (by simp)
    clear hw
    have hs1 := hb.size
    have hl1 := hb1.lt
    refine (rSum_any B _ _ _ l w1 (hr.keep hb hB) (by omega) hl).mono ?_
    unfold Sum32
    rw [← HD.out]
    rintro e w2 ⟨rfl, hb2⟩
    have hs2 := hb2.size
    have k0 := hb0.keep hb2 (by omega)
    have k1 := hb1.keep hb2 hl1
    have hb02 := hb.trans (hb2.mono hs1)
    clear hb0 hb1 hb2 hb
    go_wp2_with (refine wpList_storeB rfl 27 (.tmp 4) (.tmp 11) rfl w2.heap.size (cs8 D) rfl rfl 27 (cs8 (nulL 32)) (Blk.at _ _ _ rfl) 32 size32b hDl rfl (cs8_one _) ?_; rw [World.setRow_alloc_new]; have k4 := Blk.new w2 27 (cs8 D); have hb3 := (Below.refl w2.heap.size w2).alloc (Nat.le_refl _) (.cells (cs8 D).toArray 27 (0, 0)); generalize World.alloc w2 _ = w3 at k4 hb3 ⊢)
    have m0 := k0.keep hb3 (by omega)
    have m1 := k1.keep hb3 (by omega)
    have hb03 := hb02.trans (hb3.mono (by omega))
    have hs3 := hb3.size
    clear hb3 hb02 k0 k1
    go_loopw [5] (fun i wr => ∃ j : Nat, j ≤ 32 ∧ i = .int .i64 (j : Int) ∧ Blk wr (w.heap.size + 1) 25 (cs8 (filL D 64 j)) ∧ Blk wr w.heap.size 25 (cs8 (nulL 64)) ∧ Blk wr w2.heap.size 27 (cs8 D) ∧ Below w.heap.size w wr) (fun i _ => 32 - (intOf i).toNat)
    case atStart => exact ⟨0, Nat.zero_le _, rfl, by rw [filL_zero]; exact m1, m0, k4, hb03⟩
    case round =>
      clear m0 m1 k4 hb03
      obtain ⟨j, hj, rfl, h3, h2, h4, hb⟩ := hrel
      have hs := hb.size
      by_cases hlt : j < 32
      · have hlj : j < D.length := by omega
        have hdj : decide ((j : Int) < 32) = true := by simp; omega
        have hj64 : (j : Int) < 64 := by omega
        have hcd := h4.cell (j := j) (v := .int .u8 (D[j].toNat : Int)) (cs8_at hlj)
        have hc := h3.cell (j := j) (v := .int .u8 0) (by have := filL_at D 64 j hlj (by omega); simp [cs8, this])
        have hfz := h3.frozen j
        have HK := hide (h3.set j (.int .u8 (D[j].toNat : Int)))
        rw [cs8_set, filL_next D 64 j hlj (by omega)] at HK
        have HO := hide (h2.other (h := w.heap.size + 1) (by omega) j (.int .u8 (D[j].toNat : Int)))
        have HP := hide (h4.other (h := w.heap.size + 1) (by omega) j (.int .u8 (D[j].toNat : Int)))
        have HB := hide (hb.setCell (p := ⟨w.heap.size + 1, j, none⟩) (show w.heap.size ≤ w.heap.size + 1 by omega) (.int .u8 (D[j].toNat : Int)))
        clear h3 h2 h4 hb
        go_wp2
        go_roundw
        case rel => exact ⟨j + 1, by omega, by go_num, HK, HO, HP, HB⟩
        case measure => simp [intOf]; omega
      · obtain rfl : j = 32 := by omega
        rw [HE.out] at h3
        go_wp2_with (first
          | (refine wpList_loadB rfl 25 (.tmp 3) rfl _ rfl 25 _ h3 64 5 Tryd.underlying25 size64b hX64 ?_)
          | (refine wpList_storeB rfl 25 (.tmp 2) (.tmp 21) rfl _ (cs8 X) rfl rfl 25 _ h2 64 size64b hX64 rfl (cs8_one _) ?_))
        refine ret_cell rfl Tryd.underlying25 size64b rfl (h2.row _) hX64 rfl ?_
        exact ⟨rfl, below_setRow hb (Nat.le_refl _) _⟩
theorem mixed_any (B : Nat) (A : Option Addr) (n c : Nat) (X l : List UInt8) (m : UInt8) (M : Int) (hM : M = (m.toNat : Int)) (w : World) (hr : Row w B A n c (cs8 l)) (hB : B ≤ w.heap.size) (hX : X.length = 64) (hl : n ≤ 1073741824) :
    Calls Tryd.prog 28 #[.agg (cs8 X).toArray, .int .u8 M, .slice A n c] w (LayPost w.heap.size w (mixL m X ++ l)) := by
  subst hM
  obtain ⟨i0, hi, hz0, hz1, hz2⟩ := info_parts info8
  have hx := xor_b
  go_enter Tryd.func28, Tryd.ntmps28
  go_wp2
  generalize hw : World.alloc _ _ = w1
  have hb1 : Below w.heap.size w w1 := by rw [← hw]; exact (Below.refl _ w).alloc (Nat.le_refl _) _
  have h3 : Blk w1 w.heap.size 25 (cs8 X) := by rw [← hw]; exact Blk.at _ _ _ rfl
  clear hw
  have hs1 := hb1.size
  have hl3 := h3.lt
  go_loopw [7, 8] (fun s i wr => ∃ (j : Nat) (A' : Option Addr) (c' : Nat), j ≤ 64 ∧ i = .int .i64 (j : Int) ∧ s = .slice A' j c' ∧ wr.ownsRow w1.heap.size 5 1 (.slice A' j c') j (cs8 (mixL m (X.take j))) ∧ Below w1.heap.size w1 wr) (fun _ i _ => 64 - (intOf i).toNat)
  case atStart => exact ⟨0, none, 0, Nat.zero_le _, rfl, rfl, World.ownsRow_nil _ _ _ _, Below.refl _ _⟩
  case round =>
    obtain ⟨j, A', c', hj, rfl, rfl, ho, hb⟩ := hrel
    have hbs := hb.size
    by_cases hlt : j < 64
    · have hd : decide ((j : Int) < 64) = true := by simp; omega
      have hc := (h3.keep hb hl3).cell (j := j) (v := .int .u8 (X[j].toNat : Int)) (cs8_at (by omega))
      have HM := hide (mixL_take m X j (by omega))
      go_wp2_with (at_builtin; refine wpList_append_row rfl (.tmp 13) (.tmp 19) 22 rfl w1.heap.size 5 i0 _ 1 Tryd.underlying22 hi hz0 hz1 hz2 rfl _ _ _ rfl (ho.alloc _) _ _ _ _ _ rfl (Row.one _ _ _) (one_u8 _) (by unfold maxLen; omega) (by omega) w1 (hb.alloc hbs _) (Nat.le_refl _) ?_; intro A3 c3 w3 ho3 hb3 hg3)
      go_roundw
      case rel => exact ⟨j + 1, A3, c3, by omega, by go_num, rfl, by rw [HM.out, cs8_snoc]; exact ho3, hb3⟩
      case measure => simp [intOf]; omega
    · obtain rfl : j = 64 := by omega
      rw [List.take_of_length_le (by omega)] at ho
      go_wp2_with (at_builtin; refine wpList_append_row rfl (.tmp 21) (.tmp 22) 22 rfl w1.heap.size 5 i0 _ 1 Tryd.underlying22 hi hz0 hz1 hz2 rfl _ _ _ rfl ho B _ _ _ _ rfl (hr.keep (hb1.trans (hb.mono hs1)) hB) (cs8_one _) (by unfold maxLen; omega) (by omega) w1 hb (Nat.le_refl _) ?_; intro A3 c3 w3 ho3 hb3 hg3)
      go_ret
      exact ⟨A3, _, c3, rfl, by rw [cs8_app]; exact own_base hs1 ho3, hb1.trans (hb3.mono hs1)⟩
end Go.Proofs.YthglpniemenhcaaDoor
