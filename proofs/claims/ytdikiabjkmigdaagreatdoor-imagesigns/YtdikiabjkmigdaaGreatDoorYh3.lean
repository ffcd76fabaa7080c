/-
  Contract of the reference's Open of layer 5 (midstreamref05).
-/
import Derived.Test.YtdikiabjkmigdaaGreatDoorYh2
import Derived.Test.YtdikiabjkmigdaaGreatDoorYh1
namespace Go.Proofs.YtdikiabjkmigdaaGreatDoor
set_option maxRecDepth 20000
open Go.RowKit
set_option maxHeartbeats 1600000

/-- The first j bytes, and bytes 0 behind them. -/
def filL (D : List UInt8) (n j : Nat) : List UInt8 := D.take j ++ nulL (n - j)
theorem filL_zero (D : List UInt8) (n : Nat) : filL D n 0 = nulL n := by simp [filL]
theorem filL_at (D : List UInt8) (n j : Nat) (h : j < D.length) (hn : j < n) : (filL D n j)[j]? = some 0 := by
  unfold filL nulL
  rw [List.getElem?_append_right (by simp; omega), List.length_take, show j - min j D.length = 0 by omega, show n - j = (n - j - 1) + 1 by omega]
  rfl
theorem filL_next (D : List UInt8) (n j : Nat) (h : j < D.length) (hn : j < n) : (filL D n j).set j D[j] = filL D n (j + 1) := by
  unfold filL nulL
  rw [List.set_append_right _ _ (by simp; omega), List.length_take, show j - min j D.length = 0 by omega, show n - j = (n - (j + 1)) + 1 by omega, List.replicate_succ, List.set_cons_zero, List.take_succ_eq_append_getElem h, List.append_assoc]
  rfl
theorem rBlock_any (B : Nat) (A : Option Addr) (n c : Nat) (l : List UInt8) (w : World) (hr : Row w B A n c (cs8 l)) (hB : B ≤ w.heap.size) (hl : n ≤ 1073741824) :
    Calls Tryz.prog 60 #[.slice A n c] w (Ret64 w (blkL l)) := by
  have HL : Hid (l.length = n) := by have := hr.len; rwa [cs8_len] at this
  obtain ⟨X, HX⟩ : ∃ X, Hid (X = blkL l) := ⟨_, rfl⟩
  have hX64 : (cs8 X).length = 64 := by rw [cs8_len, HX.out, blkL_len]
  rw [← HX.out]
  by_cases h64 : n ≤ 64
  · have hd : decide ((64 : Int) < (n : Int)) = false := by simp; omega
    have HE : Hid (filL l 64 n = X) := by
      show _ = _
      rw [HX.out, blkL_short (by rw [HL.out]; exact h64), filL, List.take_of_length_le (by rw [HL.out]; exact Nat.le_refl _), HL.out]
    go_enter Tryz.func60, Tryz.ntmps60
    go_wp2
    go_loopw [6] (fun i wr => ∃ j : Nat, j ≤ n ∧ i = .int .i64 (j : Int) ∧ Blk wr (w.heap.size + 1) 76 (cs8 (filL l 64 j)) ∧ Blk wr w.heap.size 76 (cs8 (nulL 64)) ∧ Below w.heap.size w wr) (fun i _ => n - (intOf i).toNat)
    case atStart => exact ⟨0, Nat.zero_le _, rfl, by rw [filL_zero]; exact Blk.at _ _ _ (by simp), (Blk.at _ _ _ rfl).alloc _, ((Below.refl _ _).alloc (Nat.le_refl _) _).alloc (by simp) _⟩
    case round =>
      obtain ⟨j, hj, rfl, h3, h2, hb⟩ := hrel
      have hs := hb.size
      by_cases hlt : j < n
      · have hlj : j < l.length := by rw [HL.out]; exact hlt
        have hji : (j : Int) < (n : Int) := by omega
        have hj64 : (j : Int) < 64 := by omega
        obtain ⟨b, o, u, rfl, hbB, hu, hcu⟩ := (hr.keep hb hB).get hlt
        rw [cs8_at hlj] at hu
        obtain rfl := Option.some.inj hu
        have hc := h3.cell (j := j) (v := .int .u8 0) (by have := filL_at l 64 j hlj (by omega); simp [cs8, this])
        have hfz := h3.frozen j
        have HK := hide (h3.set j (.int .u8 (l[j].toNat : Int)))
        rw [cs8_set, filL_next l 64 j hlj (by omega)] at HK
        have HO := hide (h2.other (h := w.heap.size + 1) (by omega) j (.int .u8 (l[j].toNat : Int)))
        have HB := hide (hb.setCell (p := ⟨w.heap.size + 1, j, none⟩) (show w.heap.size ≤ w.heap.size + 1 by omega) (.int .u8 (l[j].toNat : Int)))
        clear h3 h2 hb hu
        go_wp2
        go_roundw
        case rel => exact ⟨j + 1, by omega, by go_num, HK, HO, HB⟩
        case measure => simp [intOf]; omega
      · obtain rfl : j = n := by omega
        rw [HE.out] at h3
        go_wp2_with (first
          | (refine wpList_loadB rfl 76 (.tmp 3) rfl _ rfl 76 _ h3 64 5 Tryz.underlying76 size64b hX64 ?_)
          | (refine wpList_storeB rfl 76 (.tmp 2) (.tmp 34) rfl _ (cs8 X) rfl rfl 76 _ h2 64 size64b hX64 rfl (cs8_one _) ?_))
        refine ret_cell rfl Tryz.underlying76 size64b rfl (h2.row _) hX64 rfl ?_
        exact ⟨rfl, below_setRow hb (Nat.le_refl _) _⟩
  · have hd : decide ((64 : Int) < (n : Int)) = true := by simp; omega
    obtain ⟨D, HD⟩ : ∃ D, Hid (D = sumL l) := ⟨_, rfl⟩
    have hD32 : D.length = 32 := by rw [HD.out]; exact sumL_len l
    have hDl : (cs8 D).length = 32 := by rw [cs8_len]; exact hD32
    have HE : Hid (filL D 64 32 = X) := by
      show _ = _
      rw [HX.out, blkL_long (by rw [HL.out]; exact h64), filL, List.take_of_length_le (by rw [hD32]; exact Nat.le_refl _), HD.out]
    go_enter Tryz.func60, Tryz.ntmps60
    go_wp2_with fail
    generalize hw : World.alloc (World.alloc w _) _ = w1
    have hb : Below w.heap.size w w1 := by rw [← hw]; exact ((Below.refl _ w).alloc (Nat.le_refl _) _).alloc (by simp) _
    have hb0 : Blk w1 w.heap.size 76 (cs8 (nulL 64)) := by rw [← hw]; exact (Blk.at _ _ _ rfl).alloc _
    have hb1 : Blk w1 (w.heap.size + 1) 76 (cs8 (nulL 64)) := by rw [← hw]; exact Blk.at _ _ _ (by simp)
    clear hw
    have hs1 := hb.size
    have hl1 := hb1.lt
    refine (rSum_any B _ _ _ l w1 (hr.keep hb hB) (by omega) hl).mono ?_
    unfold Sum32
    rw [← HD.out]
    rintro e w2 ⟨rfl, hb2⟩
    have hs2 := hb2.size
    have k0 := hb0.keep hb2 (by omega)
    have k1 := hb1.keep hb2 hl1
    have hb02 := hb.trans (hb2.mono hs1)
    clear hb0 hb1 hb2 hb
    go_wp2_with (refine wpList_storeB rfl 49 (.tmp 4) (.tmp 11) rfl w2.heap.size (cs8 D) rfl rfl 49 (cs8 (nulL 32)) (Blk.at _ _ _ rfl) 32 size32b hDl rfl (cs8_one _) ?_; rw [World.setRow_alloc_new]; have k4 := Blk.new w2 49 (cs8 D); have hb3 := (Below.refl w2.heap.size w2).alloc (Nat.le_refl _) (.cells (cs8 D).toArray 49 (0, 0)); generalize World.alloc w2 _ = w3 at k4 hb3 ⊢)
    have m0 := k0.keep hb3 (by omega)
    have m1 := k1.keep hb3 (by omega)
    have hb03 := hb02.trans (hb3.mono (by omega))
    have hs3 := hb3.size
    clear hb3 hb02 k0 k1
    go_loopw [5] (fun i wr => ∃ j : Nat, j ≤ 32 ∧ i = .int .i64 (j : Int) ∧ Blk wr (w.heap.size + 1) 76 (cs8 (filL D 64 j)) ∧ Blk wr w.heap.size 76 (cs8 (nulL 64)) ∧ Blk wr w2.heap.size 49 (cs8 D) ∧ Below w.heap.size w wr) (fun i _ => 32 - (intOf i).toNat)
    case atStart => exact ⟨0, Nat.zero_le _, rfl, by rw [filL_zero]; exact m1, m0, k4, hb03⟩
    case round =>
      clear m0 m1 k4 hb03
      obtain ⟨j, hj, rfl, h3, h2, h4, hb⟩ := hrel
      have hs := hb.size
      by_cases hlt : j < 32
      · have hlj : j < D.length := by omega
        have hdj : decide ((j : Int) < 32) = true := by simp; omega
        have hj64 : (j : Int) < 64 := by omega
        have hcd := h4.cell (j := j) (v := .int .u8 (D[j].toNat : Int)) (cs8_at hlj)
        have hc := h3.cell (j := j) (v := .int .u8 0) (by have := filL_at D 64 j hlj (by omega); simp [cs8, this])
        have hfz := h3.frozen j
        have HK := hide (h3.set j (.int .u8 (D[j].toNat : Int)))
        rw [cs8_set, filL_next D 64 j hlj (by omega)] at HK
        have HO := hide (h2.other (h := w.heap.size + 1) (by omega) j (.int .u8 (D[j].toNat : Int)))
        have HP := hide (h4.other (h := w.heap.size + 1) (by omega) j (.int .u8 (D[j].toNat : Int)))
        have HB := hide (hb.setCell (p := ⟨w.heap.size + 1, j, none⟩) (show w.heap.size ≤ w.heap.size + 1 by omega) (.int .u8 (D[j].toNat : Int)))
        clear h3 h2 h4 hb
        go_wp2
        go_roundw
        case rel => exact ⟨j + 1, by omega, by go_num, HK, HO, HP, HB⟩
        case measure => simp [intOf]; omega
      · obtain rfl : j = 32 := by omega
        rw [HE.out] at h3
        go_wp2_with (first
          | (refine wpList_loadB rfl 76 (.tmp 3) rfl _ rfl 76 _ h3 64 5 Tryz.underlying76 size64b hX64 ?_)
          | (refine wpList_storeB rfl 76 (.tmp 2) (.tmp 21) rfl _ (cs8 X) rfl rfl 76 _ h2 64 size64b hX64 rfl (cs8_one _) ?_))
        refine ret_cell rfl Tryz.underlying76 size64b rfl (h2.row _) hX64 rfl ?_
        exact ⟨rfl, below_setRow hb (Nat.le_refl _) _⟩
theorem mixed_any (B : Nat) (A : Option Addr) (n c : Nat) (X l : List UInt8) (m : UInt8) (M : Int) (hM : M = (m.toNat : Int)) (w : World) (hr : Row w B A n c (cs8 l)) (hB : B ≤ w.heap.size) (hX : X.length = 64) (hl : n ≤ 1073741824) :
    Calls Tryz.prog 62 #[.agg (cs8 X).toArray, .int .u8 M, .slice A n c] w (LayPost w.heap.size w (mixL m X ++ l)) := by
  subst hM
  obtain ⟨i0, hi, hz0, hz1, hz2⟩ := info_parts info8
  have hx := xor_b
  go_enter Tryz.func62, Tryz.ntmps62
  go_wp2
  generalize hw : World.alloc _ _ = w1
  have hb1 : Below w.heap.size w w1 := by rw [← hw]; exact (Below.refl _ w).alloc (Nat.le_refl _) _
  have h3 : Blk w1 w.heap.size 76 (cs8 X) := by rw [← hw]; exact Blk.at _ _ _ rfl
  clear hw
  have hs1 := hb1.size
  have hl3 := h3.lt
  go_loopw [7, 8] (fun s i wr => ∃ (j : Nat) (A' : Option Addr) (c' : Nat), j ≤ 64 ∧ i = .int .i64 (j : Int) ∧ s = .slice A' j c' ∧ wr.ownsRow w1.heap.size 5 1 (.slice A' j c') j (cs8 (mixL m (X.take j))) ∧ Below w1.heap.size w1 wr) (fun _ i _ => 64 - (intOf i).toNat)
  case atStart => exact ⟨0, none, 0, Nat.zero_le _, rfl, rfl, World.ownsRow_nil _ _ _ _, Below.refl _ _⟩
  case round =>
    obtain ⟨j, A', c', hj, rfl, rfl, ho, hb⟩ := hrel
    have hbs := hb.size
    by_cases hlt : j < 64
    · have hd : decide ((j : Int) < 64) = true := by simp; omega
      have hc := (h3.keep hb hl3).cell (j := j) (v := .int .u8 (X[j].toNat : Int)) (cs8_at (by omega))
      have HM := hide (mixL_take m X j (by omega))
      go_wp2_with (at_builtin; refine wpList_append_row rfl (.tmp 13) (.tmp 19) 29 rfl w1.heap.size 5 i0 _ 1 Tryz.underlying29 hi hz0 hz1 hz2 rfl _ _ _ rfl (ho.alloc _) _ _ _ _ _ rfl (Row.one _ _ _) (one_u8 _) (by unfold maxLen; omega) (by omega) w1 (hb.alloc hbs _) (Nat.le_refl _) ?_; intro A3 c3 w3 ho3 hb3 hg3)
      go_roundw
      case rel => exact ⟨j + 1, A3, c3, by omega, by go_num, rfl, by rw [HM.out, cs8_snoc]; exact ho3, hb3⟩
      case measure => simp [intOf]; omega
    · obtain rfl : j = 64 := by omega
      rw [List.take_of_length_le (by omega)] at ho
      go_wp2_with (at_builtin; refine wpList_append_row rfl (.tmp 21) (.tmp 22) 29 rfl w1.heap.size 5 i0 _ 1 Tryz.underlying29 hi hz0 hz1 hz2 rfl _ _ _ rfl ho B _ _ _ _ rfl (hr.keep (hb1.trans (hb.mono hs1)) hB) (cs8_one _) (by unfold maxLen; omega) (by omega) w1 hb (Nat.le_refl _) ?_; intro A3 c3 w3 ho3 hb3 hg3)
      go_ret
      exact ⟨A3, _, c3, rfl, by rw [cs8_app]; exact own_base hs1 ho3, hb1.trans (hb3.mono hs1)⟩
end Go.Proofs.YtdikiabjkmigdaaGreatDoor
namespace Go.Proofs.YtdikiabjkmigdaaGreatDoor
set_option maxRecDepth 20000
open Go.RowKit
set_option maxHeartbeats 1600000

theorem rTag_any (B : Nat) (Ak : Option Addr) (nk ck : Nat) (k : List UInt8) (A : Option Addr) (n c : Nat) (l : List UInt8) (w : World) (hk : Row w B Ak nk ck (cs8 k)) (hr : Row w B A n c (cs8 l)) (hB : B ≤ w.heap.size) (hnk : nk ≤ 1073741824) (hl : n ≤ 536870912) :
    Calls Tryz.prog 31 #[.slice Ak nk ck, .slice A n c] w (Ret64 w (tagL k l)) := by
  obtain ⟨X, HX⟩ : ∃ X, Hid (X = blkL k) := ⟨_, rfl⟩
  have hX64 : X.length = 64 := by rw [HX.out]; exact blkL_len k
  have hXl : (cs8 X).length = 64 := by rw [cs8_len]; exact hX64
  obtain ⟨I, HI⟩ : ∃ I, Hid (I = sumL (mixL 54 X ++ l)) := ⟨_, rfl⟩
  have hI32 : I.length = 32 := by rw [HI.out]; exact sumL_len _
  have hIl : (cs8 I).length = 32 := by rw [cs8_len]; exact hI32
  obtain ⟨D, HD⟩ : ∃ D, Hid (D = sumL (mixL 92 X ++ I)) := ⟨_, rfl⟩
  have hDl : (cs8 D).length = 32 := by rw [cs8_len, HD.out]; exact sumL_len _
  have HL : Hid (l.length = n) := by have := hr.len; rwa [cs8_len] at this
  have hT : tagL k l = D := by rw [HD.out, HI.out, HX.out]; rfl
  rw [hT]
  have HT := hide hT
  clear hT
  go_enter Tryz.func31, Tryz.ntmps31
  go_wp2_with fail
  generalize hw : World.alloc _ _ = w1
  have hb1 : Below w.heap.size w w1 := by rw [← hw]; exact (Below.refl _ w).alloc (Nat.le_refl _) _
  have h4 : Blk w1 w.heap.size 49 (cs8 (nulL 32)) := by rw [← hw]; exact Blk.at _ _ _ rfl
  clear hw
  have hs1 := hb1.size
  have hl4 := h4.lt
  refine (rBlock_any B Ak nk ck k w1 (hk.keep hb1 hB) (by omega) hnk).mono ?_
  rw [← HX.out]
  rintro e w2 ⟨rfl, hb2⟩
  have hb02 := hb1.trans (hb2.mono hs1)
  have h42 := h4.keep hb2 hl4
  clear hb1 hb2 h4
  have hs2 := hb02.size
  have hl42 := h42.lt
  go_wp2_with (first
    | (refine wpList_storeB rfl 76 (.tmp 5) (.tmp 8) rfl w2.heap.size (cs8 X) rfl rfl 76 (cs8 (nulL 64)) (Blk.at _ _ _ rfl) 64 size64b hXl rfl (cs8_one _) ?_; rw [World.setRow_alloc_new]; have h53 := Blk.new w2 76 (cs8 X); have hb3 := (Below.refl w2.heap.size w2).alloc (Nat.le_refl _) (.cells (cs8 X).toArray 76 (0, 0)); generalize World.alloc w2 _ = w3 at h53 hb3 ⊢)
    | (refine wpList_loadB rfl 76 (.tmp 5) rfl _ rfl 76 (cs8 X) h53 64 5 Tryz.underlying76 size64b hXl ?_))
  have h43 := h42.keep hb3 hl42
  have hb03 := hb02.trans (hb3.mono hs2)
  have hs3 := hb03.size
  have hl53 := h53.lt
  clear hb3 hb02 h42
  refine (mixed_any B A n c X l 54 _ rfl w3 (hr.keep hb03 hB) (by omega) hX64 (by omega)).mono ?_
  rintro e w4 ⟨A4, n4, c4, rfl, ho4, hb4⟩
  have h44 := h43.keep hb4 (by omega)
  have h54 := h53.keep hb4 hl53
  have hb04 := hb03.trans (hb4.mono hs3)
  have hs4 := hb04.size
  have hl54 := h54.lt
  have hn4 : n4 ≤ 1073741824 := by have h1 := own8_len ho4; rw [List.length_append, mixL_len, hX64, HL.out] at h1; omega
  clear hb4 hb03 h43 h53
  go_wp2_with fail
  refine (rSum_any w4.heap.size A4 n4 c4 (mixL 54 X ++ l) w4 (Row.of_own ho4) (Nat.le_refl _) hn4).mono ?_
  unfold Sum32
  rw [← HI.out]
  rintro e w5 ⟨rfl, hb5⟩
  have h45 := h44.keep hb5 (by omega)
  have h55 := h54.keep hb5 hl54
  have hb05 := hb04.trans (hb5.mono hs4)
  have hs5 := hb05.size
  have hl55 := h55.lt
  clear hb5 hb04 h44 h54 ho4
  go_wp2_with (refine wpList_storeB rfl 49 (.tmp 6) (.tmp 12) rfl w5.heap.size (cs8 I) rfl rfl 49 (cs8 (nulL 32)) (Blk.at _ _ _ rfl) 32 size32b hIl rfl (cs8_one _) ?_; rw [World.setRow_alloc_new]; have h66 := Blk.new w5 49 (cs8 I); have hb6 := (Below.refl w5.heap.size w5).alloc (Nat.le_refl _) (.cells (cs8 I).toArray 49 (0, 0)); generalize World.alloc w5 _ = w6 at h66 hb6 ⊢)
  have h46 := (h45.keep hb6 (by omega)).drew
  have h56 := (h55.keep hb6 hl55).drew
  have h66' := h66.drew
  have hb06 := (hb05.trans (hb6.mono hs5)).drew
  clear hb6 hb05 h45 h55 h66
  have hs6 := hb06.size
  have hs56 : w5.heap.size < w6.heap.size := h66'.lt
  have hl56 := hide h56.lt
  have hl66 := hide h66'.lt
  have hu := Tryz.underlying76
  have hiX : (Tryz.prog.info? 76).map (·.size) = some (cs8 X).length := by rw [hXl]; exact size64b
  refine wp_region_held_drew (S := fun w' => w'.rangeAt w2.heap.size 0 (cs8 X)) (by kernel_rfl) h56.range (fun hS0 => ?_)
  refine wpAnyH_take (i := 0) rfl (by kernel_rfl) (by kernel_rfl) (by kernel_rfl) (fun _ _ _ h => h) (yieldsIf_load_mid (by rfl) _ _ rfl _ _ rfl (cs8 X) _ (fun _ h => h) hu rfl hiX) (by assumption) ?_
  simp only [List.getElem_toArray, List.getElem_cons_zero, Act.put, List.setIfInBounds_toArray, List.set_cons_zero, List.set_cons_succ]
  refine wpAnyH_take (i := 1) (v := .slice (some ⟨w5.heap.size, 0, none⟩) 32 32) rfl (by kernel_rfl) (by kernel_rfl) (by kernel_rfl) (fun _ _ _ h => h) (Or.inl ⟨by rfl, fun w _ => by go_simp⟩) (by assumption) ?_
  simp only [List.getElem_toArray, List.getElem_cons_zero, List.getElem_cons_succ, Act.put, List.setIfInBounds_toArray, List.set_cons_zero, List.set_cons_succ]
  refine wpAnyH_ready (rs := [2]) (by kernel_rfl) (by simp) ?_
  refine AllReadyH.cons rfl (fun K hKK => ?_) AllReadyH.nil
  go_simp
  refine (mixed_any _ (some ⟨w5.heap.size, 0, none⟩) 32 32 X I 92 _ rfl _ (h66'.whole hIl (by unfold maxLen; omega)) (Nat.le_refl _) hX64 (by omega)).mono ?_
  rintro e w7 ⟨A7, n7, c7, rfl, ho7, hb7⟩
  have h47 := h46.keep hb7 (by simp; omega)
  have h57 := h56.keep hb7 hl56.out
  have hb07 := hb06.trans (hb7.mono hs6)
  have hs7 := hb07.size
  have hn7 : n7 ≤ 1073741824 := by have h1 := own8_len ho7; rw [List.length_append, mixL_len, hX64, hI32] at h1; omega
  clear hb7 hb06 h46 h56 h66'
  refine hKK.out _ _ (h57.range) (fun hS2 => ?_)
  clear hKK
  refine wpAnyH_ready (rs := [3]) (by kernel_rfl) (by simp) ?_
  refine AllReadyH.cons rfl (fun K hKK => ?_) AllReadyH.nil
  go_simp
  refine (rSum_any w7.heap.size A7 n7 c7 (mixL 92 X ++ I) w7 (Row.of_own ho7) (Nat.le_refl _) hn7).mono ?_
  unfold Sum32
  rw [← HD.out]
  rintro e w8 ⟨rfl, hb8⟩
  have h48 := h47.keep hb8 h47.lt
  have h58 := h57.keep hb8 h57.lt
  have hb08 := hb07.trans (hb8.mono hs7)
  clear hb8 hb07 h47 h57 ho7
  have hst := run_storeB (P := Tryz.prog) h48 (cs8 D) (by rw [hDl]; rfl) (cs8_one _)
  refine hKK.out _ _ (h58.range) (fun hS3 => ?_)
  clear hKK
  refine wpAnyH_ready (rs := [4]) (by kernel_rfl) (by simp) ?_
  refine AllReadyH.cons rfl (fun K hKK => ?_) AllReadyH.nil
  go_simp
  refine hKK.out _ _ ((h58.rowOther (by omega) _).range) (fun hS4 => ?_)
  clear hKK
  refine wpAnyH_done (by kernel_rfl) ?_ _
  go_wp2
  refine ret_cell rfl Tryz.underlying49 size32b rfl (h48.row _) hDl rfl ?_
  exact ⟨rfl, below_setRow hb08 (Nat.le_refl _) _⟩
theorem rRight_any (B : Nat) (Ak : Option Addr) (nk ck : Nat) (k : List UInt8) (A : Option Addr) (n c : Nat) (l : List UInt8) (At : Option Addr) (nt ct : Nat) (t : List UInt8) (w : World) (hk : Row w B Ak nk ck (cs8 k)) (hr : Row w B A n c (cs8 l)) (ht : Row w B At nt ct (cs8 t)) (hB : B ≤ w.heap.size) (hnk : nk ≤ 1073741824) (hl : n ≤ 536870912) :
    Calls Tryz.prog 34 #[.slice Ak nk ck, .slice A n c, .slice At nt ct] w (RetB w (rgtB k l t)) := by
  obtain ⟨T, HT⟩ : ∃ T, Hid (T = tagL k l) := ⟨_, rfl⟩
  have hTl : (cs8 T).length = 32 := by rw [cs8_len, HT.out]; exact tagL_len k l
  obtain ⟨b, HB⟩ : ∃ b, Hid (b = rgtB k l t) := ⟨_, rfl⟩
  have hq : (t == T) = b := by rw [HB.out, HT.out, rgtB, Bool.eq_iff_iff]; simp
  rw [← HB.out]
  go_enter Tryz.func34, Tryz.ntmps34
  go_wp2_with fail
  refine (rTag_any B Ak nk ck k A n c l _ hk hr hB hnk hl).mono ?_
  rw [← HT.out]
  rintro e w1 ⟨rfl, hb1⟩
  have hs1 := hb1.size
  go_wp2_with (refine wpList_storeB rfl 49 (.tmp 7) (.tmp 10) rfl w1.heap.size (cs8 T) rfl rfl 49 (cs8 (nulL 32)) (Blk.at _ _ _ rfl) 32 size32b hTl rfl (cs8_one _) ?_; rw [World.setRow_alloc_new]; have h72 := Blk.new w1 49 (cs8 T); have hb2 := (Below.refl w1.heap.size w1).alloc (Nat.le_refl _) (.cells (cs8 T).toArray 49 (0, 0)); generalize World.alloc w1 _ = w2 at h72 hb2 ⊢)
  have hb02 := hb1.trans (hb2.mono hs1)
  have ht2 := ht.keep hb02 hB
  have hT2 := h72.whole hTl (by unfold maxLen; omega)
  clear hb1 hb2 h72
  have q1 := fun j => (ht2.keep (below_drewN B w2 j) (Nat.le_refl _)).str (P := Tryz.prog) (dst := 9) Tryz.underlying29 Tryz.underlying5 Tryz.underlying9
  have q2 := fun j => (hT2.keep (below_drewN _ w2 j) (Nat.le_refl _)).str (P := Tryz.prog) (dst := 9) Tryz.underlying29 Tryz.underlying5 Tryz.underlying9
  clear ht2 hT2
  go_quiet (fail)
  go_wp2
  go_ret
  exact ⟨rfl, hb02.trans (below_drewN _ _ _)⟩
theorem rSeal_any (B : Nat) (Ak : Option Addr) (nk ck : Nat) (k : List UInt8) (A : Option Addr) (n c : Nat) (l : List UInt8) (w : World) (hk : Row w B Ak nk ck (cs8 k)) (hr : Row w B A n c (cs8 l)) (hB : B ≤ w.heap.size) (hnk : nk ≤ 1073741824) (hl : n ≤ 536870912) :
    Calls Tryz.prog 16 #[.slice Ak nk ck, .slice A n c] w (LayPost w.heap.size w (sealT k l)) := by
  obtain ⟨i0, hi, hz0, hz1, hz2⟩ := info_parts info8
  obtain ⟨T, HT⟩ : ∃ T, Hid (T = tagL k l) := ⟨_, rfl⟩
  have hTl : (cs8 T).length = 32 := by rw [cs8_len, HT.out]; exact tagL_len k l
  have HS : Hid (sealT k l = l ++ T) := by show _ = _; rw [HT.out]; rfl
  rw [HS.out]
  go_enter Tryz.func16, Tryz.ntmps16
  go_wp2_with fail
  refine (rTag_any B Ak nk ck k A n c l _ hk hr hB hnk hl).mono ?_
  rw [← HT.out]
  rintro e w1 ⟨rfl, hb1⟩
  have hs1 := hb1.size
  go_wp2_with (first
    | (refine wpList_storeB rfl 49 (.tmp 5) (.tmp 9) rfl w1.heap.size (cs8 T) rfl rfl 49 (cs8 (nulL 32)) (Blk.at _ _ _ rfl) 32 size32b hTl rfl (cs8_one _) ?_; rw [World.setRow_alloc_new]; have h52 := Blk.new w1 49 (cs8 T); have hb2 := (Below.refl w1.heap.size w1).alloc (Nat.le_refl _) (.cells (cs8 T).toArray 49 (0, 0)); generalize World.alloc w1 _ = w2 at h52 hb2 ⊢; have hb02 := hb1.trans (hb2.mono hs1); have hs2 := hb02.size)
    | (at_builtin; refine wpList_append_row rfl (.tmp 10) (.tmp 11) 29 rfl w2.heap.size 5 i0 _ 1 Tryz.underlying29 hi hz0 hz1 hz2 rfl _ 0 [] rfl (World.ownsRow_nil _ _ _ _) B _ _ _ _ rfl (hr.keep hb02 hB) (cs8_one _) (by unfold maxLen; omega) (by omega) w2 (Below.refl _ _) (Nat.le_refl _) ?_; intro A3 c3 w3 ho3 hb3 hg3; simp only [Nat.zero_add, List.nil_append] at ho3)
    | (at_builtin; refine wpList_append_row rfl (.tmp 13) (.tmp 14) 29 rfl w2.heap.size 5 i0 _ 1 Tryz.underlying29 hi hz0 hz1 hz2 rfl _ _ _ rfl ho3 w2.heap.size _ _ _ _ rfl ((h52.whole hTl (by unfold maxLen; omega)).keep hb3 (Nat.le_refl _)) (cs8_one _) (by unfold maxLen; omega) (by omega) w2 hb3 (Nat.le_refl _) ?_; intro A4 c4 w4 ho4 hb4 hg4))
  go_ret
  exact ⟨A4, _, c4, rfl, by rw [cs8_app]; exact own_base hs2 ho4, hb02.trans (hb4.mono hs2)⟩
end Go.Proofs.YtdikiabjkmigdaaGreatDoor
namespace Go.Proofs.YtdikiabjkmigdaaGreatDoor
set_option maxRecDepth 20000
open Go.RowKit
set_option maxHeartbeats 1600000

theorem rOpen_any (B : Nat) (Ak : Option Addr) (nk ck : Nat) (k : List UInt8) (A : Option Addr) (n c : Nat) (l : List UInt8) (w : World) (hk : Row w B Ak nk ck (cs8 k)) (hr : Row w B A n c (cs8 l)) (hB : B ≤ w.heap.size) (hnk : nk ≤ 1073741824) (hl : n ≤ 536870912) :
    Calls Tryz.prog 18 #[.slice Ak nk ck, .slice A n c] w (Gives w (unL k l) (unE k l)) := by
  obtain ⟨i0, hi, hz0, hz1, hz2⟩ := info_parts info8
  have hn := hr.len
  rw [cs8_len] at hn
  by_cases h32 : n < 32
  · have HE := hide (unE_short (k := k) (b := l) (by omega))
    have hd : decide ((n : Int) - 32 < 0) = true := by simp; omega
    have hd3 : decide ((n : Int) < 32) = true := by simp; omega
    go_enter Tryz.func18, Tryz.ntmps18
    go_wp2
    go_ret2
    exact Gives.none_ (unL_bad (by rw [HE.out]; decide)) HE.out
  · obtain ⟨m, rfl⟩ : ∃ m, n = m + 32 := ⟨n - 32, by omega⟩
    obtain ⟨A9, c9, hsl, hr9⟩ := hr.headed Tryz.underlying29 size8 (hi := m) (by omega) (m : Int) rfl
    obtain ⟨A8, c8, hst, hr8⟩ := hr.tailed Tryz.underlying29 size8 (lo := m) (by omega) (m : Int) rfl
    rw [show (cs8 l).take m = cs8 (l.take m) by simp [cs8]] at hr9
    rw [show (cs8 l).drop m = cs8 (l.drop m) by simp [cs8]] at hr8
    rw [show m + 32 - m = 32 by omega] at hr8 hst
    have h320 : ¬ l.length < 32 := by omega
    obtain ⟨b, HB⟩ : ∃ b, Hid (b = unB k l) := ⟨_, rfl⟩
    have HR : Hid (rgtB k (l.take m) (l.drop m) = b) := by show _ = _; rw [HB.out, unB_at hn]
    have HN := hide hn
    have hd : decide (((m + 32 : Nat) : Int) < 32) = false := by simp; omega
    have hd2 : decide ((m : Int) + 32 < 32) = false := by simp; omega
    have hm : ((m + 32 : Nat) : Int) - 32 = (m : Int) := by omega
    have hm2 : (m : Int) + 32 - 32 = (m : Int) := by omega
    have hd3 : decide ((m : Int) < 0) = false := by simp
    clear hn
    go_enter Tryz.func18, Tryz.ntmps18
    go_wp2
    refine wp_region_held_drew (S := fun _ => True) (by kernel_rfl) trivial (fun hS0 => ?_)
    refine wpAnyH_take (i := 0) (v := .slice Ak nk ck) rfl (by kernel_rfl) (by kernel_rfl) (by kernel_rfl) (fun _ _ _ h => h) (Or.inl ⟨by rfl, fun w _ => by go_simp⟩) (by assumption) ?_
    simp only [List.getElem_toArray, List.getElem_cons_zero, Act.put, List.setIfInBounds_toArray, List.set_cons_zero, List.set_cons_succ]
    refine wpAnyH_take (i := 1) (v := .slice A (m + 32) c) rfl (by kernel_rfl) (by kernel_rfl) (by kernel_rfl) (fun _ _ _ h => h) (Or.inl ⟨by rfl, fun w _ => by go_simp⟩) (by assumption) ?_
    simp only [List.getElem_toArray, List.getElem_cons_zero, List.getElem_cons_succ, Act.put, List.setIfInBounds_toArray, List.set_cons_zero, List.set_cons_succ]
    refine wpAnyH_take (i := 2) (v := .int .i64 (m : Int)) rfl (by kernel_rfl) (by kernel_rfl) (by kernel_rfl) (fun _ _ _ h => h) (Or.inl ⟨by rfl, fun w _ => by go_simp⟩) (by assumption) ?_
    simp only [List.getElem_toArray, List.getElem_cons_zero, List.getElem_cons_succ, Act.put, List.setIfInBounds_toArray, List.set_cons_zero, List.set_cons_succ]
    refine wpAnyH_take (i := 3) (v := .slice A9 m c9) rfl (by kernel_rfl) (by kernel_rfl) (by kernel_rfl) (fun _ _ _ h => h) (Or.inl ⟨by rfl, fun w _ => by go_simp⟩) (by assumption) ?_
    simp only [List.getElem_toArray, List.getElem_cons_zero, List.getElem_cons_succ, Act.put, List.setIfInBounds_toArray, List.set_cons_zero, List.set_cons_succ]
    refine wpAnyH_take (i := 4) (v := .slice A (m + 32) c) rfl (by kernel_rfl) (by kernel_rfl) (by kernel_rfl) (fun _ _ _ h => h) (Or.inl ⟨by rfl, fun w _ => by go_simp⟩) (by assumption) ?_
    simp only [List.getElem_toArray, List.getElem_cons_zero, List.getElem_cons_succ, Act.put, List.setIfInBounds_toArray, List.set_cons_zero, List.set_cons_succ]
    refine wpAnyH_take (i := 5) (v := .int .i64 (m : Int)) rfl (by kernel_rfl) (by kernel_rfl) (by kernel_rfl) (fun _ _ _ h => h) (Or.inl ⟨by rfl, fun w _ => by go_simp⟩) (by assumption) ?_
    simp only [List.getElem_toArray, List.getElem_cons_zero, List.getElem_cons_succ, Act.put, List.setIfInBounds_toArray, List.set_cons_zero, List.set_cons_succ]
    refine wpAnyH_take (i := 6) (v := .slice A8 32 c8) rfl (by kernel_rfl) (by kernel_rfl) (by kernel_rfl) (fun _ _ _ h => h) (Or.inl ⟨by rfl, fun w _ => by go_simp⟩) (by assumption) ?_
    simp only [List.getElem_toArray, List.getElem_cons_zero, List.getElem_cons_succ, Act.put, List.setIfInBounds_toArray, List.set_cons_zero, List.set_cons_succ]
    refine wpAnyH_ready (rs := [7]) (by kernel_rfl) (by simp) ?_
    refine AllReadyH.cons rfl (fun K hKK => ?_) AllReadyH.nil
    go_simp
    refine (rRight_any B Ak nk ck k A9 m c9 (l.take m) A8 32 c8 (l.drop m) _ (hk.of_drew) hr9.of_drew hr8.of_drew hB hnk (by omega)).mono ?_
    rw [HR.out]
    rintro e w3 ⟨rfl, hb3⟩
    have hb03 : Below w.heap.size w w3 := (Below.refl w.heap.size w).drew.trans hb3
    refine hKK.out _ _ (trivial) (fun hS7 => ?_)
    clear hKK
    refine wpAnyH_take (i := 8) (v := .bool (!b)) rfl (by kernel_rfl) (by kernel_rfl) (by kernel_rfl) (fun _ _ _ h => h) (Or.inl ⟨by rfl, fun w _ => by go_simp⟩) (by assumption) ?_
    simp only [List.getElem_toArray, List.getElem_cons_zero, List.getElem_cons_succ, Act.put, List.setIfInBounds_toArray, List.set_cons_zero, List.set_cons_succ]
    refine wpAnyH_done (by kernel_rfl) ?_ _
    cases b with
    | false =>
      have HE := hide (unE_bad h320 HB.out.symm)
      go_wp2
      go_ret2
      exact Gives.none_at (unL_bad (by rw [HE.out]; decide)) HE.out hb03
    | true =>
      have HE := hide (unE_ok h320 HB.out.symm)
      have HU : Hid (unL k l = l.take m) := by show _ = _; rw [unL_ok HE.out, HN.out, Nat.add_sub_cancel]
      have hs3 := hb03.size
      go_wp2_with (at_builtin; refine wpList_append_row rfl (.tmp 22) (.tmp 25) 29 rfl w3.heap.size 5 i0 _ 1 Tryz.underlying29 hi hz0 hz1 hz2 rfl _ 0 [] rfl (World.ownsRow_nil _ _ _ _) B _ _ _ _ rfl (hr9.keep hb03 hB) (cs8_one _) (by unfold maxLen; omega) (by omega) w3 (Below.refl _ _) (Nat.le_refl _) ?_; intro A7 c7 w7 ho7 hb7 hg7; simp only [Nat.zero_add, List.nil_append] at ho7)
      go_ret2
      exact Gives.of HE.out (by rw [HU.out]; exact own_base hs3 ho7) (hb03.trans (hb7.mono hs3))
end Go.Proofs.YtdikiabjkmigdaaGreatDoor
