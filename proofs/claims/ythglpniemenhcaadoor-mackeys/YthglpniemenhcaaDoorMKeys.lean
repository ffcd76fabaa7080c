/-
  The statement MacKeys: each call returns true and changes nothing that was there.
-/
import Derived.Test.YthglpniemenhcaaDoorMTags
namespace Go.Proofs.YthglpniemenhcaaDoor
open Go.RowKit
set_option maxHeartbeats 800000

theorem keys_big (A A' : Option Addr) (n c n' c' : Nat) (a : Int) (w : World) (hK : KT w.heap.size w) (h : 16384 < n ∨ 16384 < n') :
    Calls Tryd.prog 7 #[.slice A n c, .int .u8 a, .slice A' n' c'] w fun e w' => e = .returned (.bool true) ∧ Below w.heap.size w w' := by
  by_cases h1 : 16384 < n
  · have hd : decide ((16384 : Int) < (n : Int)) = true := by simp; omega
    clear h
    go_enter Tryd.func7, Tryd.ntmps7
    go_wp2_with (go_at_call 9; refine (known_any _ _ (Nat.le_refl _) hK).mono ?_; rintro e w1 ⟨rfl, hb1⟩)
    go_ret
    exact ⟨rfl, hb1⟩
  · have hd : decide ((16384 : Int) < (n : Int)) = false := by simp; omega
    have hd2 : decide ((16384 : Int) < (n' : Int)) = true := by simp; omega
    clear h
    go_enter Tryd.func7, Tryd.ntmps7
    go_wp2_with (go_at_call 9; refine (known_any _ _ (Nat.le_refl _) hK).mono ?_; rintro e w1 ⟨rfl, hb1⟩)
    go_ret
    exact ⟨rfl, hb1⟩
theorem nulL_snoc (j : Nat) : nulL (j + 1) = nulL j ++ [0] := by unfold nulL; rw [List.replicate_succ']
theorem keys_long (A : Option Addr) (n c : Nat) (k : List UInt8) (a : Int) (A' : Option Addr) (n' c' : Nat) (l : List UInt8) (w : World) (hk : Row w w.heap.size A n c (cs8 k)) (hr : Row w w.heap.size A' n' c' (cs8 l)) (hK : KT w.heap.size w) (hn : n ≤ 16384) (hn' : n' ≤ 16384) (h64 : 64 < n) :
    Calls Tryd.prog 7 #[.slice A n c, .int .u8 a, .slice A' n' c'] w fun e w' => e = .returned (.bool true) ∧ Below w.heap.size w w' := by
  have hd : decide ((16384 : Int) < (n : Int)) = false := by simp; omega
  have hd2 : decide ((16384 : Int) < (n' : Int)) = false := by simp; omega
  have hd3 : decide ((64 : Int) < (n : Int)) = true := by simp; omega
  have HL : Hid (k.length = n) := by have := hk.len; rwa [cs8_len] at this
  obtain ⟨D, HD⟩ : ∃ D, Hid (D = sumL k) := ⟨_, rfl⟩
  have hDl : (cs8 D).length = 32 := by rw [cs8_len, HD.out]; exact sumL_len _
  obtain ⟨T, HT⟩ : ∃ T, Hid (T = tagL k l) := ⟨_, rfl⟩
  have HT2 : Hid (tagL D l = T) := by show _ = _; rw [HT.out, HD.out]; exact tagL_blk (blkL_sum (by rw [HL.out]; omega)) l
  have hq := eq32b T (by rw [HT.out]; exact tagL_len k l)
  go_enter Tryd.func7, Tryd.ntmps7
  go_wp2_with fail
  refine (Sum_any w.heap.size A n c k w hk (Nat.le_refl _) hK (by omega)).mono ?_
  unfold Sum32
  rw [← HD.out]
  rintro e w1 ⟨rfl, hb1⟩
  have hs1 := hb1.size
  go_wp2_with (refine wpList_storeB rfl 27 (.tmp 7) (.tmp 23) rfl w1.heap.size (cs8 D) rfl rfl 27 (cs8 (nulL 32)) (Blk.at _ _ _ rfl) 32 size32b hDl rfl (cs8_one _) ?_; rw [World.setRow_alloc_new]; have h72 := Blk.new w1 27 (cs8 D); have hb2 := (Below.refl w1.heap.size w1).alloc (Nat.le_refl _) (.cells (cs8 D).toArray 27 (0, 0)); generalize World.alloc w1 _ = w2 at h72 hb2 ⊢)
  have hb02 := (hb1.trans (hb2.mono hs1)).drew
  have h72d := h72.drew
  have hs2 := hb02.size
  have hl7 := hide h72d.lt
  clear hb1 hb2 h72
  refine wp_region_held_drew (S := fun _ => True) (by kernel_rfl) trivial (fun hS0 => ?_)
  refine wpAnyH_take (i := 0) (v := .slice A n c) rfl (by kernel_rfl) (by kernel_rfl) (by kernel_rfl) (fun _ _ _ h => h) (Or.inl ⟨by rfl, fun w _ => by go_simp⟩) (by assumption) ?_
  simp only [List.getElem_toArray, List.getElem_cons_zero, Act.put, List.setIfInBounds_toArray, List.set_cons_zero, List.set_cons_succ]
  refine wpAnyH_take (i := 1) (v := .slice A' n' c') rfl (by kernel_rfl) (by kernel_rfl) (by kernel_rfl) (fun _ _ _ h => h) (Or.inl ⟨by rfl, fun w _ => by go_simp⟩) (by assumption) ?_
  simp only [List.getElem_toArray, List.getElem_cons_zero, List.getElem_cons_succ, Act.put, List.setIfInBounds_toArray, List.set_cons_zero, List.set_cons_succ]
  refine wpAnyH_take (i := 3) (v := .slice (some ⟨w1.heap.size, 0, none⟩) 32 32) rfl (by kernel_rfl) (by kernel_rfl) (by kernel_rfl) (fun _ _ _ h => h) (Or.inl ⟨by rfl, fun w _ => by go_simp⟩) (by assumption) ?_
  simp only [List.getElem_toArray, List.getElem_cons_zero, List.getElem_cons_succ, Act.put, List.setIfInBounds_toArray, List.set_cons_zero, List.set_cons_succ]
  refine wpAnyH_take (i := 4) (v := .slice A' n' c') rfl (by kernel_rfl) (by kernel_rfl) (by kernel_rfl) (fun _ _ _ h => h) (Or.inl ⟨by rfl, fun w _ => by go_simp⟩) (by assumption) ?_
  simp only [List.getElem_toArray, List.getElem_cons_zero, List.getElem_cons_succ, Act.put, List.setIfInBounds_toArray, List.set_cons_zero, List.set_cons_succ]
  refine wpAnyH_ready (rs := [2]) (by kernel_rfl) (by simp) ?_
  refine AllReadyH.cons rfl (fun K hKK => ?_) AllReadyH.nil
  go_simp
  refine (Tag_any w.heap.size A n c k A' n' c' l _ (hk.keep hb02 (Nat.le_refl _)) (hr.keep hb02 (Nat.le_refl _)) hs2 (hK.keep hb02 (Nat.le_refl _)) (by omega) (by omega)).mono ?_
  rw [← HT.out]
  rintro e w3 ⟨rfl, hb3⟩
  have h73 := h72d.keep hb3 hl7.out
  have hb03 := hb02.trans (hb3.mono hs2)
  have hs3 := hb03.size
  clear hb3 hb02 h72d
  refine hKK.out _ _ (trivial) (fun hS2 => ?_)
  clear hKK
  refine wpAnyH_ready (rs := [5]) (by kernel_rfl) (by simp) ?_
  refine AllReadyH.cons rfl (fun K hKK => ?_) AllReadyH.nil
  go_simp
  refine (Tag_any w3.heap.size _ 32 32 D A' n' c' l w3 (h73.whole hDl (by unfold maxLen; omega)) ((hr.keep hb03 (Nat.le_refl _)).more hs3) (Nat.le_refl _) ((hK.keep hb03 (Nat.le_refl _)).more hs3) (by omega) (by omega)).mono ?_
  rw [HT2.out]
  rintro e w4 ⟨rfl, hb4⟩
  have hb04 := hb03.trans (hb4.mono hs3)
  have hs4 := hb04.size
  clear hb4 hb03 h73
  refine hKK.out _ _ (trivial) (fun hS5 => ?_)
  clear hKK
  refine wpAnyH_take (i := 6) (v := .bool true) rfl (by kernel_rfl) (by kernel_rfl) (by kernel_rfl) (fun _ _ _ h => h) (Or.inl ⟨by rfl, fun w _ => by go_simp⟩) (by assumption) ?_
  simp only [List.getElem_toArray, List.getElem_cons_zero, List.getElem_cons_succ, Act.put, List.setIfInBounds_toArray, List.set_cons_zero, List.set_cons_succ]
  refine wpAnyH_take (i := 7) (v := .bool true) rfl (by kernel_rfl) (by kernel_rfl) (by kernel_rfl) (fun _ _ _ h => h) (Or.inl ⟨by rfl, fun w _ => by go_simp⟩) (by assumption) ?_
  simp only [List.getElem_toArray, List.getElem_cons_zero, List.getElem_cons_succ, Act.put, List.setIfInBounds_toArray, List.set_cons_zero, List.set_cons_succ]
  refine wpAnyH_ready (rs := [8]) (by kernel_rfl) (by simp) ?_
  refine AllReadyH.cons rfl (fun K hKK => ?_) AllReadyH.nil
  go_simp
  refine (known_any w.heap.size _ hs4 (hK.keep hb04 (Nat.le_refl _))).mono ?_
  rintro e w5 ⟨rfl, hb5⟩
  have hb05 := hb04.trans (hb5.mono hs4)
  refine hKK.out _ _ (trivial) (fun hS8 => ?_)
  clear hKK
  refine wpAnyH_take (i := 9) (v := .bool true) rfl (by kernel_rfl) (by kernel_rfl) (by kernel_rfl) (fun _ _ _ h => h) (Or.inl ⟨by rfl, fun w _ => by go_simp⟩) (by assumption) ?_
  simp only [List.getElem_toArray, List.getElem_cons_zero, List.getElem_cons_succ, Act.put, List.setIfInBounds_toArray, List.set_cons_zero, List.set_cons_succ]
  refine wpAnyH_take (i := 10) (v := .bool true) rfl (by kernel_rfl) (by kernel_rfl) (by kernel_rfl) (fun _ _ _ h => h) (Or.inl ⟨by rfl, fun w _ => by go_simp⟩) (by assumption) ?_
  simp only [List.getElem_toArray, List.getElem_cons_zero, List.getElem_cons_succ, Act.put, List.setIfInBounds_toArray, List.set_cons_zero, List.set_cons_succ]
  refine wpAnyH_done (by kernel_rfl) ?_ _
  go_wp2
  go_ret
  exact ⟨rfl, hb05⟩
theorem keys_walk (A : Option Addr) (n c : Nat) (k : List UInt8) (a : Int) (A' : Option Addr) (n' c' : Nat) (l : List UInt8) (w : World) (hk : Row w w.heap.size A n c (cs8 k)) (ha0 : (Lit.int .u8 a).wf = true) (hr : Row w w.heap.size A' n' c' (cs8 l)) (hK : KT w.heap.size w) :
    Calls Tryd.prog 7 #[.slice A n c, .int .u8 a, .slice A' n' c'] w fun e w' => e = .returned (.bool true) ∧ Below w.heap.size w w' := by
  by_cases hbig : 16384 < n ∨ 16384 < n'
  · exact keys_big A A' n c n' c' a w hK hbig
  by_cases h64 : 64 < n
  · exact keys_long A n c k a A' n' c' l w hk hr hK (by omega) (by omega) h64
  obtain ⟨i0, hi, hz0, hz1, hz2⟩ := info_parts info8
  have hab : 0 ≤ a ∧ a ≤ 255 := by simpa [Lit.wf, IntKind.min, IntKind.max, IntKind.signed, IntKind.bits] using ha0
  obtain ⟨m, rfl⟩ : ∃ m : Nat, a = (m : Int) := ⟨a.toNat, by omega⟩
  have hm : m ≤ 255 := by omega
  have hn : n ≤ 64 := by omega
  have hn' : n' ≤ 16384 := by omega
  clear hbig h64 hab ha0
  have hd : decide ((16384 : Int) < (n : Int)) = false := by simp; omega
  have hd2 : decide ((16384 : Int) < (n' : Int)) = false := by simp; omega
  have hd3 : decide ((64 : Int) < (n : Int)) = false := by simp; omega
  have HL : Hid (k.length = n) := by have := hk.len; rwa [cs8_len] at this
  obtain ⟨X, HX⟩ : ∃ X, Hid (X = blkL k) := ⟨_, rfl⟩
  have hq1 := eq64b X (by rw [HX.out]; exact blkL_len k)
  obtain ⟨T, HT⟩ : ∃ T, Hid (T = tagL k l) := ⟨_, rfl⟩
  have hq2 := eq32b T (by rw [HT.out]; exact tagL_len k l)
  go_enter Tryd.func7, Tryd.ntmps7
  go_wp2_with (at_builtin; refine wpList_append_row rfl (.tmp 34) (.tmp 35) 22 rfl w.heap.size 5 i0 _ 1 Tryd.underlying22 hi hz0 hz1 hz2 rfl _ 0 [] rfl (World.ownsRow_nil _ _ _ _) w.heap.size _ _ _ _ rfl hk (cs8_one _) (by unfold maxLen; omega) (by omega) w (Below.refl _ _) (Nat.le_refl _) ?_; intro A1 c1 w1 ho1 hb1 hg1; simp only [Nat.zero_add, List.nil_append] at ho1; clear hg1)
  go_loopw [8, 9] (fun s i wr => ∃ (j p : Nat) (A2 : Option Addr) (c2 : Nat), j ≤ m ∧ p ≤ 64 ∧ Hid (p = n + j) ∧ i = .int .i64 (j : Int) ∧ s = .slice A2 p c2 ∧ wr.ownsRow w.heap.size 5 1 (.slice A2 p c2) p (cs8 (k ++ nulL j)) ∧ Below w.heap.size w wr) (fun _ i _ => m - (intOf i).toNat)
  case atStart => exact ⟨0, n, A1, c1, Nat.zero_le _, hn, rfl, rfl, by simp, by simpa [nulL] using ho1, hb1⟩
  case round =>
    clear ho1 hb1
    obtain ⟨j, p, A2, c2, hj, hp, HP, rfl, rfl, ho, hb⟩ := hrel
    have hs := hb.size
    by_cases hgo : j < m ∧ p < 64
    · have hd4 : decide ((j : Int) < (m : Int)) = true := by simp; omega
      have hd5 : decide ((p : Int) < 64) = true := by simp; omega
      have HN := hide (nulL_snoc j)
      go_wp2_with (at_builtin; refine wpList_append_row rfl (.tmp 48) (.tmp 49) 22 rfl w.heap.size 5 i0 _ 1 Tryd.underlying22 hi hz0 hz1 hz2 rfl _ _ _ rfl (ho.alloc _) _ _ _ _ _ rfl (Row.one _ _ _) (one_u8 _) (by unfold maxLen; omega) (by omega) w (hb.alloc hs _) (Nat.le_refl _) ?_; intro A3 c3 w3 ho3 hb3 hg3)
      go_roundw
      case rel => exact ⟨j + 1, p + 1, A3, c3, by omega, by omega, by show _ = _; have := HP.out; omega, by go_num, rfl, by rw [HN.out, ← List.append_assoc, cs8_snoc]; exact ho3, hb3⟩
      case measure => simp [intOf]; omega
    · have HB : Hid (blkL (k ++ nulL j) = X) := by show _ = _; rw [HX.out]; exact blkL_nul (by rw [HL.out, ← HP.out]; exact hp)
      have HT2 : Hid (tagL (k ++ nulL j) l = T) := by show _ = _; rw [HT.out]; exact tagL_blk (HB.out.trans HX.out) l
      have x1 := Row.of_own ho
      clear ho
      by_cases hjm : j < m
      · have hd4 : decide ((j : Int) < (m : Int)) = true := by simp; omega
        have hd5 : decide ((p : Int) < 64) = false := by simp; omega
        clear hgo
        go_wp2_with fail
        refine (Tag_any wr.heap.size A2 p c2 (k ++ nulL j) A' n' c' l wr x1 ((hr.keep hb (Nat.le_refl _)).more hs) (Nat.le_refl _) ((hK.keep hb (Nat.le_refl _)).more hs) (by omega) (by omega)).mono ?_
        rw [HT2.out]
        rintro e w4 ⟨rfl, hb4⟩
        have hb04 := hb.trans (hb4.mono hs)
        have hs4 := hb04.size
        have x4 := x1.keep hb4 (Nat.le_refl _)
        have hs14 := hb4.size
        clear hb4 x1
        go_wp2_with fail
        refine (Tag_any w.heap.size A n c k A' n' c' l w4 (hk.keep hb04 (Nat.le_refl _)) (hr.keep hb04 (Nat.le_refl _)) hs4 (hK.keep hb04 (Nat.le_refl _)) (by omega) (by omega)).mono ?_
        rw [← HT.out]
        rintro e w5 ⟨rfl, hb5⟩
        have hb05 := hb04.trans (hb5.mono hs4)
        have hs5 := hb05.size
        have x5 := x4.keep hb5 hs14
        have hs15 := Nat.le_trans hs14 hb5.size
        clear hb5 x4 hb04
        go_wp2_with fail
        refine (Block_any wr.heap.size A2 p c2 (k ++ nulL j) w5 x5 hs15 ((hK.keep hb05 (Nat.le_refl _)).more hs) (by omega)).mono ?_
        rw [HB.out]
        rintro e w6 ⟨rfl, hb6⟩
        have hb06 := hb05.trans (hb6.mono hs5)
        have hs6 := hb06.size
        clear hb6 x5 hb05
        go_wp2_with fail
        refine (Block_any w.heap.size A n c k w6 (hk.keep hb06 (Nat.le_refl _)) hs6 (hK.keep hb06 (Nat.le_refl _)) (by omega)).mono ?_
        rw [← HX.out]
        rintro e w7 ⟨rfl, hb7⟩
        have hb07 := hb06.trans (hb7.mono hs6)
        have hs7 := hb07.size
        clear hb7 hb06
        go_wp2_with fail
        refine (known_any _ _ hs7 (hK.keep hb07 (Nat.le_refl _))).mono ?_
        rintro e w8 ⟨rfl, hb8⟩
        go_wp2
        go_ret
        exact ⟨rfl, hb07.trans (hb8.mono hs7)⟩
      · have hd4 : decide ((j : Int) < (m : Int)) = false := by simp; omega
        clear hgo
        go_wp2_with fail
        refine (Tag_any wr.heap.size A2 p c2 (k ++ nulL j) A' n' c' l wr x1 ((hr.keep hb (Nat.le_refl _)).more hs) (Nat.le_refl _) ((hK.keep hb (Nat.le_refl _)).more hs) (by omega) (by omega)).mono ?_
        rw [HT2.out]
        rintro e w4 ⟨rfl, hb4⟩
        have hb04 := hb.trans (hb4.mono hs)
        have hs4 := hb04.size
        have x4 := x1.keep hb4 (Nat.le_refl _)
        have hs14 := hb4.size
        clear hb4 x1
        go_wp2_with fail
        refine (Tag_any w.heap.size A n c k A' n' c' l w4 (hk.keep hb04 (Nat.le_refl _)) (hr.keep hb04 (Nat.le_refl _)) hs4 (hK.keep hb04 (Nat.le_refl _)) (by omega) (by omega)).mono ?_
        rw [← HT.out]
        rintro e w5 ⟨rfl, hb5⟩
        have hb05 := hb04.trans (hb5.mono hs4)
        have hs5 := hb05.size
        have x5 := x4.keep hb5 hs14
        have hs15 := Nat.le_trans hs14 hb5.size
        clear hb5 x4 hb04
        go_wp2_with fail
        refine (Block_any wr.heap.size A2 p c2 (k ++ nulL j) w5 x5 hs15 ((hK.keep hb05 (Nat.le_refl _)).more hs) (by omega)).mono ?_
        rw [HB.out]
        rintro e w6 ⟨rfl, hb6⟩
        have hb06 := hb05.trans (hb6.mono hs5)
        have hs6 := hb06.size
        clear hb6 x5 hb05
        go_wp2_with fail
        refine (Block_any w.heap.size A n c k w6 (hk.keep hb06 (Nat.le_refl _)) hs6 (hK.keep hb06 (Nat.le_refl _)) (by omega)).mono ?_
        rw [← HX.out]
        rintro e w7 ⟨rfl, hb7⟩
        have hb07 := hb06.trans (hb7.mono hs6)
        have hs7 := hb07.size
        clear hb7 hb06
        go_wp2_with fail
        refine (known_any _ _ hs7 (hK.keep hb07 (Nat.le_refl _))).mono ?_
        rintro e w8 ⟨rfl, hb8⟩
        go_wp2
        go_ret
        exact ⟨rfl, hb07.trans (hb8.mono hs7)⟩
end Go.Proofs.YthglpniemenhcaaDoor
