/-
  Contracts of the reference of layer 5 (midstreamref05): Tag, Right, Seal.
-/
import Derived.Test.YthglpniemenhcaaDoorMRef
namespace Go.Proofs.YthglpniemenhcaaDoor
open Go.RowKit
set_option maxHeartbeats 1600000

theorem rTag_any (B : Nat) (Ak : Option Addr) (nk ck : Nat) (k : List UInt8) (A : Option Addr) (n c : Nat) (l : List UInt8) (w : World) (hk : Row w B Ak nk ck (cs8 k)) (hr : Row w B A n c (cs8 l)) (hB : B ≤ w.heap.size) (hnk : nk ≤ 1073741824) (hl : n ≤ 536870912) :
    Calls Tryd.prog 14 #[.slice Ak nk ck, .slice A n c] w (Ret64 w (tagL k l)) := by
  obtain ⟨X, HX⟩ : ∃ X, Hid (X = blkL k) := ⟨_, rfl⟩
  have hX64 : X.length = 64 := by rw [HX.out]; exact blkL_len k
  have hXl : (cs8 X).length = 64 := by rw [cs8_len]; exact hX64
  obtain ⟨I, HI⟩ : ∃ I, Hid (I = sumL (mixL 54 X ++ l)) := ⟨_, rfl⟩
  have hI32 : I.length = 32 := by rw [HI.out]; exact sumL_len _
  have hIl : (cs8 I).length = 32 := by rw [cs8_len]; exact hI32
  obtain ⟨D, HD⟩ : ∃ D, Hid (D = sumL (mixL 92 X ++ I)) := ⟨_, rfl⟩
  have hDl : (cs8 D).length = 32 := by rw [cs8_len, HD.out]; exact sumL_len _
  have HL : Hid (l.length = n) := by have := hr.len; rwa [cs8_len] at this
  have hT : tagL k l = D := by rw [HD.out, HI.out, HX.out]; rfl
  rw [hT]
  have HT := hide hT
  clear hT
  go_enter Tryd.func14, Tryd.ntmps14
  go_wp2_with fail
  generalize hw : World.alloc _ _ = w1
  have hb1 : Below w.heap.size w w1 := by rw [← hw]; exact (Below.refl _ w).alloc (Nat.le_refl _) _
  have h4 : Blk w1 w.heap.size 27 (cs8 (nulL 32)) := by rw [← hw]; exact Blk.at _ _ _ rfl
  clear hw
  have hs1 := hb1.size
  have hl4 := h4.lt
  refine (rBlock_any B Ak nk ck k w1 (hk.keep hb1 hB) (by omega) hnk).mono ?_
  rw [← HX.out]
  rintro e w2 ⟨rfl, hb2⟩
  have hb02 := hb1.trans (hb2.mono hs1)
  have h42 := h4.keep hb2 hl4
  clear hb1 hb2 h4
  have hs2 := hb02.size
  have hl42 := h42.lt
  go_wp2_with (first
    | (refine wpList_storeB rfl 25 (.tmp 5) (.tmp 8) rfl w2.heap.size (cs8 X) rfl rfl 25 (cs8 (nulL 64)) (Blk.at _ _ _ rfl) 64 size64b hXl rfl (cs8_one _) ?_; rw [World.setRow_alloc_new]; have h53 := Blk.new w2 25 (cs8 X); have hb3 := (Below.refl w2.heap.size w2).alloc (Nat.le_refl _) (.cells (cs8 X).toArray 25 (0, 0)); generalize World.alloc w2 _ = w3 at h53 hb3 ⊢)
    | (refine wpList_loadB rfl 25 (.tmp 5) rfl _ rfl 25 (cs8 X) h53 64 5 Tryd.underlying25 size64b hXl ?_))
  have h43 := h42.keep hb3 hl42
  have hb03 := hb02.trans (hb3.mono hs2)
  have hs3 := hb03.size
  have hl53 := h53.lt
  clear hb3 hb02 h42
  refine (mixed_any B A n c X l 54 _ rfl w3 (hr.keep hb03 hB) (by omega) hX64 (by omega)).mono ?_
  rintro e w4 ⟨A4, n4, c4, rfl, ho4, hb4⟩
  have h44 := h43.keep hb4 (by omega)
  have h54 := h53.keep hb4 hl53
  have hb04 := hb03.trans (hb4.mono hs3)
  have hs4 := hb04.size
  have hl54 := h54.lt
  have hn4 : n4 ≤ 1073741824 := by have h1 := own8_len ho4; rw [List.length_append, mixL_len, hX64, HL.out] at h1; omega
  clear hb4 hb03 h43 h53
  go_wp2_with fail
  refine (rSum_any w4.heap.size A4 n4 c4 (mixL 54 X ++ l) w4 (Row.of_own ho4) (Nat.le_refl _) hn4).mono ?_
  unfold Sum32
  rw [← HI.out]
  rintro e w5 ⟨rfl, hb5⟩
  have h45 := h44.keep hb5 (by omega)
  have h55 := h54.keep hb5 hl54
  have hb05 := hb04.trans (hb5.mono hs4)
  have hs5 := hb05.size
  have hl55 := h55.lt
  clear hb5 hb04 h44 h54 ho4
  go_wp2_with (refine wpList_storeB rfl 27 (.tmp 6) (.tmp 12) rfl w5.heap.size (cs8 I) rfl rfl 27 (cs8 (nulL 32)) (Blk.at _ _ _ rfl) 32 size32b hIl rfl (cs8_one _) ?_; rw [World.setRow_alloc_new]; have h66 := Blk.new w5 27 (cs8 I); have hb6 := (Below.refl w5.heap.size w5).alloc (Nat.le_refl _) (.cells (cs8 I).toArray 27 (0, 0)); generalize World.alloc w5 _ = w6 at h66 hb6 ⊢)
  have h46 := (h45.keep hb6 (by omega)).drew
  have h56 := (h55.keep hb6 hl55).drew
  have h66' := h66.drew
  have hb06 := (hb05.trans (hb6.mono hs5)).drew
  clear hb6 hb05 h45 h55 h66
  have hs6 := hb06.size
  have hs56 : w5.heap.size < w6.heap.size := h66'.lt
  have hl56 := hide h56.lt
  have hl66 := hide h66'.lt
  have hu := Tryd.underlying25
  have hiX : (Tryd.prog.info? 25).map (·.size) = some (cs8 X).length := by rw [hXl]; exact size64b
  refine wp_region_held_drew (S := fun w' => w'.rangeAt w2.heap.size 0 (cs8 X)) (by kernel_rfl) h56.range (fun hS0 => ?_)
  refine wpAnyH_take (i := 0) rfl (by kernel_rfl) (by kernel_rfl) (by kernel_rfl) (fun _ _ _ h => h) (yieldsIf_load_mid (by rfl) _ _ rfl _ _ rfl (cs8 X) _ (fun _ h => h) hu rfl hiX) (by assumption) ?_
  simp only [List.getElem_toArray, List.getElem_cons_zero, Act.put, List.setIfInBounds_toArray, List.set_cons_zero, List.set_cons_succ]
  refine wpAnyH_take (i := 1) (v := .slice (some ⟨w5.heap.size, 0, none⟩) 32 32) rfl (by kernel_rfl) (by kernel_rfl) (by kernel_rfl) (fun _ _ _ h => h) (Or.inl ⟨by rfl, fun w _ => by go_simp⟩) (by assumption) ?_
  simp only [List.getElem_toArray, List.getElem_cons_zero, List.getElem_cons_succ, Act.put, List.setIfInBounds_toArray, List.set_cons_zero, List.set_cons_succ]
  refine wpAnyH_ready (rs := [2]) (by kernel_rfl) (by simp) ?_
  refine AllReadyH.cons rfl (fun K hKK => ?_) AllReadyH.nil
  go_simp
  refine (mixed_any _ (some ⟨w5.heap.size, 0, none⟩) 32 32 X I 92 _ rfl _ (h66'.whole hIl (by unfold maxLen; omega)) (Nat.le_refl _) hX64 (by omega)).mono ?_
  rintro e w7 ⟨A7, n7, c7, rfl, ho7, hb7⟩
  have h47 := h46.keep hb7 (by simp; omega)
  have h57 := h56.keep hb7 hl56.out
  have hb07 := hb06.trans (hb7.mono hs6)
  have hs7 := hb07.size
  have hn7 : n7 ≤ 1073741824 := by have h1 := own8_len ho7; rw [List.length_append, mixL_len, hX64, hI32] at h1; omega
  clear hb7 hb06 h46 h56 h66'
  refine hKK.out _ _ (h57.range) (fun hS2 => ?_)
  clear hKK
  refine wpAnyH_ready (rs := [3]) (by kernel_rfl) (by simp) ?_
  refine AllReadyH.cons rfl (fun K hKK => ?_) AllReadyH.nil
  go_simp
  refine (rSum_any w7.heap.size A7 n7 c7 (mixL 92 X ++ I) w7 (Row.of_own ho7) (Nat.le_refl _) hn7).mono ?_
  unfold Sum32
  rw [← HD.out]
  rintro e w8 ⟨rfl, hb8⟩
  have h48 := h47.keep hb8 h47.lt
  have h58 := h57.keep hb8 h57.lt
  have hb08 := hb07.trans (hb8.mono hs7)
  clear hb8 hb07 h47 h57 ho7
  have hst := run_storeB (P := Tryd.prog) h48 (cs8 D) (by rw [hDl]; rfl) (cs8_one _)
  refine hKK.out _ _ (h58.range) (fun hS3 => ?_)
  clear hKK
  refine wpAnyH_ready (rs := [4]) (by kernel_rfl) (by simp) ?_
  refine AllReadyH.cons rfl (fun K hKK => ?_) AllReadyH.nil
  go_simp
  refine hKK.out _ _ ((h58.rowOther (by omega) _).range) (fun hS4 => ?_)
  clear hKK
  refine wpAnyH_done (by kernel_rfl) ?_ _
  go_wp2
  refine ret_cell rfl Tryd.underlying27 size32b rfl (h48.row _) hDl rfl ?_
  exact ⟨rfl, below_setRow hb08 (Nat.le_refl _) _⟩
theorem rRight_any (B : Nat) (Ak : Option Addr) (nk ck : Nat) (k : List UInt8) (A : Option Addr) (n c : Nat) (l : List UInt8) (At : Option Addr) (nt ct : Nat) (t : List UInt8) (w : World) (hk : Row w B Ak nk ck (cs8 k)) (hr : Row w B A n c (cs8 l)) (ht : Row w B At nt ct (cs8 t)) (hB : B ≤ w.heap.size) (hnk : nk ≤ 1073741824) (hl : n ≤ 536870912) :
    Calls Tryd.prog 21 #[.slice Ak nk ck, .slice A n c, .slice At nt ct] w (RetB w (rgtB k l t)) := by
  obtain ⟨T, HT⟩ : ∃ T, Hid (T = tagL k l) := ⟨_, rfl⟩
  have hTl : (cs8 T).length = 32 := by rw [cs8_len, HT.out]; exact tagL_len k l
  obtain ⟨b, HB⟩ : ∃ b, Hid (b = rgtB k l t) := ⟨_, rfl⟩
  have hq : (t == T) = b := by rw [HB.out, HT.out, rgtB, Bool.eq_iff_iff]; simp
  rw [← HB.out]
  go_enter Tryd.func21, Tryd.ntmps21
  go_wp2_with fail
  refine (rTag_any B Ak nk ck k A n c l _ hk hr hB hnk hl).mono ?_
  rw [← HT.out]
  rintro e w1 ⟨rfl, hb1⟩
  have hs1 := hb1.size
  go_wp2_with (refine wpList_storeB rfl 27 (.tmp 7) (.tmp 10) rfl w1.heap.size (cs8 T) rfl rfl 27 (cs8 (nulL 32)) (Blk.at _ _ _ rfl) 32 size32b hTl rfl (cs8_one _) ?_; rw [World.setRow_alloc_new]; have h72 := Blk.new w1 27 (cs8 T); have hb2 := (Below.refl w1.heap.size w1).alloc (Nat.le_refl _) (.cells (cs8 T).toArray 27 (0, 0)); generalize World.alloc w1 _ = w2 at h72 hb2 ⊢)
  have hb02 := hb1.trans (hb2.mono hs1)
  have ht2 := ht.keep hb02 hB
  have hT2 := h72.whole hTl (by unfold maxLen; omega)
  clear hb1 hb2 h72
  have q1 := fun j => (ht2.keep (below_drewN B w2 j) (Nat.le_refl _)).str (P := Tryd.prog) (dst := 9) Tryd.underlying22 Tryd.underlying5 Tryd.underlying9
  have q2 := fun j => (hT2.keep (below_drewN _ w2 j) (Nat.le_refl _)).str (P := Tryd.prog) (dst := 9) Tryd.underlying22 Tryd.underlying5 Tryd.underlying9
  clear ht2 hT2
  go_quiet (fail)
  go_wp2
  go_ret
  exact ⟨rfl, hb02.trans (below_drewN _ _ _)⟩
theorem rSeal_any (B : Nat) (Ak : Option Addr) (nk ck : Nat) (k : List UInt8) (A : Option Addr) (n c : Nat) (l : List UInt8) (w : World) (hk : Row w B Ak nk ck (cs8 k)) (hr : Row w B A n c (cs8 l)) (hB : B ≤ w.heap.size) (hnk : nk ≤ 1073741824) (hl : n ≤ 536870912) :
    Calls Tryd.prog 19 #[.slice Ak nk ck, .slice A n c] w (LayPost w.heap.size w (sealT k l)) := by
  obtain ⟨i0, hi, hz0, hz1, hz2⟩ := info_parts info8
  obtain ⟨T, HT⟩ : ∃ T, Hid (T = tagL k l) := ⟨_, rfl⟩
  have hTl : (cs8 T).length = 32 := by rw [cs8_len, HT.out]; exact tagL_len k l
  have HS : Hid (sealT k l = l ++ T) := by show _ = _; rw [HT.out]; rfl
  rw [HS.out]
  go_enter Tryd.func19, Tryd.ntmps19
  go_wp2_with fail
  refine (rTag_any B Ak nk ck k A n c l _ hk hr hB hnk hl).mono ?_
  rw [← HT.out]
  rintro e w1 ⟨rfl, hb1⟩
  have hs1 := hb1.size
  go_wp2_with (first
    | (refine wpList_storeB rfl 27 (.tmp 5) (.tmp 9) rfl w1.heap.size (cs8 T) rfl rfl 27 (cs8 (nulL 32)) (Blk.at _ _ _ rfl) 32 size32b hTl rfl (cs8_one _) ?_; rw [World.setRow_alloc_new]; have h52 := Blk.new w1 27 (cs8 T); have hb2 := (Below.refl w1.heap.size w1).alloc (Nat.le_refl _) (.cells (cs8 T).toArray 27 (0, 0)); generalize World.alloc w1 _ = w2 at h52 hb2 ⊢; have hb02 := hb1.trans (hb2.mono hs1); have hs2 := hb02.size)
    | (at_builtin; refine wpList_append_row rfl (.tmp 10) (.tmp 11) 22 rfl w2.heap.size 5 i0 _ 1 Tryd.underlying22 hi hz0 hz1 hz2 rfl _ 0 [] rfl (World.ownsRow_nil _ _ _ _) B _ _ _ _ rfl (hr.keep hb02 hB) (cs8_one _) (by unfold maxLen; omega) (by omega) w2 (Below.refl _ _) (Nat.le_refl _) ?_; intro A3 c3 w3 ho3 hb3 hg3; simp only [Nat.zero_add, List.nil_append] at ho3)
    | (at_builtin; refine wpList_append_row rfl (.tmp 13) (.tmp 14) 22 rfl w2.heap.size 5 i0 _ 1 Tryd.underlying22 hi hz0 hz1 hz2 rfl _ _ _ rfl ho3 w2.heap.size _ _ _ _ rfl ((h52.whole hTl (by unfold maxLen; omega)).keep hb3 (Nat.le_refl _)) (cs8_one _) (by unfold maxLen; omega) (by omega) w2 hb3 (Nat.le_refl _) ?_; intro A4 c4 w4 ho4 hb4 hg4))
  go_ret
  exact ⟨A4, _, c4, rfl, by rw [cs8_app]; exact own_base hs2 ho4, hb02.trans (hb4.mono hs2)⟩
end Go.Proofs.YthglpniemenhcaaDoor
