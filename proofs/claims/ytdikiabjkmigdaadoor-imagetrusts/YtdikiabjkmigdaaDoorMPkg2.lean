/-
  Contracts of package mac: digestBehind, Tag.
-/
import Derived.Test.YtdikiabjkmigdaaDoorMPkg
import Derived.Deep.RegionHeld3
namespace Go.Proofs.YtdikiabjkmigdaaDoor
set_option maxRecDepth 20000
open Go.RowKit
set_option maxHeartbeats 1600000

theorem Blk.range {w : World} {g : Nat} {t : TypeId} {cs : List Value} (h : Blk w g t cs) : w.rangeAt g 0 cs := fun j v hv => by rw [Nat.zero_add]; exact h.cell hv
theorem digestBehind_any (B : Nat) (A : Option Addr) (n c : Nat) (X l : List UInt8) (w : World) (hr : Row w B A n c (cs8 l)) (hB : B ≤ w.heap.size) (hK : KT B w) (hX : X.length = 64) (hl : n ≤ 536870912) :
    Calls Tryd.prog 25 #[.agg (cs8 X).toArray, .slice A n c] w (Ret64 w (sumL (X ++ l))) := by
  have hXl : (cs8 X).length = 64 := by rw [cs8_len]; exact hX
  have HL : Hid (l.length = n) := by have := hr.len; rwa [cs8_len] at this
  obtain ⟨D, HD⟩ : ∃ D, Hid (D = sumL (X ++ l)) := ⟨_, rfl⟩
  have hDl : (cs8 D).length = 32 := by rw [cs8_len, HD.out]; exact sumL_len _
  rw [← HD.out]
  go_enter Tryd.func25, Tryd.ntmps25
  go_wp2_with fail
  generalize hw : World.alloc (World.alloc w _) _ = w1
  have hb : Below w.heap.size w w1 := by rw [← hw]; exact ((Below.refl _ w).alloc (Nat.le_refl _) _).alloc (by simp) _
  have h2 : Blk w1 w.heap.size 56 (cs8 X) := by rw [← hw]; exact (Blk.at _ _ _ rfl).alloc _
  have h4 : Blk w1 (w.heap.size + 1) 42 (cs8 (nulL 32)) := by rw [← hw]; exact Blk.at _ _ _ (by simp)
  have hsz : w.heap.size + 1 + 1 = w1.heap.size := by rw [← hw]; simp
  clear hw
  rw [hsz]
  have hs1 := hb.size
  have hl4 := h4.lt
  have hb1 := hb.alloc hs1 (.cells #[.slice (some ⟨w.heap.size, 0, none⟩) 64 64, .slice A n c] 29)
  refine (Concat_two (w1.heap.size + 1) _ (some ⟨w.heap.size, 0, none⟩) A 64 n 64 c X l _ (row_lit _ _ _ _ 2 rfl (by unfold maxLen; omega) _ rfl) (((h2.whole hXl (by unfold maxLen; omega)).alloc (Nat.le_refl _) _).more (by omega)) ((hr.keep hb1 hB).more (by omega)) (by simp) (by omega) (by omega) (by omega)).mono ?_
  rintro e w2 ⟨A7, n7, c7, rfl, ho7, hb7⟩
  have hn7 : n7 ≤ 1073741824 := by have h1 := own8_len ho7; rw [List.length_append, hX, HL.out] at h1; omega
  have k4 := (h4.alloc (.cells #[.slice (some ⟨w.heap.size, 0, none⟩) 64 64, .slice A n c] 29)).keep hb7 (by simp; omega)
  have hb2 := hb1.trans (hb7.mono (by simp; omega))
  have hs2 := hb2.size
  have hl42 := k4.lt
  have hr7 := Row.of_own ho7
  clear ho7 hb7 hb1 h4 h2 hb
  go_wp2_with fail
  refine (Sum_any w2.heap.size _ _ _ (X ++ l) w2 hr7 (Nat.le_refl _) ((hK.keep hb2 hB).more (by omega)) hn7).mono ?_
  unfold Sum32
  rw [← HD.out]
  rintro e w3 ⟨rfl, hb3⟩
  have m4 := k4.keep hb3 hl42
  go_wp2_with (refine wpList_storeB rfl 42 (.tmp 4) (.tmp 9) rfl _ (cs8 D) rfl rfl 42 _ m4 32 size32b hDl rfl (cs8_one _) ?_)
  refine ret_cell rfl Tryd.underlying42 size32b rfl (m4.row _) hDl rfl ?_
  exact ⟨rfl, below_setRow (hb2.trans (hb3.mono hs2)) (by omega) _⟩
theorem run_whole32 (g : Nat) (W : World) : (Instr.sliceAt 42 (.pointer (some ⟨g, 0, none⟩)) none none none).run Tryd.prog W = .ok (.slice (some ⟨g, 0, none⟩) 32 32) W := by go_simp
theorem Tag_any (B : Nat) (Ak : Option Addr) (nk ck : Nat) (k : List UInt8) (A : Option Addr) (n c : Nat) (l : List UInt8) (w : World) (hk : Row w B Ak nk ck (cs8 k)) (hr : Row w B A n c (cs8 l)) (hB : B ≤ w.heap.size) (hK : KT B w) (hnk : nk ≤ 1073741824) (hl : n ≤ 536870912) :
    Calls Tryd.prog 13 #[.slice Ak nk ck, .slice A n c] w (Ret64 w (tagL k l)) := by
  obtain ⟨X, HX⟩ : ∃ X, Hid (X = blkL k) := ⟨_, rfl⟩
  have hX64 : X.length = 64 := by rw [HX.out]; exact blkL_len k
  have hXl : (cs8 X).length = 64 := by rw [cs8_len]; exact hX64
  obtain ⟨I, HI⟩ : ∃ I, Hid (I = sumL (mixL 54 X ++ l)) := ⟨_, rfl⟩
  have hI32 : I.length = 32 := by rw [HI.out]; exact sumL_len _
  have hIl : (cs8 I).length = 32 := by rw [cs8_len]; exact hI32
  obtain ⟨D, HD⟩ : ∃ D, Hid (D = sumL (mixL 92 X ++ I)) := ⟨_, rfl⟩
  have hDl : (cs8 D).length = 32 := by rw [cs8_len, HD.out]; exact sumL_len _
  have hT : tagL k l = D := by rw [HD.out, HI.out, HX.out]; rfl
  rw [hT]
  have HT := hide hT
  clear hT
  go_enter Tryd.func13, Tryd.ntmps13
  go_wp2_with fail
  generalize hw : World.alloc _ _ = w1
  have hb1 : Below w.heap.size w w1 := by rw [← hw]; exact (Below.refl _ w).alloc (Nat.le_refl _) _
  have h4 : Blk w1 w.heap.size 42 (cs8 (nulL 32)) := by rw [← hw]; exact Blk.at _ _ _ rfl
  clear hw
  have hs1 := hb1.size
  have hl4 := h4.lt
  refine (Block_any B Ak nk ck k w1 (hk.keep hb1 hB) (by omega) (hK.keep hb1 hB) hnk).mono ?_
  rw [← HX.out]
  rintro e w2 ⟨rfl, hb2⟩
  have hb02 := hb1.trans (hb2.mono hs1)
  have h42 := h4.keep hb2 hl4
  clear hb1 hb2 h4
  have hs2 := hb02.size
  have hl42 := h42.lt
  go_wp2_with (first
    | (refine wpList_storeB rfl 56 (.tmp 5) (.tmp 8) rfl w2.heap.size (cs8 X) rfl rfl 56 (cs8 (nulL 64)) (Blk.at _ _ _ rfl) 64 size64b hXl rfl (cs8_one _) ?_; rw [World.setRow_alloc_new]; have h53 := Blk.new w2 56 (cs8 X); have hb3 := (Below.refl w2.heap.size w2).alloc (Nat.le_refl _) (.cells (cs8 X).toArray 56 (0, 0)); generalize World.alloc w2 _ = w3 at h53 hb3 ⊢)
    | (refine wpList_loadB rfl 56 (.tmp 5) rfl _ rfl 56 (cs8 X) h53 64 5 Tryd.underlying56 size64b hXl ?_))
  have h43 := h42.keep hb3 hl42
  have hb03 := hb02.trans (hb3.mono hs2)
  have hs3 := hb03.size
  have hl53 := h53.lt
  clear hb3 hb02 h42
  refine (masked_any X 54 _ rfl w3 hX64).mono ?_
  rintro e w4 ⟨rfl, hb4⟩
  have h44 := h43.keep hb4 (by omega)
  have h54 := h53.keep hb4 hl53
  have hb04 := hb03.trans (hb4.mono hs3)
  have hs4 := hb04.size
  have hl54 := h54.lt
  clear hb4 hb03 h43 h53
  go_wp2_with fail
  refine (digestBehind_any B A n c (mixL 54 X) l w4 (hr.keep hb04 hB) (by omega) (hK.keep hb04 hB) (by rw [mixL_len]; exact hX64) hl).mono ?_
  rw [← HI.out]
  rintro e w5 ⟨rfl, hb5⟩
  have h45 := h44.keep hb5 (by omega)
  have h55 := h54.keep hb5 hl54
  have hb05 := hb04.trans (hb5.mono hs4)
  have hs5 := hb05.size
  have hl55 := h55.lt
  clear hb5 hb04 h44 h54
  go_wp2_with (refine wpList_storeB rfl 42 (.tmp 6) (.tmp 12) rfl w5.heap.size (cs8 I) rfl rfl 42 (cs8 (nulL 32)) (Blk.at _ _ _ rfl) 32 size32b hIl rfl (cs8_one _) ?_; rw [World.setRow_alloc_new]; have h66 := Blk.new w5 42 (cs8 I); have hb6 := (Below.refl w5.heap.size w5).alloc (Nat.le_refl _) (.cells (cs8 I).toArray 42 (0, 0)); generalize World.alloc w5 _ = w6 at h66 hb6 ⊢)
  have h46 := (h45.keep hb6 (by omega)).drew
  have h56 := (h55.keep hb6 hl55).drew
  have h66' := h66.drew
  have hb06 := (hb05.trans (hb6.mono hs5)).drew
  clear hb6 hb05 h45 h55 h66
  have hs6 := hb06.size
  have hs56 : w5.heap.size < w6.heap.size := h66'.lt
  have hl56 := hide h56.lt
  have hl66 := hide h66'.lt
  have hu := Tryd.underlying56
  have hiX : (Tryd.prog.info? 56).map (·.size) = some (cs8 X).length := by rw [hXl]; exact size64b
  refine wp_region_held_drew (S := fun w' => w'.rangeAt w2.heap.size 0 (cs8 X)) (by kernel_rfl) h56.range (fun hS0 => ?_)
  refine wpAnyH_take (i := 0) rfl (by kernel_rfl) (by kernel_rfl) (by kernel_rfl) (fun _ _ _ h => h) (yieldsIf_load_mid (by rfl) _ _ rfl _ _ rfl (cs8 X) _ (fun _ h => h) hu rfl hiX) (by assumption) ?_
  simp only [List.getElem_toArray, List.getElem_cons_zero, Act.put, List.setIfInBounds_toArray, List.set_cons_zero, List.set_cons_succ]
  refine wpAnyH_take (i := 2) (v := .slice (some ⟨w5.heap.size, 0, none⟩) 32 32) rfl (by kernel_rfl) (by kernel_rfl) (by kernel_rfl) (fun _ _ _ h => h) (Or.inl ⟨by rfl, fun w _ => by go_simp⟩) (by assumption) ?_
  simp only [List.getElem_toArray, List.getElem_cons_zero, List.getElem_cons_succ, Act.put, List.setIfInBounds_toArray, List.set_cons_zero, List.set_cons_succ]
  refine wpAnyH_ready (rs := [1]) (by kernel_rfl) (by simp) ?_
  refine AllReadyH.cons rfl (fun K hKK => ?_) AllReadyH.nil
  go_simp
  refine (masked_any X 92 _ rfl _ hX64).mono ?_
  rintro e w7 ⟨rfl, hb7⟩
  have h47 := h46.keep hb7 (by simp; omega)
  have h57 := h56.keep hb7 hl56.out
  have h67 := h66'.keep hb7 hl66.out
  have hb07 := hb06.trans (hb7.mono hs6)
  have hs7 := hb07.size
  clear hb7 hb06 h46 h56 h66'
  refine hKK.out _ _ (h57.range) (fun hS1 => ?_)
  clear hKK
  refine wpAnyH_ready (rs := [3]) (by kernel_rfl) (by simp) ?_
  refine AllReadyH.cons rfl (fun K hKK => ?_) AllReadyH.nil
  go_simp
  refine (digestBehind_any w7.heap.size (some ⟨w5.heap.size, 0, none⟩) 32 32 (mixL 92 X) I w7 (h67.whole hIl (by unfold maxLen; omega)) (Nat.le_refl _) ((hK.keep hb07 hB).more (by omega)) (by rw [mixL_len]; exact hX64) (by omega)).mono ?_
  rw [← HD.out]
  rintro e w8 ⟨rfl, hb8⟩
  have h48 := h47.keep hb8 h47.lt
  have h58 := h57.keep hb8 h57.lt
  have hb08 := hb07.trans (hb8.mono hs7)
  clear hb8 hb07 h47 h57 h67
  have hst := run_storeB (P := Tryd.prog) h48 (cs8 D) (by rw [hDl]; rfl) (cs8_one _)
  refine hKK.out _ _ (h58.range) (fun hS3 => ?_)
  clear hKK
  refine wpAnyH_ready (rs := [4]) (by kernel_rfl) (by simp) ?_
  refine AllReadyH.cons rfl (fun K hKK => ?_) AllReadyH.nil
  go_simp
  refine hKK.out _ _ ((h58.rowOther (by omega) _).range) (fun hS4 => ?_)
  clear hKK
  refine wpAnyH_done (by kernel_rfl) ?_ _
  go_wp2
  refine ret_cell rfl Tryd.underlying42 size32b rfl (h48.row _) hDl rfl ?_
  exact ⟨rfl, below_setRow hb08 (Nat.le_refl _) _⟩
end Go.Proofs.YtdikiabjkmigdaaDoor
