/-
  The statement MacSeals: each call returns true and changes nothing that was there.
-/
import Derived.Test.YthglpniemenhcaaDoorMBack
import Derived.Test.YthglpniemenhcaaDoorMRef3
namespace Go.Proofs.YthglpniemenhcaaDoor
open Go.RowKit
set_option maxHeartbeats 1600000

theorem seals_big (A A' At : Option Addr) (n c n' c' nt ct : Nat) (w : World) (hK : KT w.heap.size w) (h : 16384 < n ∨ 16384 < n' ∨ 16384 < nt) :
    Calls Tryd.prog 4 #[.slice A n c, .slice A' n' c', .slice At nt ct] w fun e w' => e = .returned (.bool true) ∧ Below w.heap.size w w' := by
  by_cases h1 : 16384 < n
  · have hd0 : decide ((16384 : Int) < (n : Int)) = true := by simp; omega
    clear h
    go_enter Tryd.func4, Tryd.ntmps4
    go_wp2_with (go_at_call 9; refine (known_any _ _ (Nat.le_refl _) hK).mono ?_; rintro e w1 ⟨rfl, hb1⟩)
    go_ret
    exact ⟨rfl, hb1⟩
  by_cases h2 : 16384 < n'
  · have hd0 : decide ((16384 : Int) < (n : Int)) = false := by simp; omega
    have hd1 : decide ((16384 : Int) < (n' : Int)) = true := by simp; omega
    clear h
    go_enter Tryd.func4, Tryd.ntmps4
    go_wp2_with (go_at_call 9; refine (known_any _ _ (Nat.le_refl _) hK).mono ?_; rintro e w1 ⟨rfl, hb1⟩)
    go_ret
    exact ⟨rfl, hb1⟩
  · have hd0 : decide ((16384 : Int) < (n : Int)) = false := by simp; omega
    have hd1 : decide ((16384 : Int) < (n' : Int)) = false := by simp; omega
    have hd2 : decide ((16384 : Int) < (nt : Int)) = true := by simp; omega
    clear h
    go_enter Tryd.func4, Tryd.ntmps4
    go_wp2_with (go_at_call 9; refine (known_any _ _ (Nat.le_refl _) hK).mono ?_; rintro e w1 ⟨rfl, hb1⟩)
    go_ret
    exact ⟨rfl, hb1⟩
theorem unL_len (k b : List UInt8) : (unL k b).length ≤ b.length := by
  unfold unL
  split
  · rw [List.length_take]; omega
  · simp
theorem seals_walk (A : Option Addr) (n c : Nat) (k : List UInt8) (A' : Option Addr) (n' c' : Nat) (l : List UInt8) (At : Option Addr) (nt ct : Nat) (t : List UInt8) (w : World) (hk : Row w w.heap.size A n c (cs8 k)) (hr : Row w w.heap.size A' n' c' (cs8 l)) (ht : Row w w.heap.size At nt ct (cs8 t)) (hK : KT w.heap.size w) :
    Calls Tryd.prog 4 #[.slice A n c, .slice A' n' c', .slice At nt ct] w fun e w' => e = .returned (.bool true) ∧ Below w.heap.size w w' := by
  by_cases hbig : 16384 < n ∨ 16384 < n' ∨ 16384 < nt
  · exact seals_big A A' At n c n' c' nt ct w hK hbig
  have hn : n ≤ 16384 := by omega
  have hn' : n' ≤ 16384 := by omega
  have hd1 : decide ((16384 : Int) < (n : Int)) = false := by simp; omega
  have hd2 : decide ((16384 : Int) < (n' : Int)) = false := by simp; omega
  have hd3 : decide ((16384 : Int) < (nt : Int)) = false := by simp; omega
  clear hbig
  have HL : Hid (l.length = n') := by have := hr.len; rwa [cs8_len] at this
  obtain ⟨X, HX⟩ : ∃ X, Hid (X = sealT k l) := ⟨_, rfl⟩
  obtain ⟨Y, HY⟩ : ∃ Y, Hid (Y = unL k l) := ⟨_, rfl⟩
  obtain ⟨E, HE⟩ : ∃ E, Hid (E = unE k l) := ⟨_, rfl⟩
  obtain ⟨b, HB⟩ : ∃ b, Hid (b = rgtB k l t) := ⟨_, rfl⟩
  go_enter Tryd.func4, Tryd.ntmps4
  go_wp2_with fail
  refine (Lent_any w.heap.size A' n' c' l w hr (by omega)).mono ?_
  rintro e w1 ⟨g, c1, rfl, ho1, hb1⟩
  have hs1 := hb1.size
  have hk1 := Row.of_own ho1
  clear ho1
  go_wp2_with fail
  refine (Seal_any w1.heap.size A n c k _ n' c1 l w1 ((hk.keep hb1 (Nat.le_refl _)).more hs1) hk1.lent (Nat.le_refl _) ((hK.keep hb1 (Nat.le_refl _)).more hs1) (by omega) (by omega)).mono ?_
  rw [← HX.out]
  rintro e w2 ⟨A2, n2, c2, rfl, ho2, hb2⟩
  have hs2 := hb2.size
  have hk2 := hk1.keep hb2 (Nat.le_refl _)
  have hb02 : Below w.heap.size w w2 := hb1.trans (hb2.mono hs1)
  have hlt2 : ∀ k, (Value.slice A2 n2 c2).ownBlock = some k → k < w2.heap.size := fun k hk => (ho2.lt k hk).2
  have hn2 : n2 ≤ 1099511627776 := by have h1 := own8_len ho2; rw [HX.out, sealT_len, HL.out] at h1; omega
  go_wp2_with fail
  refine (Open_any w1.heap.size A n c k _ n' c1 l w2 ((hk.keep hb02 (Nat.le_refl _)).more hs1) hk2.lent hs2 ((hK.keep hb02 (Nat.le_refl _)).more hs1) (by omega) (by omega)).mono ?_
  unfold Gives
  rw [← HY.out, ← HE.out]
  rintro e w3 ⟨A3, n3, c3, rfl, ho3, hb3⟩
  have hs3 := hb3.size
  have hk3 := hk2.keep hb3 hs2
  have hb03 : Below w.heap.size w w3 := hb02.trans (hb3.mono (by omega))
  have hn3 : n3 ≤ 1099511627776 := by have h1 := own8_len ho3; have h2 := unL_len k l; rw [← HY.out, HL.out] at h2; omega
  replace ho2 := own_keep ho2 hb3
  go_wp2_with fail
  refine (rOpen_any w.heap.size A n c k A' n' c' l w3 (hk.keep hb03 (Nat.le_refl _)) (hr.keep hb03 (Nat.le_refl _)) (by omega) (by omega) (by omega)).mono ?_
  unfold Gives
  rw [← HY.out, ← HE.out]
  rintro e w4 ⟨A4, n4, c4, rfl, ho4, hb4⟩
  have hs4 := hb4.size
  replace hk3 := hk3.keep hb4 (by omega)
  have hb04 := (hb03.trans (hb4.mono (by omega))).drew
  replace ho2 := own_drew (own_keep ho2 hb4)
  replace ho3 := own_drew (own_keep ho3 hb4)
  replace ho4 := own_drew ho4
  have hk4 := hk3.of_drew
  have hs04 := hb04.size
  have hs14 : w1.heap.size ≤ w4.drew.heap.size := by simp; omega
  have hs24 : w2.heap.size ≤ w4.drew.heap.size := by simp; omega
  clear hb1 hb2 hb3 hb4 hb02 hb03 hk1 hk2 hk3
  obtain ⟨w5, hw5⟩ : ∃ w5, w5 = w4.drew := ⟨_, rfl⟩
  rw [← hw5] at ho2 ho3 ho4 hb04 hk4 hs04 hs14 hs24
  have HW := hide hw5
  clear hw5
  have r2 := Row.of_own ho2
  have r3 := Row.of_own ho3
  have r4 := Row.of_own ho4
  go_wp2_with fail
  refine wp_region_held_drew (S := fun w' => (convert 22 9 (.slice A2 n2 c2)).run Tryd.prog w' = .ok (.string ⟨X.toArray⟩) w' ∧ (convert 22 9 (.slice A3 n3 c3)).run Tryd.prog w' = .ok (.string ⟨Y.toArray⟩) w' ∧ (convert 22 9 (.slice A4 n4 c4)).run Tryd.prog w' = .ok (.string ⟨Y.toArray⟩) w') (by kernel_rfl) (by rw [← HW.out]; exact ⟨r2.str8, r3.str8, r4.str8⟩) (fun hS0 => ?_)
  rw [← HW.out] at hS0 ⊢
  refine wpAnyH_take (i := 0) (v := .slice A2 n2 c2) rfl (by kernel_rfl) (by kernel_rfl) (by kernel_rfl) (fun _ _ _ h => h) (Or.inl ⟨by rfl, fun w _ => by go_simp⟩) (by assumption) ?_
  simp only [List.getElem_toArray, List.getElem_cons_zero, Act.put, List.setIfInBounds_toArray, List.set_cons_zero, List.set_cons_succ]
  refine wpAnyH_take (i := 1) (v := .string ⟨X.toArray⟩) rfl (by kernel_rfl) (by kernel_rfl) (by kernel_rfl) (fun _ _ _ h => h) (Or.inl ⟨by rfl, fun w h => by have h9 := h.1; go_simp⟩) (by assumption) ?_
  simp only [List.getElem_toArray, List.getElem_cons_zero, List.getElem_cons_succ, Act.put, List.setIfInBounds_toArray, List.set_cons_zero, List.set_cons_succ]
  refine wpAnyH_take (i := 2) (v := .slice A n c) rfl (by kernel_rfl) (by kernel_rfl) (by kernel_rfl) (fun _ _ _ h => h) (Or.inl ⟨by rfl, fun w _ => by go_simp⟩) (by assumption) ?_
  simp only [List.getElem_toArray, List.getElem_cons_zero, List.getElem_cons_succ, Act.put, List.setIfInBounds_toArray, List.set_cons_zero, List.set_cons_succ]
  refine wpAnyH_take (i := 3) (v := .slice A' n' c') rfl (by kernel_rfl) (by kernel_rfl) (by kernel_rfl) (fun _ _ _ h => h) (Or.inl ⟨by rfl, fun w _ => by go_simp⟩) (by assumption) ?_
  simp only [List.getElem_toArray, List.getElem_cons_zero, List.getElem_cons_succ, Act.put, List.setIfInBounds_toArray, List.set_cons_zero, List.set_cons_succ]
  refine wpAnyH_ready (rs := [4]) (by kernel_rfl) (by simp) ?_
  refine AllReadyH.cons rfl (fun K hKK => ?_) AllReadyH.nil
  go_simp
  refine (rSeal_any w.heap.size A n c k A' n' c' l _ (hk.keep hb04 (Nat.le_refl _)) (hr.keep hb04 (Nat.le_refl _)) hs04 (by omega) (by omega)).mono ?_
  rw [← HX.out]
  rintro e w6 ⟨A6, n6, c6, rfl, ho6, hb6⟩
  have r26 := r2.keep hb6 (Nat.le_refl _)
  have r36 := r3.keep hb6 (Nat.le_refl _)
  have r46 := r4.keep hb6 (Nat.le_refl _)
  have hb06 := hb04.trans (hb6.mono hs04)
  have hs06 := hb06.size
  have q6 := (Row.of_own ho6).str8
  have hs56 := hb6.size
  refine hKK.out _ _ (⟨r26.str8, r36.str8, r46.str8⟩) (fun hS4 => ?_)
  clear hKK
  refine wpAnyH_ready (rs := [5]) (by kernel_rfl) (by simp) ?_
  refine AllReadyH.cons rfl (fun K hKK => ?_) AllReadyH.nil
  go_simp
  refine hKK.out _ _ (⟨r26.str8, r36.str8, r46.str8⟩) (fun hS5 => ?_)
  clear hKK
  refine wpAnyH_take (i := 6) (v := .bool true) rfl (by kernel_rfl) (by kernel_rfl) (by kernel_rfl) (fun _ _ _ h => h) (Or.inl ⟨by rfl, fun w _ => by go_simp⟩) (by assumption) ?_
  simp only [List.getElem_toArray, List.getElem_cons_zero, List.getElem_cons_succ, Act.put, List.setIfInBounds_toArray, List.set_cons_zero, List.set_cons_succ]
  refine wpAnyH_take (i := 7) (v := .bool true) rfl (by kernel_rfl) (by kernel_rfl) (by kernel_rfl) (fun _ _ _ h => h) (Or.inl ⟨by rfl, fun w _ => by go_simp⟩) (by assumption) ?_
  simp only [List.getElem_toArray, List.getElem_cons_zero, List.getElem_cons_succ, Act.put, List.setIfInBounds_toArray, List.set_cons_zero, List.set_cons_succ]
  refine wpAnyH_take (i := 8) (v := .slice A3 n3 c3) rfl (by kernel_rfl) (by kernel_rfl) (by kernel_rfl) (fun _ _ _ h => h) (Or.inl ⟨by rfl, fun w _ => by go_simp⟩) (by assumption) ?_
  simp only [List.getElem_toArray, List.getElem_cons_zero, List.getElem_cons_succ, Act.put, List.setIfInBounds_toArray, List.set_cons_zero, List.set_cons_succ]
  refine wpAnyH_take (i := 9) (v := .string ⟨Y.toArray⟩) rfl (by kernel_rfl) (by kernel_rfl) (by kernel_rfl) (fun _ _ _ h => h) (Or.inl ⟨by rfl, fun w h => by have h9 := h.2.1; go_simp⟩) (by assumption) ?_
  simp only [List.getElem_toArray, List.getElem_cons_zero, List.getElem_cons_succ, Act.put, List.setIfInBounds_toArray, List.set_cons_zero, List.set_cons_succ]
  refine wpAnyH_take (i := 10) (v := .slice A4 n4 c4) rfl (by kernel_rfl) (by kernel_rfl) (by kernel_rfl) (fun _ _ _ h => h) (Or.inl ⟨by rfl, fun w _ => by go_simp⟩) (by assumption) ?_
  simp only [List.getElem_toArray, List.getElem_cons_zero, List.getElem_cons_succ, Act.put, List.setIfInBounds_toArray, List.set_cons_zero, List.set_cons_succ]
  refine wpAnyH_take (i := 11) (v := .string ⟨Y.toArray⟩) rfl (by kernel_rfl) (by kernel_rfl) (by kernel_rfl) (fun _ _ _ h => h) (Or.inl ⟨by rfl, fun w h => by have h9 := h.2.2; go_simp⟩) (by assumption) ?_
  simp only [List.getElem_toArray, List.getElem_cons_zero, List.getElem_cons_succ, Act.put, List.setIfInBounds_toArray, List.set_cons_zero, List.set_cons_succ]
  refine wpAnyH_take (i := 12) (v := .bool true) rfl (by kernel_rfl) (by kernel_rfl) (by kernel_rfl) (fun _ _ _ h => h) (Or.inl ⟨by rfl, fun w _ => by go_simp⟩) (by assumption) ?_
  simp only [List.getElem_toArray, List.getElem_cons_zero, List.getElem_cons_succ, Act.put, List.setIfInBounds_toArray, List.set_cons_zero, List.set_cons_succ]
  refine wpAnyH_take (i := 13) (v := .bool true) rfl (by kernel_rfl) (by kernel_rfl) (by kernel_rfl) (fun _ _ _ h => h) (Or.inl ⟨by rfl, fun w _ => by go_simp⟩) (by assumption) ?_
  simp only [List.getElem_toArray, List.getElem_cons_zero, List.getElem_cons_succ, Act.put, List.setIfInBounds_toArray, List.set_cons_zero, List.set_cons_succ]
  refine wpAnyH_take (i := 14) (v := .bool true) rfl (by kernel_rfl) (by kernel_rfl) (by kernel_rfl) (fun _ _ _ h => h) (Or.inl ⟨by rfl, fun w _ => by go_simp⟩) (by assumption) ?_
  simp only [List.getElem_toArray, List.getElem_cons_zero, List.getElem_cons_succ, Act.put, List.setIfInBounds_toArray, List.set_cons_zero, List.set_cons_succ]
  refine wpAnyH_take (i := 15) (v := .int .i64 E) rfl (by kernel_rfl) (by kernel_rfl) (by kernel_rfl) (fun _ _ _ h => h) (Or.inl ⟨by rfl, fun w _ => by go_simp⟩) (by assumption) ?_
  simp only [List.getElem_toArray, List.getElem_cons_zero, List.getElem_cons_succ, Act.put, List.setIfInBounds_toArray, List.set_cons_zero, List.set_cons_succ]
  refine wpAnyH_take (i := 16) (v := .int .i64 E) rfl (by kernel_rfl) (by kernel_rfl) (by kernel_rfl) (fun _ _ _ h => h) (Or.inl ⟨by rfl, fun w _ => by go_simp⟩) (by assumption) ?_
  simp only [List.getElem_toArray, List.getElem_cons_zero, List.getElem_cons_succ, Act.put, List.setIfInBounds_toArray, List.set_cons_zero, List.set_cons_succ]
  refine wpAnyH_take (i := 17) (v := .bool true) rfl (by kernel_rfl) (by kernel_rfl) (by kernel_rfl) (fun _ _ _ h => h) (Or.inl ⟨by rfl, fun w _ => by go_simp⟩) (by assumption) ?_
  simp only [List.getElem_toArray, List.getElem_cons_zero, List.getElem_cons_succ, Act.put, List.setIfInBounds_toArray, List.set_cons_zero, List.set_cons_succ]
  refine wpAnyH_take (i := 18) (v := .bool true) rfl (by kernel_rfl) (by kernel_rfl) (by kernel_rfl) (fun _ _ _ h => h) (Or.inl ⟨by rfl, fun w _ => by go_simp⟩) (by assumption) ?_
  simp only [List.getElem_toArray, List.getElem_cons_zero, List.getElem_cons_succ, Act.put, List.setIfInBounds_toArray, List.set_cons_zero, List.set_cons_succ]
  refine wpAnyH_take (i := 19) (v := .bool true) rfl (by kernel_rfl) (by kernel_rfl) (by kernel_rfl) (fun _ _ _ h => h) (Or.inl ⟨by rfl, fun w _ => by go_simp⟩) (by assumption) ?_
  simp only [List.getElem_toArray, List.getElem_cons_zero, List.getElem_cons_succ, Act.put, List.setIfInBounds_toArray, List.set_cons_zero, List.set_cons_succ]
  refine wpAnyH_take (i := 20) (v := .slice A n c) rfl (by kernel_rfl) (by kernel_rfl) (by kernel_rfl) (fun _ _ _ h => h) (Or.inl ⟨by rfl, fun w _ => by go_simp⟩) (by assumption) ?_
  simp only [List.getElem_toArray, List.getElem_cons_zero, List.getElem_cons_succ, Act.put, List.setIfInBounds_toArray, List.set_cons_zero, List.set_cons_succ]
  refine wpAnyH_take (i := 21) (v := .slice A' n' c') rfl (by kernel_rfl) (by kernel_rfl) (by kernel_rfl) (fun _ _ _ h => h) (Or.inl ⟨by rfl, fun w _ => by go_simp⟩) (by assumption) ?_
  simp only [List.getElem_toArray, List.getElem_cons_zero, List.getElem_cons_succ, Act.put, List.setIfInBounds_toArray, List.set_cons_zero, List.set_cons_succ]
  refine wpAnyH_take (i := 22) (v := .slice At nt ct) rfl (by kernel_rfl) (by kernel_rfl) (by kernel_rfl) (fun _ _ _ h => h) (Or.inl ⟨by rfl, fun w _ => by go_simp⟩) (by assumption) ?_
  simp only [List.getElem_toArray, List.getElem_cons_zero, List.getElem_cons_succ, Act.put, List.setIfInBounds_toArray, List.set_cons_zero, List.set_cons_succ]
  refine wpAnyH_take (i := 24) (v := .slice A n c) rfl (by kernel_rfl) (by kernel_rfl) (by kernel_rfl) (fun _ _ _ h => h) (Or.inl ⟨by rfl, fun w _ => by go_simp⟩) (by assumption) ?_
  simp only [List.getElem_toArray, List.getElem_cons_zero, List.getElem_cons_succ, Act.put, List.setIfInBounds_toArray, List.set_cons_zero, List.set_cons_succ]
  refine wpAnyH_take (i := 25) (v := .slice A' n' c') rfl (by kernel_rfl) (by kernel_rfl) (by kernel_rfl) (fun _ _ _ h => h) (Or.inl ⟨by rfl, fun w _ => by go_simp⟩) (by assumption) ?_
  simp only [List.getElem_toArray, List.getElem_cons_zero, List.getElem_cons_succ, Act.put, List.setIfInBounds_toArray, List.set_cons_zero, List.set_cons_succ]
  refine wpAnyH_take (i := 26) (v := .slice At nt ct) rfl (by kernel_rfl) (by kernel_rfl) (by kernel_rfl) (fun _ _ _ h => h) (Or.inl ⟨by rfl, fun w _ => by go_simp⟩) (by assumption) ?_
  simp only [List.getElem_toArray, List.getElem_cons_zero, List.getElem_cons_succ, Act.put, List.setIfInBounds_toArray, List.set_cons_zero, List.set_cons_succ]
  refine wpAnyH_ready (rs := [23]) (by kernel_rfl) (by simp) ?_
  refine AllReadyH.cons rfl (fun K hKK => ?_) AllReadyH.nil
  go_simp
  refine (Right_any w.heap.size A n c k A' n' c' l At nt ct t _ (hk.keep hb06 (Nat.le_refl _)) (hr.keep hb06 (Nat.le_refl _)) (ht.keep hb06 (Nat.le_refl _)) hs06 (hK.keep hb06 (Nat.le_refl _)) (by omega) (by omega)).mono ?_
  rw [← HB.out]
  rintro e w7 ⟨rfl, hb7⟩
  have r27 := r26.keep hb7 hs56
  have r37 := r36.keep hb7 hs56
  have r47 := r46.keep hb7 hs56
  have hb07 := hb06.trans (hb7.mono hs06)
  have hs07 := hb07.size
  have hs57 := Nat.le_trans hs56 hb7.size
  refine hKK.out _ _ (⟨r27.str8, r37.str8, r47.str8⟩) (fun hS23 => ?_)
  clear hKK
  refine wpAnyH_ready (rs := [27]) (by kernel_rfl) (by simp) ?_
  refine AllReadyH.cons rfl (fun K hKK => ?_) AllReadyH.nil
  go_simp
  refine (rRight_any w.heap.size A n c k A' n' c' l At nt ct t _ (hk.keep hb07 (Nat.le_refl _)) (hr.keep hb07 (Nat.le_refl _)) (ht.keep hb07 (Nat.le_refl _)) hs07 (by omega) (by omega)).mono ?_
  rw [← HB.out]
  rintro e w8 ⟨rfl, hb8⟩
  have hb08 := hb07.trans (hb8.mono hs07)
  have hb58 := (hb6.trans (hb7.mono hs56)).trans (hb8.mono hs57)
  refine hKK.out _ _ (⟨(r27.keep hb8 hs57).str8, (r37.keep hb8 hs57).str8, (r47.keep hb8 hs57).str8⟩) (fun hS27 => ?_)
  clear hKK
  refine wpAnyH_take (i := 28) (v := .bool true) rfl (by kernel_rfl) (by kernel_rfl) (by kernel_rfl) (fun _ _ _ h => h) (Or.inl ⟨by rfl, fun w _ => by go_simp⟩) (by assumption) ?_
  simp only [List.getElem_toArray, List.getElem_cons_zero, List.getElem_cons_succ, Act.put, List.setIfInBounds_toArray, List.set_cons_zero, List.set_cons_succ]
  refine wpAnyH_take (i := 29) (v := .bool true) rfl (by kernel_rfl) (by kernel_rfl) (by kernel_rfl) (fun _ _ _ h => h) (Or.inl ⟨by rfl, fun w _ => by go_simp⟩) (by assumption) ?_
  simp only [List.getElem_toArray, List.getElem_cons_zero, List.getElem_cons_succ, Act.put, List.setIfInBounds_toArray, List.set_cons_zero, List.set_cons_succ]
  refine wpAnyH_take (i := 30) (v := .bool true) rfl (by kernel_rfl) (by kernel_rfl) (by kernel_rfl) (fun _ _ _ h => h) (Or.inl ⟨by rfl, fun w _ => by go_simp⟩) (by assumption) ?_
  simp only [List.getElem_toArray, List.getElem_cons_zero, List.getElem_cons_succ, Act.put, List.setIfInBounds_toArray, List.set_cons_zero, List.set_cons_succ]
  refine wpAnyH_done (by kernel_rfl) ?_ _
  replace ho2 := own_keep ho2 hb58
  replace ho3 := own_keep ho3 hb58
  have hk8 := hk4.keep hb58 hs14
  have hs58 := hb58.size
  clear hb6 hb7 hb8 r2 r3 r4 r26 r36 r46 r27 r37 r47 q6 hb06 hb07 hb04 ho4 ho6
  go_wp2_with fail
  refine (Spoil_any _ _ _ _ _ _ ho2 (by omega) hn2).mono ?_
  rintro e w9 ⟨rfl, hg9⟩
  have hb9 := grown_below hg9 ho2 (by omega)
  have hs9 := hb9.size
  replace ho3 := own_apart ho3 hg9 hlt2 (Nat.le_refl _)
  go_wp2_with fail
  refine (Spoil_any _ _ _ _ _ _ ho3 (by omega) hn3).mono ?_
  rintro e w10 ⟨rfl, hg10⟩
  have hb10 := grown_below hg10 ho3 (by omega)
  have hb010 : Below w.heap.size w w10 := (hb08.trans (hb9.mono (by omega))).trans (hb10.mono (by omega))
  have hk10 := (hk8.keep hb9 (Nat.le_refl _)).keep hb10 hs2
  have hs10 := hb010.size
  go_wp2_with fail
  refine (Kept_any w.heap.size w1.heap.size g A' n' c' c1 l w10 hk10 (hr.keep hb010 (Nat.le_refl _)) (by omega)).mono ?_
  rintro e w' ⟨rfl, rfl⟩
  go_wp2_with fail
  refine (known_any _ _ hs10 (hK.keep hb010 (Nat.le_refl _))).mono ?_
  rintro e w11 ⟨rfl, hb11⟩
  go_wp2
  go_ret
  exact ⟨rfl, hb010.trans (hb11.mono hs10)⟩
end Go.Proofs.YthglpniemenhcaaDoor
