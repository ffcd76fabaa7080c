/-
  The statement MacOnly: each call returns true and changes nothing that was there.
-/
import Derived.Test.YthglpniemenhcaaDoorMBack
namespace Go.Proofs.YthglpniemenhcaaDoor
open Go.RowKit
set_option maxHeartbeats 1600000

theorem only_big (A A' : Option Addr) (n c n' c' : Nat) (w : World) (hK : KT w.heap.size w) (h : 16384 < n ∨ 16384 < n') :
    Calls Tryd.prog 6 #[.slice A n c, .slice A' n' c'] w fun e w' => e = .returned (.bool true) ∧ Below w.heap.size w w' := by
  by_cases h1 : 16384 < n
  · have hd : decide ((16384 : Int) < (n : Int)) = true := by simp; omega
    clear h
    go_enter Tryd.func6, Tryd.ntmps6
    go_wp2_with (go_at_call 9; refine (known_any _ _ (Nat.le_refl _) hK).mono ?_; rintro e w1 ⟨rfl, hb1⟩)
    go_ret
    exact ⟨rfl, hb1⟩
  · have hd : decide ((16384 : Int) < (n : Int)) = false := by simp; omega
    have hd2 : decide ((16384 : Int) < (n' : Int)) = true := by simp; omega
    clear h
    go_enter Tryd.func6, Tryd.ntmps6
    go_wp2_with (go_at_call 9; refine (known_any _ _ (Nat.le_refl _) hK).mono ?_; rintro e w1 ⟨rfl, hb1⟩)
    go_ret
    exact ⟨rfl, hb1⟩
theorem only_walk (A : Option Addr) (n c : Nat) (k : List UInt8) (A' : Option Addr) (n' c' : Nat) (l : List UInt8) (w : World) (hk : Row w w.heap.size A n c (cs8 k)) (hr : Row w w.heap.size A' n' c' (cs8 l)) (hK : KT w.heap.size w) :
    Calls Tryd.prog 6 #[.slice A n c, .slice A' n' c'] w fun e w' => e = .returned (.bool true) ∧ Below w.heap.size w w' := by
  by_cases hbig : 16384 < n ∨ 16384 < n'
  · exact only_big A A' n c n' c' w hK hbig
  have hn : n ≤ 16384 := by omega
  have hn' : n' ≤ 16384 := by omega
  clear hbig
  have hd : decide ((16384 : Int) < (n : Int)) = false := by simp; omega
  have hd2 : decide ((16384 : Int) < (n' : Int)) = false := by simp; omega
  have hL : l.length = n' := by have := hr.len; rwa [cs8_len] at this
  by_cases h32 : n' < 32
  · have hd3 : decide ((n' : Int) < 32) = true := by simp; omega
    have HE := hide (unE_short (k := k) (b := l) (by omega))
    have HU := hide (unL_bad (k := k) (b := l) (by rw [HE.out]; decide))
    have HL := hide hL
    clear hL
    go_enter Tryd.func6, Tryd.ntmps6
    go_wp2_with fail
    refine (Open_any w.heap.size A n c k A' n' c' l w hk hr (Nat.le_refl _) hK (by omega) (by omega)).mono ?_
    unfold Gives
    rw [HE.out, HU.out]
    rintro e w1 ⟨A1, n1, c1, rfl, ho1, hb1⟩
    obtain rfl : n1 = 0 := (own8_len ho1).symm
    have hs1 := hb1.size
    clear ho1
    go_wp2_with fail
    refine (known_any _ _ hs1 (hK.keep hb1 (Nat.le_refl _))).mono ?_
    rintro e w2 ⟨rfl, hb2⟩
    go_wp2
    go_ret
    exact ⟨rfl, hb1.trans (hb2.mono hs1)⟩
  obtain ⟨m, hm, HM⟩ : ∃ m : Nat, (n' : Int) - 32 = (m : Int) ∧ Hid (n' = m + 32) := ⟨n' - 32, by omega, by show _ = _; omega⟩
  have hmn : m ≤ n' := by omega
  obtain ⟨A9, c9, hsl, hr9⟩ := hr.headed Tryd.underlying22 size8 (hi := m) hmn (m : Int) rfl
  obtain ⟨A8, c8, hst, hr8⟩ := hr.tailed Tryd.underlying22 size8 (lo := m) hmn (m : Int) rfl
  rw [show (cs8 l).take m = cs8 (l.take m) by simp [cs8]] at hr9
  rw [show (cs8 l).drop m = cs8 (l.drop m) by simp [cs8]] at hr8
  rw [show n' - m = 32 by omega] at hr8 hst
  have h320 : ¬ l.length < 32 := by omega
  obtain ⟨L, HLL⟩ : ∃ L, Hid (L = l.take m) := ⟨_, rfl⟩
  obtain ⟨R, HR⟩ : ∃ R, Hid (R = l.drop m) := ⟨_, rfl⟩
  rw [← HLL.out] at hr9
  rw [← HR.out] at hr8
  obtain ⟨b, HB⟩ : ∃ b, Hid (b = unB k l) := ⟨_, rfl⟩
  have HRB : Hid (rgtB k L R = b) := by show _ = _; rw [HB.out, HLL.out, HR.out, unB_at (hL.trans HM.out)]
  obtain ⟨T, HT⟩ : ∃ T, Hid (T = tagL k L) := ⟨_, rfl⟩
  have hTl : (cs8 T).length = 32 := by rw [cs8_len, HT.out]; exact tagL_len k L
  have hd3 : decide ((n' : Int) < 32) = false := by simp; omega
  have HN := hide hL
  clear hL
  cases b with
  | false =>
    have HE := hide (unE_bad h320 HB.out.symm)
    have HU := hide (unL_bad (k := k) (b := l) (by rw [HE.out]; decide))
    have hne : (T == R) = false := by
      have h := HRB.out
      rw [rgtB, ← HT.out, decide_eq_false_iff_not] at h
      rw [beq_eq_false_iff_ne]
      exact fun e => h e.symm
    have hne2 : (T != R) = true := by rw [bne, hne]; rfl
    clear h320
    go_enter Tryd.func6, Tryd.ntmps6
    go_wp2_with fail
    refine (Open_any w.heap.size A n c k A' n' c' l w hk hr (Nat.le_refl _) hK (by omega) (by omega)).mono ?_
    unfold Gives
    rw [HE.out, HU.out]
    rintro e w1 ⟨A1, n1, c1, rfl, ho1, hb1⟩
    obtain rfl : n1 = 0 := (own8_len ho1).symm
    have hs1 := hb1.size
    clear ho1
    go_wp2_with fail
    refine (Tag_any w.heap.size A n c k A9 m c9 L w1 (hk.keep hb1 (Nat.le_refl _)) (hr9.keep hb1 (Nat.le_refl _)) hs1 (hK.keep hb1 (Nat.le_refl _)) (by omega) (by omega)).mono ?_
    rw [← HT.out]
    rintro e w2 ⟨rfl, hb2⟩
    have hb02 := hb1.trans (hb2.mono hs1)
    have hs2 := hb02.size
    clear hb1 hb2
    go_wp2_with (refine wpList_storeB rfl 27 (.tmp 8) (.tmp 44) rfl w2.heap.size (cs8 T) rfl rfl 27 (cs8 (nulL 32)) (Blk.at _ _ _ rfl) 32 size32b hTl rfl (cs8_one _) ?_; rw [World.setRow_alloc_new]; have h83 := Blk.new w2 27 (cs8 T); have hb3 := (Below.refl w2.heap.size w2).alloc (Nat.le_refl _) (.cells (cs8 T).toArray 27 (0, 0)); generalize World.alloc w2 _ = w3 at h83 hb3 ⊢)
    have hb03 := hb02.trans (hb3.mono hs2)
    have q1 := fun j => ((h83.whole hTl (by unfold maxLen; omega)).keep (below_drewN _ w3 j) (Nat.le_refl _)).str8
    have q2 := fun j => ((hr8.keep hb03 (Nat.le_refl _)).keep (below_drewN _ w3 j) (Nat.le_refl _)).str8
    clear hb3 hb02 h83
    go_quiet (fail)
    have hb04 := hb03.trans (below_drewN _ w3 nq)
    generalize w3.drewN nq = w4 at hb04 ⊢
    clear hb03 q1 q2
    have hb04d := hb04.drew
    have hs4 := hb04d.size
    go_wp2
    refine wp_region_held_drew (S := fun _ => True) (by kernel_rfl) trivial (fun hS0 => ?_)
    refine wpAnyH_take (i := 0) (v := .int .i64 6) rfl (by kernel_rfl) (by kernel_rfl) (by kernel_rfl) (fun _ _ _ h => h) (Or.inl ⟨by rfl, fun w _ => by go_simp⟩) (by assumption) ?_
    simp only [List.getElem_toArray, List.getElem_cons_zero, Act.put, List.setIfInBounds_toArray, List.set_cons_zero, List.set_cons_succ]
    refine wpAnyH_take (i := 1) (v := .bool true) rfl (by kernel_rfl) (by kernel_rfl) (by kernel_rfl) (fun _ _ _ h => h) (Or.inl ⟨by rfl, fun w _ => by go_simp⟩) (by assumption) ?_
    simp only [List.getElem_toArray, List.getElem_cons_zero, List.getElem_cons_succ, Act.put, List.setIfInBounds_toArray, List.set_cons_zero, List.set_cons_succ]
    refine wpAnyH_take (i := 2) (v := .bool true) rfl (by kernel_rfl) (by kernel_rfl) (by kernel_rfl) (fun _ _ _ h => h) (Or.inl ⟨by rfl, fun w _ => by go_simp⟩) (by assumption) ?_
    simp only [List.getElem_toArray, List.getElem_cons_zero, List.getElem_cons_succ, Act.put, List.setIfInBounds_toArray, List.set_cons_zero, List.set_cons_succ]
    refine wpAnyH_take (i := 3) (v := .slice A1 0 c1) rfl (by kernel_rfl) (by kernel_rfl) (by kernel_rfl) (fun _ _ _ h => h) (Or.inl ⟨by rfl, fun w _ => by go_simp⟩) (by assumption) ?_
    simp only [List.getElem_toArray, List.getElem_cons_zero, List.getElem_cons_succ, Act.put, List.setIfInBounds_toArray, List.set_cons_zero, List.set_cons_succ]
    refine wpAnyH_take (i := 4) (v := .int .i64 0) rfl (by kernel_rfl) (by kernel_rfl) (by kernel_rfl) (fun _ _ _ h => h) (Or.inl ⟨by rfl, fun w _ => by go_simp⟩) (by assumption) ?_
    simp only [List.getElem_toArray, List.getElem_cons_zero, List.getElem_cons_succ, Act.put, List.setIfInBounds_toArray, List.set_cons_zero, List.set_cons_succ]
    refine wpAnyH_take (i := 5) (v := .bool true) rfl (by kernel_rfl) (by kernel_rfl) (by kernel_rfl) (fun _ _ _ h => h) (Or.inl ⟨by rfl, fun w _ => by go_simp⟩) (by assumption) ?_
    simp only [List.getElem_toArray, List.getElem_cons_zero, List.getElem_cons_succ, Act.put, List.setIfInBounds_toArray, List.set_cons_zero, List.set_cons_succ]
    refine wpAnyH_take (i := 6) (v := .bool true) rfl (by kernel_rfl) (by kernel_rfl) (by kernel_rfl) (fun _ _ _ h => h) (Or.inl ⟨by rfl, fun w _ => by go_simp⟩) (by assumption) ?_
    simp only [List.getElem_toArray, List.getElem_cons_zero, List.getElem_cons_succ, Act.put, List.setIfInBounds_toArray, List.set_cons_zero, List.set_cons_succ]
    refine wpAnyH_take (i := 7) (v := .bool true) rfl (by kernel_rfl) (by kernel_rfl) (by kernel_rfl) (fun _ _ _ h => h) (Or.inl ⟨by rfl, fun w _ => by go_simp⟩) (by assumption) ?_
    simp only [List.getElem_toArray, List.getElem_cons_zero, List.getElem_cons_succ, Act.put, List.setIfInBounds_toArray, List.set_cons_zero, List.set_cons_succ]
    refine wpAnyH_take (i := 8) (v := .slice A n c) rfl (by kernel_rfl) (by kernel_rfl) (by kernel_rfl) (fun _ _ _ h => h) (Or.inl ⟨by rfl, fun w _ => by go_simp⟩) (by assumption) ?_
    simp only [List.getElem_toArray, List.getElem_cons_zero, List.getElem_cons_succ, Act.put, List.setIfInBounds_toArray, List.set_cons_zero, List.set_cons_succ]
    refine wpAnyH_take (i := 9) (v := .slice A' n' c') rfl (by kernel_rfl) (by kernel_rfl) (by kernel_rfl) (fun _ _ _ h => h) (Or.inl ⟨by rfl, fun w _ => by go_simp⟩) (by assumption) ?_
    simp only [List.getElem_toArray, List.getElem_cons_zero, List.getElem_cons_succ, Act.put, List.setIfInBounds_toArray, List.set_cons_zero, List.set_cons_succ]
    refine wpAnyH_take (i := 10) (v := .int .i64 (m : Int)) rfl (by kernel_rfl) (by kernel_rfl) (by kernel_rfl) (fun _ _ _ h => h) (Or.inl ⟨by rfl, fun w _ => by go_simp⟩) (by assumption) ?_
    simp only [List.getElem_toArray, List.getElem_cons_zero, List.getElem_cons_succ, Act.put, List.setIfInBounds_toArray, List.set_cons_zero, List.set_cons_succ]
    refine wpAnyH_take (i := 11) (v := .slice A9 m c9) rfl (by kernel_rfl) (by kernel_rfl) (by kernel_rfl) (fun _ _ _ h => h) (Or.inl ⟨by rfl, fun w _ => by go_simp⟩) (by assumption) ?_
    simp only [List.getElem_toArray, List.getElem_cons_zero, List.getElem_cons_succ, Act.put, List.setIfInBounds_toArray, List.set_cons_zero, List.set_cons_succ]
    refine wpAnyH_take (i := 12) (v := .slice A' n' c') rfl (by kernel_rfl) (by kernel_rfl) (by kernel_rfl) (fun _ _ _ h => h) (Or.inl ⟨by rfl, fun w _ => by go_simp⟩) (by assumption) ?_
    simp only [List.getElem_toArray, List.getElem_cons_zero, List.getElem_cons_succ, Act.put, List.setIfInBounds_toArray, List.set_cons_zero, List.set_cons_succ]
    refine wpAnyH_take (i := 13) (v := .int .i64 (m : Int)) rfl (by kernel_rfl) (by kernel_rfl) (by kernel_rfl) (fun _ _ _ h => h) (Or.inl ⟨by rfl, fun w _ => by go_simp⟩) (by assumption) ?_
    simp only [List.getElem_toArray, List.getElem_cons_zero, List.getElem_cons_succ, Act.put, List.setIfInBounds_toArray, List.set_cons_zero, List.set_cons_succ]
    refine wpAnyH_take (i := 14) (v := .slice A8 32 c8) rfl (by kernel_rfl) (by kernel_rfl) (by kernel_rfl) (fun _ _ _ h => h) (Or.inl ⟨by rfl, fun w _ => by go_simp⟩) (by assumption) ?_
    simp only [List.getElem_toArray, List.getElem_cons_zero, List.getElem_cons_succ, Act.put, List.setIfInBounds_toArray, List.set_cons_zero, List.set_cons_succ]
    refine wpAnyH_ready (rs := [15]) (by kernel_rfl) (by simp) ?_
    refine AllReadyH.cons rfl (fun K hKK => ?_) AllReadyH.nil
    go_simp
    refine (Right_any w.heap.size A n c k A9 m c9 L A8 32 c8 R _ (hk.keep hb04d (Nat.le_refl _)) (hr9.keep hb04d (Nat.le_refl _)) (hr8.keep hb04d (Nat.le_refl _)) hs4 (hK.keep hb04d (Nat.le_refl _)) (by omega) (by omega)).mono ?_
    rw [HRB.out]
    rintro e w5 ⟨rfl, hb5⟩
    have hb05 := hb04d.trans (hb5.mono hs4)
    have hs5 := hb05.size
    refine hKK.out _ _ (trivial) (fun hS15 => ?_)
    clear hKK
    refine wpAnyH_take (i := 16) (v := .bool true) rfl (by kernel_rfl) (by kernel_rfl) (by kernel_rfl) (fun _ _ _ h => h) (Or.inl ⟨by rfl, fun w _ => by go_simp⟩) (by assumption) ?_
    simp only [List.getElem_toArray, List.getElem_cons_zero, List.getElem_cons_succ, Act.put, List.setIfInBounds_toArray, List.set_cons_zero, List.set_cons_succ]
    refine wpAnyH_take (i := 17) (v := .bool true) rfl (by kernel_rfl) (by kernel_rfl) (by kernel_rfl) (fun _ _ _ h => h) (Or.inl ⟨by rfl, fun w _ => by go_simp⟩) (by assumption) ?_
    simp only [List.getElem_toArray, List.getElem_cons_zero, List.getElem_cons_succ, Act.put, List.setIfInBounds_toArray, List.set_cons_zero, List.set_cons_succ]
    refine wpAnyH_take (i := 18) (v := .bool true) rfl (by kernel_rfl) (by kernel_rfl) (by kernel_rfl) (fun _ _ _ h => h) (Or.inl ⟨by rfl, fun w _ => by go_simp⟩) (by assumption) ?_
    simp only [List.getElem_toArray, List.getElem_cons_zero, List.getElem_cons_succ, Act.put, List.setIfInBounds_toArray, List.set_cons_zero, List.set_cons_succ]
    refine wpAnyH_ready (rs := [19]) (by kernel_rfl) (by simp) ?_
    refine AllReadyH.cons rfl (fun K hKK => ?_) AllReadyH.nil
    go_simp
    refine (known_any w.heap.size _ hs5 (hK.keep hb05 (Nat.le_refl _))).mono ?_
    rintro e w6 ⟨rfl, hb6⟩
    have hb06 := hb05.trans (hb6.mono hs5)
    refine hKK.out _ _ (trivial) (fun hS19 => ?_)
    clear hKK
    refine wpAnyH_take (i := 20) (v := .bool true) rfl (by kernel_rfl) (by kernel_rfl) (by kernel_rfl) (fun _ _ _ h => h) (Or.inl ⟨by rfl, fun w _ => by go_simp⟩) (by assumption) ?_
    simp only [List.getElem_toArray, List.getElem_cons_zero, List.getElem_cons_succ, Act.put, List.setIfInBounds_toArray, List.set_cons_zero, List.set_cons_succ]
    refine wpAnyH_take (i := 21) (v := .bool true) rfl (by kernel_rfl) (by kernel_rfl) (by kernel_rfl) (fun _ _ _ h => h) (Or.inl ⟨by rfl, fun w _ => by go_simp⟩) (by assumption) ?_
    simp only [List.getElem_toArray, List.getElem_cons_zero, List.getElem_cons_succ, Act.put, List.setIfInBounds_toArray, List.set_cons_zero, List.set_cons_succ]
    refine wpAnyH_done (by kernel_rfl) ?_ _
    go_wp2
    go_ret
    exact ⟨rfl, hb06⟩
  | true =>
    have HE := hide (unE_ok h320 HB.out.symm)
    have HU : Hid (unL k l = L) := by show _ = _; rw [unL_ok HE.out, HN.out, HM.out, Nat.add_sub_cancel, HLL.out]
    have HTR : Hid (R = T) := by
      have h := HRB.out
      rw [rgtB, ← HT.out, decide_eq_true_iff] at h
      exact h
    clear h320
    rw [HTR.out] at hr8
    go_enter Tryd.func6, Tryd.ntmps6
    go_wp2_with fail
    refine (Open_any w.heap.size A n c k A' n' c' l w hk hr (Nat.le_refl _) hK (by omega) (by omega)).mono ?_
    unfold Gives
    rw [HE.out, HU.out]
    rintro e w1 ⟨A1, n1, c1, rfl, ho1, hb1⟩
    have hs1 := hb1.size
    have x1 := Row.of_own ho1
    clear ho1
    go_wp2_with fail
    refine (Tag_any w.heap.size A n c k A9 m c9 L w1 (hk.keep hb1 (Nat.le_refl _)) (hr9.keep hb1 (Nat.le_refl _)) hs1 (hK.keep hb1 (Nat.le_refl _)) (by omega) (by omega)).mono ?_
    rw [← HT.out]
    rintro e w2 ⟨rfl, hb2⟩
    have hb02 := hb1.trans (hb2.mono hs1)
    have hs2 := hb02.size
    have x2 := x1.keep hb2 (Nat.le_refl _)
    have hs12 := hb2.size
    clear hb1 hb2 x1
    go_wp2_with (refine wpList_storeB rfl 27 (.tmp 8) (.tmp 44) rfl w2.heap.size (cs8 T) rfl rfl 27 (cs8 (nulL 32)) (Blk.at _ _ _ rfl) 32 size32b hTl rfl (cs8_one _) ?_; rw [World.setRow_alloc_new]; have h83 := Blk.new w2 27 (cs8 T); have hb3 := (Below.refl w2.heap.size w2).alloc (Nat.le_refl _) (.cells (cs8 T).toArray 27 (0, 0)); generalize World.alloc w2 _ = w3 at h83 hb3 ⊢)
    have hb03 := hb02.trans (hb3.mono hs2)
    have x3 := x2.keep hb3 hs12
    have hs23 := hb3.size
    have q1 := fun j => ((h83.whole hTl (by unfold maxLen; omega)).keep (below_drewN _ w3 j) (Nat.le_refl _)).str8
    have q2 := fun j => ((hr8.keep hb03 (Nat.le_refl _)).keep (below_drewN _ w3 j) (Nat.le_refl _)).str8
    clear hb3 hb02 h83 x2
    go_quiet (fail)
    have hb04 := hb03.trans (below_drewN _ w3 nq)
    have hb4s : w1.heap.size ≤ (w3.drewN nq).heap.size := Nat.le_trans hs12 hs23
    have x4 := x3.keep (below_drewN _ w3 nq) (Nat.le_refl _)
    generalize w3.drewN nq = w4 at hb04 x4 hb4s ⊢
    clear hb03 q1 q2 x3
    have hb04d := hb04.drew
    have hs4 := hb04d.size
    have f1 := x4.of_drew.str8
    have f2 := (hr9.keep hb04d (Nat.le_refl _)).str8
    go_wp2
    refine wp_region_held_drew (S := fun w' => (convert 22 9 (.slice A1 n1 c1)).run Tryd.prog w' = .ok (.string ⟨L.toArray⟩) w' ∧ (convert 22 9 (.slice A9 m c9)).run Tryd.prog w' = .ok (.string ⟨L.toArray⟩) w') (by kernel_rfl) ⟨f1, f2⟩ (fun hS0 => ?_)
    refine wpAnyH_take (i := 0) (v := .int .i64 0) rfl (by kernel_rfl) (by kernel_rfl) (by kernel_rfl) (fun _ _ _ h => h) (Or.inl ⟨by rfl, fun w _ => by go_simp⟩) (by assumption) ?_
    simp only [List.getElem_toArray, List.getElem_cons_zero, Act.put, List.setIfInBounds_toArray, List.set_cons_zero, List.set_cons_succ]
    refine wpAnyH_take (i := 1) (v := .bool true) rfl (by kernel_rfl) (by kernel_rfl) (by kernel_rfl) (fun _ _ _ h => h) (Or.inl ⟨by rfl, fun w _ => by go_simp⟩) (by assumption) ?_
    simp only [List.getElem_toArray, List.getElem_cons_zero, List.getElem_cons_succ, Act.put, List.setIfInBounds_toArray, List.set_cons_zero, List.set_cons_succ]
    refine wpAnyH_take (i := 2) (v := .bool true) rfl (by kernel_rfl) (by kernel_rfl) (by kernel_rfl) (fun _ _ _ h => h) (Or.inl ⟨by rfl, fun w _ => by go_simp⟩) (by assumption) ?_
    simp only [List.getElem_toArray, List.getElem_cons_zero, List.getElem_cons_succ, Act.put, List.setIfInBounds_toArray, List.set_cons_zero, List.set_cons_succ]
    refine wpAnyH_take (i := 3) (v := .slice A1 n1 c1) rfl (by kernel_rfl) (by kernel_rfl) (by kernel_rfl) (fun _ _ _ h => h) (Or.inl ⟨by rfl, fun w _ => by go_simp⟩) (by assumption) ?_
    simp only [List.getElem_toArray, List.getElem_cons_zero, List.getElem_cons_succ, Act.put, List.setIfInBounds_toArray, List.set_cons_zero, List.set_cons_succ]
    refine wpAnyH_take (i := 4) (v := .string ⟨L.toArray⟩) rfl (by kernel_rfl) (by kernel_rfl) (by kernel_rfl) (fun _ _ _ h => h) (Or.inl ⟨by rfl, fun w h => by have h9 := h.1; go_simp⟩) (by assumption) ?_
    simp only [List.getElem_toArray, List.getElem_cons_zero, List.getElem_cons_succ, Act.put, List.setIfInBounds_toArray, List.set_cons_zero, List.set_cons_succ]
    refine wpAnyH_take (i := 5) (v := .slice A' n' c') rfl (by kernel_rfl) (by kernel_rfl) (by kernel_rfl) (fun _ _ _ h => h) (Or.inl ⟨by rfl, fun w _ => by go_simp⟩) (by assumption) ?_
    simp only [List.getElem_toArray, List.getElem_cons_zero, List.getElem_cons_succ, Act.put, List.setIfInBounds_toArray, List.set_cons_zero, List.set_cons_succ]
    refine wpAnyH_take (i := 6) (v := .int .i64 (m : Int)) rfl (by kernel_rfl) (by kernel_rfl) (by kernel_rfl) (fun _ _ _ h => h) (Or.inl ⟨by rfl, fun w _ => by go_simp⟩) (by assumption) ?_
    simp only [List.getElem_toArray, List.getElem_cons_zero, List.getElem_cons_succ, Act.put, List.setIfInBounds_toArray, List.set_cons_zero, List.set_cons_succ]
    refine wpAnyH_take (i := 7) (v := .slice A9 m c9) rfl (by kernel_rfl) (by kernel_rfl) (by kernel_rfl) (fun _ _ _ h => h) (Or.inl ⟨by rfl, fun w _ => by go_simp⟩) (by assumption) ?_
    simp only [List.getElem_toArray, List.getElem_cons_zero, List.getElem_cons_succ, Act.put, List.setIfInBounds_toArray, List.set_cons_zero, List.set_cons_succ]
    refine wpAnyH_take (i := 8) (v := .string ⟨L.toArray⟩) rfl (by kernel_rfl) (by kernel_rfl) (by kernel_rfl) (fun _ _ _ h => h) (Or.inl ⟨by rfl, fun w h => by have h9 := h.2; go_simp⟩) (by assumption) ?_
    simp only [List.getElem_toArray, List.getElem_cons_zero, List.getElem_cons_succ, Act.put, List.setIfInBounds_toArray, List.set_cons_zero, List.set_cons_succ]
    refine wpAnyH_take (i := 9) (v := .bool true) rfl (by kernel_rfl) (by kernel_rfl) (by kernel_rfl) (fun _ _ _ h => h) (Or.inl ⟨by rfl, fun w _ => by go_simp⟩) (by assumption) ?_
    simp only [List.getElem_toArray, List.getElem_cons_zero, List.getElem_cons_succ, Act.put, List.setIfInBounds_toArray, List.set_cons_zero, List.set_cons_succ]
    refine wpAnyH_take (i := 10) (v := .bool true) rfl (by kernel_rfl) (by kernel_rfl) (by kernel_rfl) (fun _ _ _ h => h) (Or.inl ⟨by rfl, fun w _ => by go_simp⟩) (by assumption) ?_
    simp only [List.getElem_toArray, List.getElem_cons_zero, List.getElem_cons_succ, Act.put, List.setIfInBounds_toArray, List.set_cons_zero, List.set_cons_succ]
    refine wpAnyH_take (i := 11) (v := .bool true) rfl (by kernel_rfl) (by kernel_rfl) (by kernel_rfl) (fun _ _ _ h => h) (Or.inl ⟨by rfl, fun w _ => by go_simp⟩) (by assumption) ?_
    simp only [List.getElem_toArray, List.getElem_cons_zero, List.getElem_cons_succ, Act.put, List.setIfInBounds_toArray, List.set_cons_zero, List.set_cons_succ]
    refine wpAnyH_ready (rs := [12]) (by kernel_rfl) (by simp) ?_
    refine AllReadyH.cons rfl (fun K hKK => ?_) AllReadyH.nil
    go_simp
    refine (known_any w.heap.size _ hs4 (hK.keep hb04d (Nat.le_refl _))).mono ?_
    rintro e w6 ⟨rfl, hb6⟩
    have hb06 := hb04d.trans (hb6.mono hs4)
    have y1 := (x4.of_drew.keep hb6 (by have := hb4s; simp; omega)).str8
    have y2 := (hr9.keep hb06 (Nat.le_refl _)).str8
    refine hKK.out _ _ (⟨y1, y2⟩) (fun hS12 => ?_)
    clear hKK
    refine wpAnyH_take (i := 13) (v := .bool true) rfl (by kernel_rfl) (by kernel_rfl) (by kernel_rfl) (fun _ _ _ h => h) (Or.inl ⟨by rfl, fun w _ => by go_simp⟩) (by assumption) ?_
    simp only [List.getElem_toArray, List.getElem_cons_zero, List.getElem_cons_succ, Act.put, List.setIfInBounds_toArray, List.set_cons_zero, List.set_cons_succ]
    refine wpAnyH_take (i := 14) (v := .bool true) rfl (by kernel_rfl) (by kernel_rfl) (by kernel_rfl) (fun _ _ _ h => h) (Or.inl ⟨by rfl, fun w _ => by go_simp⟩) (by assumption) ?_
    simp only [List.getElem_toArray, List.getElem_cons_zero, List.getElem_cons_succ, Act.put, List.setIfInBounds_toArray, List.set_cons_zero, List.set_cons_succ]
    refine wpAnyH_done (by kernel_rfl) ?_ _
    go_wp2
    go_ret
    exact ⟨rfl, hb06⟩
end Go.Proofs.YthglpniemenhcaaDoor
