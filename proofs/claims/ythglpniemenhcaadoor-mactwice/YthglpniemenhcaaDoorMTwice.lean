/-
  The statement MacTwice: each call returns true and changes nothing that was there.
-/
import Derived.Test.YthglpniemenhcaaDoorMTags
namespace Go.Proofs.YthglpniemenhcaaDoor
open Go.RowKit
set_option maxHeartbeats 800000

theorem twice_big (A A' : Option Addr) (n c n' c' : Nat) (w : World) (hK : KT w.heap.size w) (h : 16384 < n ∨ 16384 < n') :
    Calls Tryd.prog 8 #[.slice A n c, .slice A' n' c'] w fun e w' => e = .returned (.bool true) ∧ Below w.heap.size w w' := by
  by_cases h1 : 16384 < n
  · have hd : decide ((16384 : Int) < (n : Int)) = true := by simp; omega
    clear h
    go_enter Tryd.func8, Tryd.ntmps8
    go_wp2_with (go_at_call 9; refine (known_any _ _ (Nat.le_refl _) hK).mono ?_; rintro e w1 ⟨rfl, hb1⟩)
    go_ret
    exact ⟨rfl, hb1⟩
  · have hd : decide ((16384 : Int) < (n : Int)) = false := by simp; omega
    have hd2 : decide ((16384 : Int) < (n' : Int)) = true := by simp; omega
    clear h
    go_enter Tryd.func8, Tryd.ntmps8
    go_wp2_with (go_at_call 9; refine (known_any _ _ (Nat.le_refl _) hK).mono ?_; rintro e w1 ⟨rfl, hb1⟩)
    go_ret
    exact ⟨rfl, hb1⟩
/-- Two rows do not lie in one block. -/
def Apart (v u : Value) : Prop := ∀ g, v.ownBlock = some g → u.ownBlock = some g → False
theorem Apart.symm {v u : Value} (h : Apart v u) : Apart u v := fun g a b => h g b a
theorem Apart.or {v u : Value} (h : Apart v u) : v.ownBlock = none ∨ v.ownBlock ≠ u.ownBlock := by
  cases hv : v.ownBlock with
  | none => exact .inl rfl
  | some g => exact .inr fun e => h g hv e.symm
theorem Apart.next {w : World} {base g n n' c : Nat} {e : TypeId} {v u : Value} {xs : List Value} (h : Apart v u) (ho : w.ownsRow base e 1 u n' xs) (hat : v.ownBlock = some g ∨ g = w.heap.size) : Apart (.slice (some ⟨g, 0, none⟩) n c) u := by
  intro k h1 h2
  obtain rfl : g = k := by simpa [Value.ownBlock] using h1
  rcases hat with hat | hat
  · exact h g hat h2
  · have := (ho.lt g h2).2
    omega
theorem xor_54 (a : UInt8) : bits .xor .u8 (a.toNat : Int) 54 = ((xB a 54).toNat : Int) := xor_b a 54
theorem xor_92 (a : UInt8) : bits .xor .u8 (a.toNat : Int) 92 = ((xB a 92).toNat : Int) := xor_b a 92
theorem twice_walk (A : Option Addr) (n c : Nat) (k : List UInt8) (A' : Option Addr) (n' c' : Nat) (l : List UInt8) (w : World) (hk : Row w w.heap.size A n c (cs8 k)) (hr : Row w w.heap.size A' n' c' (cs8 l)) (hK : KT w.heap.size w) :
    Calls Tryd.prog 8 #[.slice A n c, .slice A' n' c'] w fun e w' => e = .returned (.bool true) ∧ Below w.heap.size w w' := by
  by_cases hbig : 16384 < n ∨ 16384 < n'
  · exact twice_big A A' n c n' c' w hK hbig
  · obtain ⟨i0, hi, hz0, hz1, hz2⟩ := info_parts info8
    have hn : n ≤ 16384 := by omega
    have hn' : n' ≤ 16384 := by omega
    clear hbig
    have hd : decide ((16384 : Int) < (n : Int)) = false := by simp; omega
    have hd2 : decide ((16384 : Int) < (n' : Int)) = false := by simp; omega
    have HL : Hid (l.length = n') := by have := hr.len; rwa [cs8_len] at this
    obtain ⟨X, HX⟩ : ∃ X, Hid (X = blkL k) := ⟨_, rfl⟩
    have hX64 : X.length = 64 := by rw [HX.out]; exact blkL_len k
    have hXl : (cs8 X).length = 64 := by rw [cs8_len]; exact hX64
    obtain ⟨I, HI⟩ : ∃ I, Hid (I = sumL (mixL 54 X ++ l)) := ⟨_, rfl⟩
    have hI32 : I.length = 32 := by rw [HI.out]; exact sumL_len _
    have hIl : (cs8 I).length = 32 := by rw [cs8_len]; exact hI32
    obtain ⟨T, HT⟩ : ∃ T, Hid (T = sumL (mixL 92 X ++ I)) := ⟨_, rfl⟩
    have HTT : Hid (tagL k l = T) := by show _ = _; rw [HT.out, HI.out, HX.out]; rfl
    have hq := eq32b T (by rw [HT.out]; exact sumL_len _)
    have hx1 := xor_54
    have hx2 := xor_92
    go_enter Tryd.func8, Tryd.ntmps8
    go_wp2_with fail
    refine (Block_any w.heap.size A n c k w hk (Nat.le_refl _) hK (by omega)).mono ?_
    rw [← HX.out]
    rintro e w1 ⟨rfl, hb1⟩
    have hs1 := hb1.size
    go_wp2_with (refine wpList_storeB rfl 25 (.tmp 5) (.tmp 20) rfl w1.heap.size (cs8 X) rfl rfl 25 (cs8 (nulL 64)) (Blk.at _ _ _ rfl) 64 size64b hXl rfl (cs8_one _) ?_; rw [World.setRow_alloc_new]; have h52 := Blk.new w1 25 (cs8 X); have hb2 := (Below.refl w1.heap.size w1).alloc (Nat.le_refl _) (.cells (cs8 X).toArray 25 (0, 0)); generalize World.alloc w1 _ = w2 at h52 hb2 ⊢)
    have hb02 := hb1.trans (hb2.mono hs1)
    have hs2 := hb02.size
    have hl5 := h52.lt
    clear hb1 hb2
    go_loopw [6, 7, 8] (fun s t i wr => ∃ (j : Nat) (A1 A2 : Option Addr) (c1 c2 : Nat), j ≤ 64 ∧ i = .int .i64 (j : Int) ∧ s = .slice A1 j c1 ∧ t = .slice A2 j c2 ∧ wr.ownsRow w2.heap.size 5 1 (.slice A1 j c1) j (cs8 (mixL 54 (X.take j))) ∧ wr.ownsRow w2.heap.size 5 1 (.slice A2 j c2) j (cs8 (mixL 92 (X.take j))) ∧ Apart (.slice A1 j c1) (.slice A2 j c2) ∧ Below w2.heap.size w2 wr) (fun _ _ i _ => 64 - (intOf i).toNat)
    case atStart => exact ⟨0, none, none, 0, 0, Nat.zero_le _, rfl, rfl, rfl, World.ownsRow_nil _ _ _ _, World.ownsRow_nil _ _ _ _, (fun g h _ => by cases h), Below.refl _ _⟩
    case round =>
      obtain ⟨j, A1, A2, c1, c2, hj, rfl, rfl, rfl, ho1, ho2, hne, hb⟩ := hrel
      have hbs := hb.size
      by_cases hlt : j < 64
      · have hdj : decide ((j : Int) < 64) = true := by simp; omega
        have hc := (h52.keep hb hl5).cell (j := j) (v := .int .u8 (X[j].toNat : Int)) (cs8_at (by omega))
        have HM1 := hide (mixL_take 54 X j (by omega))
        have HM2 := hide (mixL_take 92 X j (by omega))
        go_wp2_with (first
          | (at_builtin; refine wpList_append_at rfl (.tmp 25) (.tmp 30) 22 rfl w2.heap.size 5 i0 _ 1 Tryd.underlying22 hi hz0 hz1 hz2 rfl _ _ _ rfl (ho1.alloc _) _ _ _ _ rfl rfl (cell_one _ _ _) (one_u8 _) (by unfold maxLen; omega) (by omega) (by simp; omega) (by omega) ?_; intro g3 c3 w3 ho3 hg3 hat3; have p3 := hne.next (n := j + 1) (c := c3) (ho2.alloc _) hat3; have ho23 := (ho2.alloc _).kept hg3 hne.symm.or; have hb3 := (hb.alloc hbs _).grown hg3 (by simp; omega) (fun k hk => (ho1.lt k hk).1); have hbs3 := hb3.size; have hc3 := (h52.keep hb3 hl5).cell (j := j) (v := .int .u8 (X[j].toNat : Int)) (cs8_at (by omega)); rw [← cs8_snoc, ← HM1.out] at ho3; clear hg3 hat3)
          | (at_builtin; refine wpList_append_at rfl (.tmp 32) (.tmp 37) 22 rfl w2.heap.size 5 i0 _ 1 Tryd.underlying22 hi hz0 hz1 hz2 rfl _ _ _ rfl (ho23.alloc _) _ _ _ _ rfl rfl (cell_one _ _ _) (one_u8 _) (by unfold maxLen; omega) (by omega) (by simp; omega) (by omega) ?_; intro g4 c4 w4 ho4 hg4 hat4; have p4 := p3.symm.next (n := j + 1) (c := c4) (ho3.alloc _) hat4; have ho34 := (ho3.alloc _).kept hg4 p3.or; have hb4 := (hb3.alloc hbs3 _).grown hg4 (by simp; omega) (fun k hk => (ho23.lt k hk).1); rw [← cs8_snoc, ← HM2.out] at ho4; clear hg4 hat4))
        go_roundw
        case rel => exact ⟨j + 1, _, _, c3, c4, by omega, by go_num, rfl, rfl, ho34, ho4, p4.symm, hb4⟩
        case measure => simp [intOf]; omega
      · obtain rfl : j = 64 := by omega
        rw [List.take_of_length_le (by omega)] at ho1 ho2
        have hb0r := hb02.trans (hb.mono hs2)
        have hs0r := hb0r.size
        go_wp2_with (at_builtin; refine wpList_append_row rfl (.tmp 39) (.tmp 40) 22 rfl w2.heap.size 5 i0 _ 1 Tryd.underlying22 hi hz0 hz1 hz2 rfl _ _ _ rfl ho1 w.heap.size _ _ _ _ rfl (hr.keep hb0r (Nat.le_refl _)) (cs8_one _) (by unfold maxLen; omega) (by omega) w2 hb (Nat.le_refl _) ?_; intro A3 c3 w3 ho3 hb3 hg3; have ho23 := ho2.kept hg3 hne.symm.or; rw [← cs8_app] at ho3; clear hg3)
        have hb03 := hb02.trans (hb3.mono hs2)
        have hs23 := hb3.size
        clear hb0r hs0r hb ho1 ho2 hne
        refine (Sum_any w3.heap.size A3 _ c3 (mixL 54 X ++ l) w3 (Row.of_own ho3) (Nat.le_refl _) ((hK.keep hb03 (Nat.le_refl _)).more (by omega)) (by omega)).mono ?_
        unfold Sum32
        rw [← HI.out]
        rintro e w4 ⟨rfl, hb4⟩
        have ho24 := own_keep ho23 hb4
        have hb24 := hb3.trans (hb4.mono hs23)
        have hs24 := hb24.size
        clear ho3 ho23 hb4 hb3 hb03
        go_wp2_with (first
          | (refine wpList_storeB rfl 27 (.tmp 9) (.tmp 43) rfl w4.heap.size (cs8 I) rfl rfl 27 (cs8 (nulL 32)) (Blk.at _ _ _ rfl) 32 size32b hIl rfl (cs8_one _) ?_; rw [World.setRow_alloc_new]; have h95 := Blk.new w4 27 (cs8 I); have hb5 := (Below.refl w4.heap.size w4).alloc (Nat.le_refl _) (.cells (cs8 I).toArray 27 (0, 0)); generalize World.alloc w4 _ = w5 at h95 hb5 ⊢; have ho25 := own_keep ho24 hb5; have hb25 := hb24.trans (hb5.mono hs24))
          | (at_builtin; refine wpList_append_row rfl (.tmp 44) (.tmp 45) 22 rfl w2.heap.size 5 i0 _ 1 Tryd.underlying22 hi hz0 hz1 hz2 rfl _ _ _ rfl ho25 w5.heap.size _ _ _ _ rfl (h95.whole hIl (by unfold maxLen; omega)) (cs8_one _) (by unfold maxLen; omega) (by omega) w2 hb25 (Nat.le_refl _) ?_; intro A6 c6 w6 ho6 hb6 hg6; rw [← cs8_app] at ho6))
        have hb06 := hb02.trans (hb6.mono hs2)
        have hs6 := hb06.size
        clear hb24 hb25 hb5 ho24 ho25 hg6
        refine (Tag_any w.heap.size A n c k A' n' c' l w6 (hk.keep hb06 (Nat.le_refl _)) (hr.keep hb06 (Nat.le_refl _)) hs6 (hK.keep hb06 (Nat.le_refl _)) (by omega) (by omega)).mono ?_
        rw [HTT.out]
        rintro e w7 ⟨rfl, hb7⟩
        have ho7 := own_keep ho6 hb7
        have hb07 := hb06.trans (hb7.mono hs6)
        have hs7 := hb07.size
        clear ho6 hb6 hb7 hb06
        go_wp2_with fail
        refine (Sum_any w7.heap.size A6 _ c6 (mixL 92 X ++ I) w7 (Row.of_own ho7) (Nat.le_refl _) ((hK.keep hb07 (Nat.le_refl _)).more hs7) (by omega)).mono ?_
        unfold Sum32
        rw [← HT.out]
        rintro e w8 ⟨rfl, hb8⟩
        have hb08 := hb07.trans (hb8.mono hs7)
        have hs8 := hb08.size
        go_wp2_with fail
        refine (known_any _ _ hs8 (hK.keep hb08 (Nat.le_refl _))).mono ?_
        rintro e w9 ⟨rfl, hb9⟩
        go_wp2
        go_ret
        exact ⟨rfl, hb08.trans (hb9.mono hs8)⟩
end Go.Proofs.YthglpniemenhcaaDoor
