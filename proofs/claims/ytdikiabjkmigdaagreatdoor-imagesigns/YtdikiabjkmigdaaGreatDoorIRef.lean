/-
  Contracts: the reference's Read.
-/
import Derived.Test.YtdikiabjkmigdaaGreatDoorIPkg3
namespace Go.Proofs.YtdikiabjkmigdaaGreatDoor
set_option maxRecDepth 20000
open Go.RowKit
set_option maxHeartbeats 1000000

theorem opAt_nat {l : List UInt8} {a k : Nat} (h : a < l.length) (hk : opAt l a = (k : Int)) : k = l[a].toNat := by
  rw [opAt_get h] at hk; omega
theorem rRead_no1 (A : Option Addr) (n c : Nat) (a : Int) (w : World) (d0 : decide (a < 0) = true) : Calls Tryz.prog 98 #[.slice A n c, .int .i64 a] w (Reads w 0 0 0 1) := by
  go_enter Tryz.func98, Tryz.ntmps98
  go_wp2
  refine ret_ins (g := w.heap.size) rfl rfl rfl rfl (Blk.new w 56 [.int .i64 0, .int .i32 0]) rfl ?_
  exact ⟨rfl, below_box w _⟩
theorem rRead_no2 (A : Option Addr) (n c : Nat) (a : Int) (w : World) (d0 : decide (a < 0) = false) (d1 : decide ((n : Int) < a) = true) : Calls Tryz.prog 98 #[.slice A n c, .int .i64 a] w (Reads w 0 0 0 1) := by
  go_enter Tryz.func98, Tryz.ntmps98
  go_wp2
  refine ret_ins (g := w.heap.size) rfl rfl rfl rfl (Blk.new w 56 [.int .i64 0, .int .i32 0]) rfl ?_
  exact ⟨rfl, below_box w _⟩
theorem rRead_end (A : Option Addr) (n c : Nat) (a : Int) (w : World) (d0 : decide (a < 0) = false) (d1 : decide ((n : Int) < a) = false) (d2 : (a == (n : Int)) = true) : Calls Tryz.prog 98 #[.slice A n c, .int .i64 a] w (Reads w 0 0 0 2) := by
  go_enter Tryz.func98, Tryz.ntmps98
  go_wp2
  refine ret_ins (g := w.heap.size) rfl rfl rfl rfl (Blk.new w 56 [.int .i64 0, .int .i32 0]) rfl ?_
  exact ⟨rfl, below_box w _⟩
theorem rRead_op (B : Nat) (A : Option Addr) (n c : Nat) (l : List UInt8) (a k : Nat) (w : World) (hr : Row w B A n c (cs8 l)) (hB : B ≤ w.heap.size) (H : Hid (a < l.length ∧ opAt l a = (k : Int) ∧ wid (k : Int) = 0)) (hk : k ≤ 255) :
    Calls Tryz.prog 98 #[.slice A n c, .int .i64 (a : Int)] w (Reads w 0 0 0 9) := by
  have hn := hr.len
  rw [cs8_len] at hn
  subst hn
  obtain ⟨b, o, u, rfl, hb, hu, hcell⟩ := hr.get H.out.1
  rw [cs8_at H.out.1, ← opAt_nat H.out.1 H.out.2.1] at hu
  obtain rfl := Option.some.inj hu
  clear hu
  have hb1 := below_box w (.cells #[.int .i64 0, .int .i32 0] 56)
  have hcell1 := (hb1.cell (p := ⟨b, o + a, none⟩) (show b < w.heap.size by omega)).trans hcell
  have h1 : (a : Int) < (l.length : Int) := by have := H.out.1; omega
  have h2 : ¬ (l.length : Int) < (a : Int) := by have := H.out.1; omega
  have h3 : ((a : Int) == (l.length : Int)) = false := by rw [beq_eq_false_iff_ne]; omega
  have h4 : decide ((a : Int) < 0) = false := by simp
  have h5 : decide ((l.length : Int) < (a : Int)) = false := by simp; omega
  have hcap := hr.cap
  have hmx := hr.max
  unfold maxLen at hmx
  go_enter Tryz.func98, Tryz.ntmps98
  go_wp2_with fail
  have bk := Blk.new w 56 [.int .i64 0, .int .i32 0]
  replace hr := hr.keep hb1 hB
  clear hcell1 hcell
  generalize w.alloc (.cells #[.int .i64 0, .int .i32 0] 56) = w1 at bk hb1 hr ⊢
  have c0 := bk.cell (j := 0) rfl
  have c1 := bk.cell (j := 1) rfl
  have f0 := bk.frozen 0
  have f1 := bk.frozen 1
  have BK := hide bk
  have HB := hide hb1
  clear bk hb1
  refine (rWidth_q _ 0 _ H.out.2.2).mono ?_
  rintro e w' ⟨rfl, rfl⟩
  go_wp2
  refine ret_ins (g := w.heap.size) rfl rfl rfl rfl ((BK.out.set 0 (.int .i64 0)).set 1 (.int .i32 0)) rfl ?_
  exact ⟨rfl, below_set (below_set HB.out (Nat.le_refl _) _) (Nat.le_refl _) _⟩
theorem rRead_short (B : Nat) (A : Option Addr) (n c : Nat) (l : List UInt8) (a k q : Nat) (w : World) (hr : Row w B A n c (cs8 l)) (hB : B ≤ w.heap.size) (H : Hid (a < l.length ∧ opAt l a = (k : Int) ∧ wid (k : Int) = q ∧ ¬ a + 1 + q ≤ l.length ∧ 1 ≤ q ∧ q ≤ 8)) (hk : k ≤ 255) (hq : 1 ≤ q) (ha : a ≤ 140737488351232) :
    Calls Tryz.prog 98 #[.slice A n c, .int .i64 (a : Int)] w (Reads w 0 0 0 2) := by
  have hn := hr.len
  rw [cs8_len] at hn
  subst hn
  obtain ⟨b, o, u, rfl, hb, hu, hcell⟩ := hr.get H.out.1
  rw [cs8_at H.out.1, ← opAt_nat H.out.1 H.out.2.1] at hu
  obtain rfl := Option.some.inj hu
  clear hu
  have hb1 := below_box w (.cells #[.int .i64 0, .int .i32 0] 56)
  have hcell1 := (hb1.cell (p := ⟨b, o + a, none⟩) (show b < w.heap.size by omega)).trans hcell
  have h1 : (a : Int) < (l.length : Int) := by have := H.out.1; omega
  have h2 : ¬ (l.length : Int) < (a : Int) := by have := H.out.1; omega
  have h3 : ((a : Int) == (l.length : Int)) = false := by rw [beq_eq_false_iff_ne]; omega
  have h4 : decide ((a : Int) < 0) = false := by simp
  have h5 : decide ((l.length : Int) < (a : Int)) = false := by simp; omega
  have hcap := hr.cap
  have hmx := hr.max
  unfold maxLen at hmx
  go_enter Tryz.func98, Tryz.ntmps98
  go_wp2_with fail
  have bk := Blk.new w 56 [.int .i64 0, .int .i32 0]
  replace hr := hr.keep hb1 hB
  clear hcell1 hcell
  generalize w.alloc (.cells #[.int .i64 0, .int .i32 0] 56) = w1 at bk hb1 hr ⊢
  have c0 := bk.cell (j := 0) rfl
  have c1 := bk.cell (j := 1) rfl
  have f0 := bk.frozen 0
  have f1 := bk.frozen 1
  have BK := hide bk
  have HB := hide hb1
  clear bk hb1
  refine (rWidth_q _ q _ H.out.2.2.1).mono ?_
  rintro e w' ⟨rfl, rfl⟩
  have hq0 : ((q : Int) == 0) = false := by rw [beq_eq_false_iff_ne]; omega
  go_wp2_with (go_at_call 96; refine (rget_short B _ _ _ l a q _ _ hr (by omega) H.out.2.2.2.2 H.out.1 H.out.2.2.2.1).mono ?_; rintro e w' ⟨rfl, rfl⟩)
  refine ret_ins (g := w.heap.size) rfl rfl rfl rfl ((BK.out.set 0 (.int .i64 0)).set 1 (.int .i32 0)) rfl ?_
  exact ⟨rfl, below_set (below_set HB.out (Nat.le_refl _) _) (Nat.le_refl _) _⟩
theorem rRead_bad (B : Nat) (A : Option Addr) (n c : Nat) (l : List UInt8) (a k q m : Nat) (x z : Int) (w : World) (hr : Row w B A n c (cs8 l)) (hB : B ≤ w.heap.size) (H : Hid (a < l.length ∧ opAt l a = (k : Int) ∧ wid (k : Int) = q ∧ a + 1 + q ≤ l.length ∧ (1 ≤ q ∧ q ≤ 8) ∧ leN ((l.drop (a + 1)).take q) = m ∧ wrap32 m = x ∧ rgtE (k : Int) x = z)) (hz : (z != 0) = true) (hk : k ≤ 255) (hq : 1 ≤ q) (ha : a ≤ 140737488351232) (hm : m ≤ 4294967295) :
    Calls Tryz.prog 98 #[.slice A n c, .int .i64 (a : Int)] w (Reads w 0 0 0 z) := by
  have hn := hr.len
  rw [cs8_len] at hn
  subst hn
  obtain ⟨b, o, u, rfl, hb, hu, hcell⟩ := hr.get H.out.1
  rw [cs8_at H.out.1, ← opAt_nat H.out.1 H.out.2.1] at hu
  obtain rfl := Option.some.inj hu
  clear hu
  have hb1 := below_box w (.cells #[.int .i64 0, .int .i32 0] 56)
  have hcell1 := (hb1.cell (p := ⟨b, o + a, none⟩) (show b < w.heap.size by omega)).trans hcell
  have h1 : (a : Int) < (l.length : Int) := by have := H.out.1; omega
  have h2 : ¬ (l.length : Int) < (a : Int) := by have := H.out.1; omega
  have h3 : ((a : Int) == (l.length : Int)) = false := by rw [beq_eq_false_iff_ne]; omega
  have h4 : decide ((a : Int) < 0) = false := by simp
  have h5 : decide ((l.length : Int) < (a : Int)) = false := by simp; omega
  have hcap := hr.cap
  have hmx := hr.max
  unfold maxLen at hmx
  go_enter Tryz.func98, Tryz.ntmps98
  go_wp2_with fail
  have bk := Blk.new w 56 [.int .i64 0, .int .i32 0]
  replace hr := hr.keep hb1 hB
  clear hcell1 hcell
  generalize w.alloc (.cells #[.int .i64 0, .int .i32 0] 56) = w1 at bk hb1 hr ⊢
  have c0 := bk.cell (j := 0) rfl
  have c1 := bk.cell (j := 1) rfl
  have f0 := bk.frozen 0
  have f1 := bk.frozen 1
  have BK := hide bk
  have HB := hide hb1
  clear bk hb1
  refine (rWidth_q _ q _ H.out.2.2.1).mono ?_
  rintro e w' ⟨rfl, rfl⟩
  have hq0 : ((q : Int) == 0) = false := by rw [beq_eq_false_iff_ne]; omega
  go_wp2_with (first
    | (go_at_call 96; refine (rget_num B _ _ _ l a q m _ _ hr (by omega) H.out.2.2.2.2.1 H.out.2.2.2.1 H.out.2.2.2.2.2.1).mono ?_; rintro e w' ⟨rfl, rfl⟩)
    | (go_at_call 65; refine (rSigned_x m x _ hm H.out.2.2.2.2.2.2.1).mono ?_; rintro e w' ⟨rfl, rfl⟩)
    | (go_at_call 84; refine (irRight_any _ _ _).mono ?_; rintro e w2 ⟨rfl, hb⟩; rw [H.out.2.2.2.2.2.2.2]; obtain ⟨d0, d1, hb2, hs2⟩ := boxed hb; have bk2 := BK.out.keep hb2 BK.out.lt; have hlt := BK.out.lt; clear hb c0 c1 f0 f1; have c0 := bk2.cell (j := 0) rfl; have c1 := bk2.cell (j := 1) rfl; have f0 := bk2.frozen 0; have f1 := bk2.frozen 1; have BK2 := hide bk2; have HB2 := hide (HB.out.trans (hb2.mono (Nat.le_of_lt hlt))); clear bk2 hb2))
  refine ret_ins (g := w.heap.size) rfl rfl rfl rfl ((BK2.out.set 0 (.int .i64 0)).set 1 (.int .i32 0)) rfl ?_
  exact ⟨rfl, below_set (below_set HB2.out (Nat.le_refl _) _) (Nat.le_refl _) _⟩
theorem rRead_ok (B : Nat) (A : Option Addr) (n c : Nat) (l : List UInt8) (a k q m : Nat) (x z : Int) (w : World) (hr : Row w B A n c (cs8 l)) (hB : B ≤ w.heap.size) (H : Hid (a < l.length ∧ opAt l a = (k : Int) ∧ wid (k : Int) = q ∧ a + 1 + q ≤ l.length ∧ (1 ≤ q ∧ q ≤ 8) ∧ leN ((l.drop (a + 1)).take q) = m ∧ wrap32 m = x ∧ rgtE (k : Int) x = z)) (hz : z = 0) (hk : k ≤ 255) (hq : 1 ≤ q) (ha : a ≤ 140737488351232) (hm : m ≤ 4294967295) (hq4 : q ≤ 4) :
    Calls Tryz.prog 98 #[.slice A n c, .int .i64 (a : Int)] w (Reads w k x ((a : Int) + 1 + (q : Int)) 0) := by
  subst hz
  have hn := hr.len
  rw [cs8_len] at hn
  subst hn
  obtain ⟨b, o, u, rfl, hb, hu, hcell⟩ := hr.get H.out.1
  rw [cs8_at H.out.1, ← opAt_nat H.out.1 H.out.2.1] at hu
  obtain rfl := Option.some.inj hu
  clear hu
  have hb1 := below_box w (.cells #[.int .i64 0, .int .i32 0] 56)
  have hcell1 := (hb1.cell (p := ⟨b, o + a, none⟩) (show b < w.heap.size by omega)).trans hcell
  have h1 : (a : Int) < (l.length : Int) := by have := H.out.1; omega
  have h2 : ¬ (l.length : Int) < (a : Int) := by have := H.out.1; omega
  have h3 : ((a : Int) == (l.length : Int)) = false := by rw [beq_eq_false_iff_ne]; omega
  have h4 : decide ((a : Int) < 0) = false := by simp
  have h5 : decide ((l.length : Int) < (a : Int)) = false := by simp; omega
  have hcap := hr.cap
  have hmx := hr.max
  unfold maxLen at hmx
  go_enter Tryz.func98, Tryz.ntmps98
  go_wp2_with fail
  have bk := Blk.new w 56 [.int .i64 0, .int .i32 0]
  replace hr := hr.keep hb1 hB
  clear hcell1 hcell
  generalize w.alloc (.cells #[.int .i64 0, .int .i32 0] 56) = w1 at bk hb1 hr ⊢
  have c0 := bk.cell (j := 0) rfl
  have c1 := bk.cell (j := 1) rfl
  have f0 := bk.frozen 0
  have f1 := bk.frozen 1
  have BK := hide bk
  have HB := hide hb1
  clear bk hb1
  refine (rWidth_q _ q _ H.out.2.2.1).mono ?_
  rintro e w' ⟨rfl, rfl⟩
  have hq0 : ((q : Int) == 0) = false := by rw [beq_eq_false_iff_ne]; omega
  go_wp2_with (first
    | (go_at_call 96; refine (rget_num B _ _ _ l a q m _ _ hr (by omega) H.out.2.2.2.2.1 H.out.2.2.2.1 H.out.2.2.2.2.2.1).mono ?_; rintro e w' ⟨rfl, rfl⟩)
    | (go_at_call 65; refine (rSigned_x m x _ hm H.out.2.2.2.2.2.2.1).mono ?_; rintro e w' ⟨rfl, rfl⟩)
    | (go_at_call 84; refine (irRight_any _ _ _).mono ?_; rintro e w2 ⟨rfl, hb⟩; rw [H.out.2.2.2.2.2.2.2]; obtain ⟨d0, d1, hb2, hs2⟩ := boxed hb; have bk2 := BK.out.keep hb2 BK.out.lt; have hlt := BK.out.lt; clear hb c0 c1 f0 f1; have c0 := bk2.cell (j := 0) rfl; have c1 := bk2.cell (j := 1) rfl; have f0 := bk2.frozen 0; have f1 := bk2.frozen 1; have BK2 := hide bk2; have HB2 := hide (HB.out.trans (hb2.mono (Nat.le_of_lt hlt))); clear bk2 hb2))
  refine ret_ins (g := w.heap.size) rfl rfl rfl rfl ((BK2.out.set 0 (.int .i64 (k : Int))).set 1 (.int .i32 x)) rfl ?_
  exact ⟨rfl, below_set (below_set HB2.out (Nat.le_refl _) _) (Nat.le_refl _) _⟩
theorem rRead_any (B : Nat) (A : Option Addr) (n c : Nat) (l : List UInt8) (a : Int) (w : World) (hr : Row w B A n c (cs8 l)) (hB : B ≤ w.heap.size) (hl : n ≤ 140737488351232) :
    Calls Tryz.prog 98 #[.slice A n c, .int .i64 a] w (Reads w (rdO l a) (rdX l a) (rdT l a) (rdE l a)) := by
  have hn := hr.len
  rw [cs8_len] at hn
  by_cases h0 : a < 0 ∨ (l.length : Int) < a
  · have he := rdE_out h0
    obtain ⟨b1, b2, b3⟩ := rd_bad (show rdE l a ≠ 0 by rw [he]; decide)
    rw [b1, b2, b3, he]
    by_cases h1 : a < 0
    · exact rRead_no1 A n c a w (by simpa using h1)
    · exact rRead_no2 A n c a w (by simpa using h1) (by simp; omega)
  · obtain ⟨a, rfl⟩ : ∃ k : Nat, a = (k : Int) := ⟨a.toNat, by omega⟩
    by_cases h1 : a = l.length
    · have he := rdE_end l
      rw [h1]
      obtain ⟨b1, b2, b3⟩ := rd_bad (show rdE l (l.length : Int) ≠ 0 by rw [he]; decide)
      rw [b1, b2, b3, he]
      exact rRead_end A n c _ w (by simp) (by simp; omega) (by rw [beq_iff_eq]; omega)
    · have h2 : a < l.length := by omega
      have hk := opAt_get h2
      have hk255 : l[a].toNat ≤ 255 := by have := l[a].toNat_lt; omega
      by_cases h3 : 1 ≤ opAt l a ∧ opAt l a ≤ 11
      · have hw1 := wid_pos h3
        have hw4 := wid_le (opAt l a)
        by_cases h4 : a + 1 + wid (opAt l a) ≤ l.length
        · have he := rdE_in (l := l) (a := a) (by omega) h4
          by_cases h5 : rgtE (opAt l a) (numAt l a) = 0
          · obtain ⟨b1, b2, b3⟩ := rd_ok (he.trans h5)
            rw [b1, b2, b3, he, h5, hk, show ((a + 1 + wid ((l[a].toNat : Nat) : Int) : Nat) : Int) = (a : Int) + 1 + (wid ((l[a].toNat : Nat) : Int) : Int) by omega]
            rw [hk] at h3 h4 h5 hw1 hw4
            exact rRead_ok B A n c l a l[a].toNat (wid (l[a].toNat : Int)) _ (numAt l a) 0 w hr hB (hide ⟨h2, hk, rfl, h4, ⟨hw1, by omega⟩, rfl, (num_eq (by rw [hk])).symm, h5⟩) rfl hk255 hw1 (by omega) (num_le hw4) hw4
          · obtain ⟨b1, b2, b3⟩ := rd_bad (show rdE l (a : Int) ≠ 0 by rw [he]; exact h5)
            rw [b1, b2, b3, he]
            rw [hk] at h3 h4 h5 hw1 hw4 ⊢
            exact rRead_bad B A n c l a l[a].toNat (wid (l[a].toNat : Int)) _ (numAt l a) _ w hr hB (hide ⟨h2, hk, rfl, h4, ⟨hw1, by omega⟩, rfl, (num_eq (by rw [hk])).symm, rfl⟩) (by simpa using h5) hk255 hw1 (by omega) (num_le hw4)
        · have he := rdE_short h2 (by omega) h4
          obtain ⟨b1, b2, b3⟩ := rd_bad (show rdE l (a : Int) ≠ 0 by rw [he]; decide)
          rw [b1, b2, b3, he]
          rw [hk] at h3 h4 hw1 hw4
          exact rRead_short B A n c l a l[a].toNat (wid (l[a].toNat : Int)) w hr hB (hide ⟨h2, hk, rfl, h4, hw1, by omega⟩) hk255 hw1 (by omega)
      · have he := rdE_op h2 (wid_out h3)
        obtain ⟨b1, b2, b3⟩ := rd_bad (show rdE l (a : Int) ≠ 0 by rw [he]; decide)
        rw [b1, b2, b3, he]
        rw [hk] at h3
        exact rRead_op B A n c l a l[a].toNat w hr hB (hide ⟨h2, hk, wid_out h3⟩) hk255
end Go.Proofs.YtdikiabjkmigdaaGreatDoor
