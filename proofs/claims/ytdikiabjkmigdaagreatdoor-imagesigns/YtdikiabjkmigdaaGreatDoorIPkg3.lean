/-
  Contracts: isa.Read, the reference's Read.
-/
import Derived.Test.YtdikiabjkmigdaaGreatDoorIMem
namespace Go.Proofs.YtdikiabjkmigdaaGreatDoor
set_option maxRecDepth 20000
open Go.RowKit
set_option maxHeartbeats 1000000

theorem cell_other (w : World) (g h i j : Nat) (v : Value) (hg : g < h) : (w.setCell ⟨g, i, none⟩ v).cell? ⟨h, j, none⟩ = w.cell? ⟨h, j, none⟩ := by
  apply World.cell?_setCell_other
  intro e
  injection e
  omega
theorem wrap_small {n : Int} (h0 : 0 ≤ n) (h1 : n ≤ 4611686018427387904) : IntKind.i64.wrap n = n := by
  simp [IntKind.wrap, IntKind.signed, IntKind.bits]; omega
theorem Signed_x (m : Nat) (x : Int) (w : World) (hm : m ≤ 4294967295) (h : wrap32 m = x) : Calls Tryz.prog 76 #[.int .u32 (m : Int)] w fun e w' => e = .returned (.int .i32 x) ∧ w = w' := by
  have := Signed_any (word m) w
  rw [show (word m).toNat = m by rw [word_toNat]; omega, h] at this
  exact this
theorem rSigned_x (m : Nat) (x : Int) (w : World) (hm : m ≤ 4294967295) (h : wrap32 m = x) : Calls Tryz.prog 65 #[.int .u32 (m : Int)] w fun e w' => e = .returned (.int .i32 x) ∧ w = w' := by
  have := rSigned_int (m : Int) w (by omega) (by omega)
  rw [h] at this
  exact this
theorem getN1 {l : List UInt8} {a : Nat} (h : a < l.length) : getE l.length (a : Int) 1 = 0 ∧ getN l (a : Int) 1 = l[a].toNat := by
  have e0 : getE l.length (a : Int) ((1 : Nat) : Int) = 0 := by rw [getE_nat ⟨by omega, by omega⟩ (by omega), if_pos (by omega)]
  refine ⟨e0, ?_⟩
  have e1 := getN_ok e0
  rw [drop_step l a h, List.take_succ_cons, List.take_zero, leN_one] at e1
  exact e1
theorem get_one (B : Nat) (A : Option Addr) (n c : Nat) (l : List UInt8) (a k : Nat) (w : World) (hr : Row w B A n c (cs8 l)) (ha : a < l.length) (hk : opAt l a = (k : Int)) :
    Calls Tryz.prog 44 #[.slice A n c, .int .i64 (a : Int), .int .i64 1] w fun e w' => e = .returned (.tuple #[.int .u64 (k : Int), .int .i64 0]) ∧ w = w' := by
  refine (Get_any B A n c l a 1 w hr).mono ?_
  rintro e w' ⟨rfl, rfl⟩
  obtain ⟨e0, e1⟩ := getN1 ha
  exact ⟨ret_get (by rw [e1, ← opAt_get ha, hk]) e0, rfl⟩
theorem get_bad (B : Nat) (A : Option Addr) (n c : Nat) (l : List UInt8) (a k : Int) (w : World) (hr : Row w B A n c (cs8 l)) (ha : getE l.length a 1 = k) (hk : k ≠ 0) :
    Calls Tryz.prog 44 #[.slice A n c, .int .i64 a, .int .i64 1] w fun e w' => e = .returned (.tuple #[.int .u64 0, .int .i64 k]) ∧ w = w' := by
  refine (Get_any B A n c l a 1 w hr).mono ?_
  rintro e w' ⟨rfl, rfl⟩
  exact ⟨ret_get (by rw [getN_bad (by rw [ha]; exact hk)]; rfl) ha, rfl⟩
theorem num_eq {l : List UInt8} {a q : Nat} (hq : wid (opAt l a) = q) : numAt l a = wrap32 (leN ((l.drop (a + 1)).take q)) := by unfold numAt; rw [hq]
theorem num_le {l : List UInt8} {a q : Nat} (hq : q ≤ 4) : leN ((l.drop (a + 1)).take q) ≤ 4294967295 := by
  have h1 := leN_lt ((l.drop (a + 1)).take q)
  have h2 : (256 : Nat) ^ ((l.drop (a + 1)).take q).length ≤ 256 ^ 4 := Nat.pow_le_pow_right (by omega) (by simp; omega)
  have h3 : (256 : Nat) ^ 4 = 4294967296 := by decide
  omega
theorem get_num (B : Nat) (A : Option Addr) (n c : Nat) (l : List UInt8) (a q m : Nat) (K : Int) (w : World) (hr : Row w B A n c (cs8 l)) (hK : K = ((a + 1 : Nat) : Int)) (hq : 1 ≤ q ∧ q ≤ 8) (ha : a + 1 + q ≤ l.length) (hm : leN ((l.drop (a + 1)).take q) = m) :
    Calls Tryz.prog 44 #[.slice A n c, .int .i64 K, .int .i64 (q : Int)] w fun e w' => e = .returned (.tuple #[.int .u64 (m : Int), .int .i64 0]) ∧ w = w' := by
  subst hK
  refine (Get_any B A n c l ((a + 1 : Nat) : Int) q w hr).mono ?_
  rintro e w' ⟨rfl, rfl⟩
  have e0 : getE l.length ((a + 1 : Nat) : Int) (q : Int) = 0 := by rw [getE_nat hq (by omega), if_pos ha]
  exact ⟨ret_get (by rw [getN_ok e0, hm]) e0, rfl⟩
theorem get_short (B : Nat) (A : Option Addr) (n c : Nat) (l : List UInt8) (a q : Nat) (K : Int) (w : World) (hr : Row w B A n c (cs8 l)) (hK : K = ((a + 1 : Nat) : Int)) (hq : 1 ≤ q ∧ q ≤ 8) (h1 : a < l.length) (ha : ¬ a + 1 + q ≤ l.length) :
    Calls Tryz.prog 44 #[.slice A n c, .int .i64 K, .int .i64 (q : Int)] w fun e w' => e = .returned (.tuple #[.int .u64 0, .int .i64 2]) ∧ w = w' := by
  subst hK
  refine (Get_any B A n c l ((a + 1 : Nat) : Int) q w hr).mono ?_
  rintro e w' ⟨rfl, rfl⟩
  have e0 : getE l.length ((a + 1 : Nat) : Int) (q : Int) = 2 := by rw [getE_nat hq (by omega), if_neg ha]
  exact ⟨ret_get (by rw [getN_bad (by rw [e0]; decide)]; rfl) e0, rfl⟩
theorem rget_num (B : Nat) (A : Option Addr) (n c : Nat) (l : List UInt8) (a q m : Nat) (K : Int) (w : World) (hr : Row w B A n c (cs8 l)) (hK : K = ((a + 1 : Nat) : Int)) (hq : 1 ≤ q ∧ q ≤ 8) (ha : a + 1 + q ≤ l.length) (hm : leN ((l.drop (a + 1)).take q) = m) :
    Calls Tryz.prog 96 #[.slice A n c, .int .i64 K, .int .i64 (q : Int)] w fun e w' => e = .returned (.tuple #[.int .u64 (m : Int), .int .i64 0]) ∧ w = w' := by
  subst hK
  refine (rGet_any B A n c l ((a + 1 : Nat) : Int) q w hr).mono ?_
  rintro e w' ⟨rfl, rfl⟩
  have e0 : getE l.length ((a + 1 : Nat) : Int) (q : Int) = 0 := by rw [getE_nat hq (by omega), if_pos ha]
  exact ⟨ret_get (by rw [getN_ok e0, hm]) e0, rfl⟩
theorem rget_short (B : Nat) (A : Option Addr) (n c : Nat) (l : List UInt8) (a q : Nat) (K : Int) (w : World) (hr : Row w B A n c (cs8 l)) (hK : K = ((a + 1 : Nat) : Int)) (hq : 1 ≤ q ∧ q ≤ 8) (h1 : a < l.length) (ha : ¬ a + 1 + q ≤ l.length) :
    Calls Tryz.prog 96 #[.slice A n c, .int .i64 K, .int .i64 (q : Int)] w fun e w' => e = .returned (.tuple #[.int .u64 0, .int .i64 2]) ∧ w = w' := by
  subst hK
  refine (rGet_any B A n c l ((a + 1 : Nat) : Int) q w hr).mono ?_
  rintro e w' ⟨rfl, rfl⟩
  have e0 : getE l.length ((a + 1 : Nat) : Int) (q : Int) = 2 := by rw [getE_nat hq (by omega), if_neg ha]
  exact ⟨ret_get (by rw [getN_bad (by rw [e0]; decide)]; rfl) e0, rfl⟩
theorem Read_no (B : Nat) (A : Option Addr) (n c : Nat) (l : List UInt8) (a k : Int) (w : World) (hr : Row w B A n c (cs8 l)) (hB : B ≤ w.heap.size) (H : Hid (getE l.length a 1 = k ∧ k ≠ 0)) (hk : (k != 0) = true) :
    Calls Tryz.prog 102 #[.slice A n c, .int .i64 a] w (Reads w 0 0 0 k) := by
  go_enter Tryz.func102, Tryz.ntmps102
  go_wp2_with fail
  have bk := Blk.new w 56 [.int .i64 0, .int .i32 0]
  have hb1 := below_box w (.cells #[.int .i64 0, .int .i32 0] 56)
  generalize w.alloc (.cells #[.int .i64 0, .int .i32 0] 56) = w1 at bk hb1 ⊢
  have c0 := bk.cell (j := 0) rfl
  have c1 := bk.cell (j := 1) rfl
  have f0 := bk.frozen 0
  have f1 := bk.frozen 1
  have BK := hide bk
  have HB := hide hb1
  replace hr := hr.keep hb1 hB
  clear bk hb1
  refine (get_bad B _ _ _ l _ k _ hr H.out.1 H.out.2).mono ?_
  rintro e w' ⟨rfl, rfl⟩
  go_wp2
  refine ret_ins (g := w.heap.size) rfl rfl rfl rfl ((BK.out.set 0 (.int .i64 0)).set 1 (.int .i32 0)) rfl ?_
  exact ⟨rfl, below_set (below_set HB.out (Nat.le_refl _) _) (Nat.le_refl _) _⟩
theorem Read_op (B : Nat) (A : Option Addr) (n c : Nat) (l : List UInt8) (a k : Nat) (w : World) (hr : Row w B A n c (cs8 l)) (hB : B ≤ w.heap.size) (H : Hid (a < l.length ∧ opAt l a = (k : Int) ∧ fmtV (k : Int) = 0)) (hk : k ≤ 255) :
    Calls Tryz.prog 102 #[.slice A n c, .int .i64 (a : Int)] w (Reads w 0 0 0 9) := by
  go_enter Tryz.func102, Tryz.ntmps102
  go_wp2_with fail
  have bk := Blk.new w 56 [.int .i64 0, .int .i32 0]
  have hb1 := below_box w (.cells #[.int .i64 0, .int .i32 0] 56)
  generalize w.alloc (.cells #[.int .i64 0, .int .i32 0] 56) = w1 at bk hb1 ⊢
  have c0 := bk.cell (j := 0) rfl
  have c1 := bk.cell (j := 1) rfl
  have f0 := bk.frozen 0
  have f1 := bk.frozen 1
  have BK := hide bk
  have HB := hide hb1
  replace hr := hr.keep hb1 hB
  clear bk hb1
  refine (get_one B _ _ _ l a k _ hr H.out.1 H.out.2.1).mono ?_
  rintro e w' ⟨rfl, rfl⟩
  go_wp2_with (go_at_call 101; refine (formatOf_f _ 0 _ H.out.2.2).mono ?_; rintro e w' ⟨rfl, rfl⟩)
  refine ret_ins (g := w.heap.size) rfl rfl rfl rfl ((BK.out.set 0 (.int .i64 0)).set 1 (.int .i32 0)) rfl ?_
  exact ⟨rfl, below_set (below_set HB.out (Nat.le_refl _) _) (Nat.le_refl _) _⟩
theorem Read_short (B : Nat) (A : Option Addr) (n c : Nat) (l : List UInt8) (a k q : Nat) (f : Int) (w : World) (hr : Row w B A n c (cs8 l)) (hB : B ≤ w.heap.size) (H : Hid (a < l.length ∧ opAt l a = (k : Int) ∧ fmtV (k : Int) = f ∧ wid (k : Int) = q ∧ (1 ≤ (k : Int) ∧ (k : Int) ≤ 11) ∧ ¬ a + 1 + q ≤ l.length ∧ 1 ≤ q ∧ q ≤ 8)) (hk : k ≤ 255) (hf : (f == 0) = false) (ha : a ≤ 140737488351232) :
    Calls Tryz.prog 102 #[.slice A n c, .int .i64 (a : Int)] w (Reads w 0 0 0 2) := by
  go_enter Tryz.func102, Tryz.ntmps102
  go_wp2_with fail
  have bk := Blk.new w 56 [.int .i64 0, .int .i32 0]
  have hb1 := below_box w (.cells #[.int .i64 0, .int .i32 0] 56)
  generalize w.alloc (.cells #[.int .i64 0, .int .i32 0] 56) = w1 at bk hb1 ⊢
  have c0 := bk.cell (j := 0) rfl
  have c1 := bk.cell (j := 1) rfl
  have f0 := bk.frozen 0
  have f1 := bk.frozen 1
  have BK := hide bk
  have HB := hide hb1
  replace hr := hr.keep hb1 hB
  clear bk hb1
  refine (get_one B _ _ _ l a k _ hr H.out.1 H.out.2.1).mono ?_
  rintro e w' ⟨rfl, rfl⟩
  go_wp2_with (first
    | (go_at_call 101; refine (formatOf_f _ f _ H.out.2.2.1).mono ?_; rintro e w' ⟨rfl, rfl⟩)
    | (go_at_call 100; refine (widthOf_q (k : Int) f q _ H.out.2.2.2.2.1 H.out.2.2.1 H.out.2.2.2.1).mono ?_; rintro e w' ⟨rfl, rfl⟩)
    | (go_at_call 44; refine (get_short B _ _ _ l a q _ _ hr (by omega) H.out.2.2.2.2.2.2 H.out.1 H.out.2.2.2.2.2.1).mono ?_; rintro e w' ⟨rfl, rfl⟩))
  refine ret_ins (g := w.heap.size) rfl rfl rfl rfl ((BK.out.set 0 (.int .i64 0)).set 1 (.int .i32 0)) rfl ?_
  exact ⟨rfl, below_set (below_set HB.out (Nat.le_refl _) _) (Nat.le_refl _) _⟩
theorem Read_bad (B : Nat) (A : Option Addr) (n c : Nat) (l : List UInt8) (a k q m : Nat) (f x z : Int) (w : World) (hr : Row w B A n c (cs8 l)) (hB : B ≤ w.heap.size) (H : Hid (a < l.length ∧ opAt l a = (k : Int) ∧ fmtV (k : Int) = f ∧ wid (k : Int) = q ∧ (1 ≤ (k : Int) ∧ (k : Int) ≤ 11) ∧ a + 1 + q ≤ l.length ∧ (1 ≤ q ∧ q ≤ 8) ∧ leN ((l.drop (a + 1)).take q) = m ∧ wrap32 m = x ∧ rgtE (k : Int) x = z)) (hz : (z != 0) = true) (hk : k ≤ 255) (hf : (f == 0) = false) (ha : a ≤ 140737488351232) (hm : m ≤ 4294967295) :
    Calls Tryz.prog 102 #[.slice A n c, .int .i64 (a : Int)] w (Reads w 0 0 0 z) := by
  go_enter Tryz.func102, Tryz.ntmps102
  go_wp2_with fail
  have bk := Blk.new w 56 [.int .i64 0, .int .i32 0]
  have hb1 := below_box w (.cells #[.int .i64 0, .int .i32 0] 56)
  generalize w.alloc (.cells #[.int .i64 0, .int .i32 0] 56) = w1 at bk hb1 ⊢
  have c0 := bk.cell (j := 0) rfl
  have c1 := bk.cell (j := 1) rfl
  have f0 := bk.frozen 0
  have f1 := bk.frozen 1
  have BK := hide bk
  have HB := hide hb1
  replace hr := hr.keep hb1 hB
  clear bk hb1
  refine (get_one B _ _ _ l a k _ hr H.out.1 H.out.2.1).mono ?_
  rintro e w' ⟨rfl, rfl⟩
  go_wp2_with (first
    | (go_at_call 101; refine (formatOf_f _ f _ H.out.2.2.1).mono ?_; rintro e w' ⟨rfl, rfl⟩)
    | (go_at_call 100; refine (widthOf_q (k : Int) f q _ H.out.2.2.2.2.1 H.out.2.2.1 H.out.2.2.2.1).mono ?_; rintro e w' ⟨rfl, rfl⟩)
    | (go_at_call 44; refine (get_num B _ _ _ l a q m _ _ hr (by omega) H.out.2.2.2.2.2.2.1 H.out.2.2.2.2.2.1 H.out.2.2.2.2.2.2.2.1).mono ?_; rintro e w' ⟨rfl, rfl⟩)
    | (go_at_call 76; refine (Signed_x m x _ hm H.out.2.2.2.2.2.2.2.2.1).mono ?_; rintro e w' ⟨rfl, rfl⟩)
    | (go_at_call 99; refine (iRight_any _ _ _).mono ?_; rintro e w2 ⟨rfl, hb⟩; rw [H.out.2.2.2.2.2.2.2.2.2]; obtain ⟨d0, d1, hb2, hs2⟩ := boxed hb; have bk2 := BK.out.keep hb2 BK.out.lt; have hlt := BK.out.lt; clear hb c0 c1 f0 f1; have c0 := bk2.cell (j := 0) rfl; have c1 := bk2.cell (j := 1) rfl; have f0 := bk2.frozen 0; have f1 := bk2.frozen 1; have BK2 := hide bk2; have HB2 := hide (HB.out.trans (hb2.mono (Nat.le_of_lt hlt))); clear bk2 hb2))
  refine ret_ins (g := w.heap.size) rfl rfl rfl rfl ((BK2.out.set 0 (.int .i64 0)).set 1 (.int .i32 0)) rfl ?_
  exact ⟨rfl, below_set (below_set HB2.out (Nat.le_refl _) _) (Nat.le_refl _) _⟩
theorem Read_ok (B : Nat) (A : Option Addr) (n c : Nat) (l : List UInt8) (a k q m : Nat) (f x z : Int) (w : World) (hr : Row w B A n c (cs8 l)) (hB : B ≤ w.heap.size) (H : Hid (a < l.length ∧ opAt l a = (k : Int) ∧ fmtV (k : Int) = f ∧ wid (k : Int) = q ∧ (1 ≤ (k : Int) ∧ (k : Int) ≤ 11) ∧ a + 1 + q ≤ l.length ∧ (1 ≤ q ∧ q ≤ 8) ∧ leN ((l.drop (a + 1)).take q) = m ∧ wrap32 m = x ∧ rgtE (k : Int) x = z)) (hz : z = 0) (hk : k ≤ 255) (hf : (f == 0) = false) (ha : a ≤ 140737488351232) (hm : m ≤ 4294967295) (hq4 : q ≤ 4) :
    Calls Tryz.prog 102 #[.slice A n c, .int .i64 (a : Int)] w (Reads w k x ((a : Int) + 1 + (q : Int)) 0) := by
  subst hz
  go_enter Tryz.func102, Tryz.ntmps102
  go_wp2_with fail
  have bk := Blk.new w 56 [.int .i64 0, .int .i32 0]
  have hb1 := below_box w (.cells #[.int .i64 0, .int .i32 0] 56)
  generalize w.alloc (.cells #[.int .i64 0, .int .i32 0] 56) = w1 at bk hb1 ⊢
  have c0 := bk.cell (j := 0) rfl
  have c1 := bk.cell (j := 1) rfl
  have f0 := bk.frozen 0
  have f1 := bk.frozen 1
  have BK := hide bk
  have HB := hide hb1
  replace hr := hr.keep hb1 hB
  clear bk hb1
  refine (get_one B _ _ _ l a k _ hr H.out.1 H.out.2.1).mono ?_
  rintro e w' ⟨rfl, rfl⟩
  go_wp2_with (first
    | (go_at_call 101; refine (formatOf_f _ f _ H.out.2.2.1).mono ?_; rintro e w' ⟨rfl, rfl⟩)
    | (go_at_call 100; refine (widthOf_q (k : Int) f q _ H.out.2.2.2.2.1 H.out.2.2.1 H.out.2.2.2.1).mono ?_; rintro e w' ⟨rfl, rfl⟩)
    | (go_at_call 44; refine (get_num B _ _ _ l a q m _ _ hr (by omega) H.out.2.2.2.2.2.2.1 H.out.2.2.2.2.2.1 H.out.2.2.2.2.2.2.2.1).mono ?_; rintro e w' ⟨rfl, rfl⟩)
    | (go_at_call 76; refine (Signed_x m x _ hm H.out.2.2.2.2.2.2.2.2.1).mono ?_; rintro e w' ⟨rfl, rfl⟩)
    | (go_at_call 99; refine (iRight_any _ _ _).mono ?_; rintro e w2 ⟨rfl, hb⟩; rw [H.out.2.2.2.2.2.2.2.2.2]; obtain ⟨d0, d1, hb2, hs2⟩ := boxed hb; have bk2 := BK.out.keep hb2 BK.out.lt; have hlt := BK.out.lt; clear hb c0 c1 f0 f1; have c0 := bk2.cell (j := 0) rfl; have c1 := bk2.cell (j := 1) rfl; have f0 := bk2.frozen 0; have f1 := bk2.frozen 1; have BK2 := hide bk2; have HB2 := hide (HB.out.trans (hb2.mono (Nat.le_of_lt hlt))); clear bk2 hb2))
  replace d0 : w2.drew.cell? ⟨w1.heap.size, 0, none⟩ = some (.int .i64 (k : Int)) := d0
  replace d1 : w2.drew.cell? ⟨w1.heap.size, 1, none⟩ = some (.int .i32 x) := d1
  replace c0 : w2.drew.cell? ⟨w.heap.size, 0, none⟩ = some (.int .i64 0) := c0
  replace c1 : w2.drew.cell? ⟨w.heap.size, 1, none⟩ = some (.int .i32 0) := c1
  replace f0 : w2.drew.frozen? ⟨w.heap.size, 0, none⟩ = false := f0
  replace f1 : w2.drew.frozen? ⟨w.heap.size, 1, none⟩ = false := f1
  have BK3 := hide BK2.out.drew
  have HB3 := hide HB2.out.drew
  have e0 : ((w2.drew.setCell ⟨w.heap.size, 0, none⟩ (.int .i64 (k : Int))).setCell ⟨w.heap.size, 1, none⟩ (.int .i32 x)).cell? ⟨w1.heap.size, 0, none⟩ = some (.int .i64 (k : Int)) := by
    rw [cell_other _ _ _ _ _ _ hlt, cell_other _ _ _ _ _ _ hlt]; exact d0
  have e1 : ((w2.drew.setCell ⟨w.heap.size, 0, none⟩ (.int .i64 (k : Int))).setCell ⟨w.heap.size, 1, none⟩ (.int .i32 x)).cell? ⟨w1.heap.size, 1, none⟩ = some (.int .i32 x) := by
    rw [cell_other _ _ _ _ _ _ hlt, cell_other _ _ _ _ _ _ hlt]; exact d1
  refine wp_region_held_drew (S := fun w' => w'.cell? ⟨w1.heap.size, 0, none⟩ = some (.int .i64 (k : Int)) ∧ w'.cell? ⟨w1.heap.size, 1, none⟩ = some (.int .i32 x)) (by kernel_rfl) ⟨d0, d1⟩ (fun hS0 => ?_)
  have hwa : IntKind.i64.wrap ((a : Int) + 1) = (a : Int) + 1 := wrap_small (by omega) (by omega)
  have hwq : IntKind.i64.wrap ((a : Int) + 1 + (q : Int)) = (a : Int) + 1 + (q : Int) := wrap_small (by omega) (by omega)
  clear BK2 HB2 BK HB
  generalize w2.drew = w4 at *
  refine wpAnyH_take (i := 0) (v := .agg #[.int .i64 (k : Int), .int .i32 x]) rfl (by kernel_rfl) (by kernel_rfl) (by kernel_rfl) (fun _ _ _ h => h) (Or.inl ⟨by rfl, fun w h => by have h9 := (show w.cell? ⟨w1.heap.size, 0, none⟩ = some (.int .i64 (k : Int)) ∧ w.cell? ⟨w1.heap.size, 1, none⟩ = some (.int .i32 x) from h); go_simp⟩) (by assumption) ?_
  simp only [List.getElem_toArray, List.getElem_cons_zero, Act.put, List.setIfInBounds_toArray, List.set_cons_zero, List.set_cons_succ]
  refine wpAnyH_take (i := 1) (v := .int .i64 (a : Int)) rfl (by kernel_rfl) (by kernel_rfl) (by kernel_rfl) (fun _ _ _ h => h) (Or.inl ⟨by rfl, fun w _ => by go_simp⟩) (by assumption) ?_
  simp only [List.getElem_toArray, List.getElem_cons_zero, List.getElem_cons_succ, Act.put, List.setIfInBounds_toArray, List.set_cons_zero, List.set_cons_succ]
  refine wpAnyH_take (i := 2) (v := .int .i64 ((a : Int) + 1)) rfl (by kernel_rfl) (by kernel_rfl) (by kernel_rfl) (fun _ _ _ h => h) (Or.inl ⟨by rfl, fun w _ => by go_simp⟩) (by assumption) ?_
  simp only [List.getElem_toArray, List.getElem_cons_zero, List.getElem_cons_succ, Act.put, List.setIfInBounds_toArray, List.set_cons_zero, List.set_cons_succ]
  refine wpAnyH_take (i := 3) (v := .int .i64 f) rfl (by kernel_rfl) (by kernel_rfl) (by kernel_rfl) (fun _ _ _ h => h) (Or.inl ⟨by rfl, fun w _ => by go_simp⟩) (by assumption) ?_
  simp only [List.getElem_toArray, List.getElem_cons_zero, List.getElem_cons_succ, Act.put, List.setIfInBounds_toArray, List.set_cons_zero, List.set_cons_succ]
  refine wpAnyH_ready (rs := [4]) (by kernel_rfl) (by simp) ?_
  refine AllReadyH.cons rfl (fun K hKK => ?_) AllReadyH.nil
  go_simp
  refine (widthOf_q (k : Int) f q _ H.out.2.2.2.2.1 H.out.2.2.1 H.out.2.2.2.1).mono ?_
  rintro e w' ⟨rfl, rfl⟩
  refine hKK.out _ _ (⟨d0, d1⟩) (fun hS4 => ?_)
  clear hKK
  refine wpAnyH_take (i := 5) (v := .int .i64 ((a : Int) + 1 + (q : Int))) rfl (by kernel_rfl) (by kernel_rfl) (by kernel_rfl) (fun _ _ _ h => h) (Or.inl ⟨by rfl, fun w _ => by go_simp⟩) (by assumption) ?_
  simp only [List.getElem_toArray, List.getElem_cons_zero, List.getElem_cons_succ, Act.put, List.setIfInBounds_toArray, List.set_cons_zero, List.set_cons_succ]
  refine wpAnyH_ready (rs := [6]) (by kernel_rfl) (by simp) ?_
  refine AllReadyH.cons rfl (fun K hKK => ?_) AllReadyH.nil
  go_simp
  refine hKK.out _ _ (⟨e0, e1⟩) (fun hS6 => ?_)
  clear hKK
  refine wpAnyH_take (i := 7) (v := .int .i64 ((a : Int) + 1 + (q : Int))) rfl (by kernel_rfl) (by kernel_rfl) (by kernel_rfl) (fun _ _ _ h => h) (Or.inl ⟨by rfl, fun w _ => by go_simp⟩) (by assumption) ?_
  simp only [List.getElem_toArray, List.getElem_cons_zero, List.getElem_cons_succ, Act.put, List.setIfInBounds_toArray, List.set_cons_zero, List.set_cons_succ]
  refine wpAnyH_take (i := 8) (v := .int .i64 0) rfl (by kernel_rfl) (by kernel_rfl) (by kernel_rfl) (fun _ _ _ h => h) (Or.inl ⟨by rfl, fun w _ => by go_simp⟩) (by assumption) ?_
  simp only [List.getElem_toArray, List.getElem_cons_zero, List.getElem_cons_succ, Act.put, List.setIfInBounds_toArray, List.set_cons_zero, List.set_cons_succ]
  refine wpAnyH_done (by kernel_rfl) ?_ _
  go_wp2
  refine ret_ins (g := w.heap.size) rfl rfl rfl rfl ((BK3.out.set 0 (.int .i64 (k : Int))).set 1 (.int .i32 x)) rfl ?_
  exact ⟨rfl, below_set (below_set HB3.out (Nat.le_refl _) _) (Nat.le_refl _) _⟩
theorem fmt_pos {o : Int} (h : 1 ≤ o ∧ o ≤ 11) : (fmtV o == 0) = false := by
  rcases (show o = 1 ∨ o = 2 ∨ o = 3 ∨ o = 4 ∨ o = 5 ∨ o = 6 ∨ o = 7 ∨ o = 8 ∨ o = 9 ∨ o = 10 ∨ o = 11 by omega) with rfl | rfl | rfl | rfl | rfl | rfl | rfl | rfl | rfl | rfl | rfl <;> decide
theorem fmt_zero {o : Int} (h : ¬ (1 ≤ o ∧ o ≤ 11)) : fmtV o = 0 := by unfold fmtV; rw [if_neg (by omega), if_neg (by omega), if_neg (by omega), if_neg (by omega), if_neg (by omega)]
theorem Read_any (B : Nat) (A : Option Addr) (n c : Nat) (l : List UInt8) (a : Int) (w : World) (hr : Row w B A n c (cs8 l)) (hB : B ≤ w.heap.size) (hl : n ≤ 140737488351232) :
    Calls Tryz.prog 102 #[.slice A n c, .int .i64 a] w (Reads w (rdO l a) (rdX l a) (rdT l a) (rdE l a)) := by
  have hn := hr.len
  rw [cs8_len] at hn
  by_cases h0 : a < 0 ∨ (l.length : Int) < a
  · have he := rdE_out h0
    obtain ⟨b1, b2, b3⟩ := rd_bad (show rdE l a ≠ 0 by rw [he]; decide)
    rw [b1, b2, b3, he]
    exact Read_no B A n c l a 1 w hr hB (hide ⟨getE_bad (by omega), by decide⟩) (by decide)
  · obtain ⟨a, rfl⟩ : ∃ k : Nat, a = (k : Int) := ⟨a.toNat, by omega⟩
    by_cases h1 : a = l.length
    · have he := rdE_end l
      rw [h1]
      obtain ⟨b1, b2, b3⟩ := rd_bad (show rdE l (l.length : Int) ≠ 0 by rw [he]; decide)
      rw [b1, b2, b3, he]
      exact Read_no B A n c l _ 2 w hr hB (hide ⟨by have := getE_nat (n := l.length) (a := l.length) (k := 1) ⟨by omega, by omega⟩ (Nat.le_refl _); rw [if_neg (by omega)] at this; exact this, by decide⟩) (by decide)
    · have h2 : a < l.length := by omega
      have hk := opAt_get h2
      have hk255 : l[a].toNat ≤ 255 := by have := l[a].toNat_lt; omega
      by_cases h3 : 1 ≤ opAt l a ∧ opAt l a ≤ 11
      · have hw1 := wid_pos h3
        have hw4 := wid_le (opAt l a)
        by_cases h4 : a + 1 + wid (opAt l a) ≤ l.length
        · have he := rdE_in (l := l) (a := a) (by omega) h4
          by_cases h5 : rgtE (opAt l a) (numAt l a) = 0
          · obtain ⟨b1, b2, b3⟩ := rd_ok (he.trans h5)
            rw [b1, b2, b3, he, h5, hk, show ((a + 1 + wid ((l[a].toNat : Nat) : Int) : Nat) : Int) = (a : Int) + 1 + (wid ((l[a].toNat : Nat) : Int) : Int) by omega]
            rw [hk] at h3 h4 h5 hw1 hw4
            exact Read_ok B A n c l a l[a].toNat (wid (l[a].toNat : Int)) _ (fmtV (l[a].toNat : Int)) (numAt l a) 0 w hr hB (hide ⟨h2, hk, rfl, rfl, h3, h4, ⟨hw1, by omega⟩, rfl, (num_eq (by rw [hk])).symm, h5⟩) rfl hk255 (fmt_pos h3) (by omega) (num_le hw4) hw4
          · obtain ⟨b1, b2, b3⟩ := rd_bad (show rdE l (a : Int) ≠ 0 by rw [he]; exact h5)
            rw [b1, b2, b3, he]
            rw [hk] at h3 h4 h5 hw1 hw4 ⊢
            exact Read_bad B A n c l a l[a].toNat (wid (l[a].toNat : Int)) _ (fmtV (l[a].toNat : Int)) (numAt l a) _ w hr hB (hide ⟨h2, hk, rfl, rfl, h3, h4, ⟨hw1, by omega⟩, rfl, (num_eq (by rw [hk])).symm, rfl⟩) (by simpa using h5) hk255 (fmt_pos h3) (by omega) (num_le hw4)
        · have he := rdE_short h2 (by omega) h4
          obtain ⟨b1, b2, b3⟩ := rd_bad (show rdE l (a : Int) ≠ 0 by rw [he]; decide)
          rw [b1, b2, b3, he]
          rw [hk] at h3 h4 hw1 hw4
          exact Read_short B A n c l a l[a].toNat (wid (l[a].toNat : Int)) (fmtV (l[a].toNat : Int)) w hr hB (hide ⟨h2, hk, rfl, rfl, h3, h4, hw1, by omega⟩) hk255 (fmt_pos h3) (by omega)
      · have he := rdE_op h2 (wid_out h3)
        obtain ⟨b1, b2, b3⟩ := rd_bad (show rdE l (a : Int) ≠ 0 by rw [he]; decide)
        rw [b1, b2, b3, he]
        rw [hk] at h3
        exact Read_op B A n c l a l[a].toNat w hr hB (hide ⟨h2, hk, fmt_zero h3⟩) hk255
end Go.Proofs.YtdikiabjkmigdaaGreatDoor
