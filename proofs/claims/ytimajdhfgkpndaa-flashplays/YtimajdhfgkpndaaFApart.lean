/-
  The walk of the law FlashApart.
-/
import Derived.Test.YtimajdhfgkpndaaFClears
namespace Go.Proofs.Ytimajdhfgkpndaa
open Go.RowKit
set_option maxHeartbeats 2000000

/-- The cells of something that is done. -/
def opC (o : Int × Int × UInt32) : List Value := [.int .i64 o.1, .int .i64 o.2.1, .int .u32 (o.2.2.toNat : Int)]
def opOk (o : Int × Int × UInt32) : Prop := -9223372036854775808 ≤ o.2.1 ∧ o.2.1 ≤ 9223372036854775807
theorem nU_twice (o v : UInt32) : nU (nU o v) v = nU o v := by
  unfold nU
  apply UInt32.eq_of_toBitVec_eq
  show (o.toBitVec &&& v.toBitVec) &&& v.toBitVec = o.toBitVec &&& v.toBitVec
  ext i hi
  simp
theorem proW_twice {ws : List UInt32} {k : Nat} (v : UInt32) : proW (proW ws k v ones32) k v ones32 = proW ws k v ones32 := by
  apply List.ext_getElem?
  intro i
  by_cases hi : i < ws.length
  · have hp : i < (proW ws k v ones32).length := by rw [proW_len]; exact hi
    have e1 : (proW ws k v ones32)[i] = if i = k then pw ws[i] v ones32 else ws[i] := by
      have := proW_get (k := k) v ones32 hi
      rw [List.getElem?_eq_getElem hp] at this; exact Option.some.inj this
    rw [proW_get v ones32 hp, proW_get v ones32 hi, e1]
    by_cases h : i = k
    · rw [if_pos h, if_pos h, pw_ones, pw_ones, nU_twice]
    · rw [if_neg h, if_neg h]
  · rw [List.getElem?_eq_none (by rw [proW_len, proW_len]; omega), List.getElem?_eq_none (by rw [proW_len]; omega)]
theorem apart_walk (A : Option Addr) (n c : Nat) (l : List UInt32) (oa ob : Int × Int × UInt32) (w : World) (hr : Row w w.heap.size A n c (cs32 l)) (_ha : opOk oa) (_hb : opOk ob) :
    Calls Try.prog 7 #[.slice A n c, .agg (opC oa).toArray, .agg (opC ob).toArray] w fun e w' => e = .returned (.bool true) ∧ Below w.heap.size w w' := by
  obtain ⟨ka, a, v⟩ := oa
  obtain ⟨kb, b, m⟩ := ob
  rw [show (opC (ka, a, v)).toArray = #[.int .i64 ka, .int .i64 a, .int .u32 (v.toNat : Int)] from rfl, show (opC (kb, b, m)).toArray = #[.int .i64 kb, .int .i64 b, .int .u32 (m.toNat : Int)] from rfl]
  obtain ⟨ws, hws⟩ : ∃ ws, ws = rowsL l 512 := ⟨_, rfl⟩
  have hlen : ws.length = 512 := by rw [hws]; exact rowsL_len l 512
  obtain ⟨k, hk⟩ : ∃ k, k = cntN a 512 := ⟨_, rfl⟩
  have hk5 : k < 512 := by rw [hk]; exact cntN_lt a (by omega)
  obtain ⟨q, hq⟩ : ∃ q, q = cntN b 2 := ⟨_, rfl⟩
  have hq2 : q < 2 := by rw [hq]; exact cntN_lt b (by omega)
  obtain ⟨W1, hW1⟩ : ∃ W1, W1 = proW ws k v ones32 := ⟨_, rfl⟩
  obtain ⟨W2, hW2⟩ : ∃ W2, W2 = eraW ws (256 * q) m := ⟨_, rfl⟩
  have hl1 : W1.length = 512 := by rw [hW1, proW_len]; exact hlen
  have P1 : Hid (proS (ofS ws) (k : Int) v = ⟨W1, true, 1, none⟩) := by
    rw [hW1]; exact (proS_on (s := ofS ws) (k := k) v rfl rfl (by show k < ws.length; omega)).1
  have P1e : Hid (proE (ofS ws) (k : Int) = 0) := (proS_on (s := ofS ws) (k := k) v rfl rfl (by show k < ws.length; omega)).2
  have P3 : Hid (proS ⟨W1, true, 1, none⟩ (k : Int) v = ⟨W1, true, 2, none⟩ ∧ proE ⟨W1, true, 1, none⟩ (k : Int) = 0) := by
    have := proS_on (s := ⟨W1, true, 1, none⟩) (k := k) v rfl rfl (by show k < W1.length; omega)
    have e : proW W1 k v ones32 = W1 := by rw [hW1]; exact proW_twice v
    rw [show (FS.mk W1 true 1 none).ws = W1 from rfl, e] at this
    exact this
  have P0 : Hid (cutS (ofS ws) 0 m = ⟨ws, true, 0, some (0, m)⟩) := rfl
  have p2 : eraS ⟨ws, true, 0, some (0, m)⟩ (q : Int) = ⟨W2, false, 0, none⟩ := by
    have hrr : refE true (q : Int) (ws.length / 256) = 0 := by unfold refE; rw [if_pos rfl, if_pos (by omega)]
    unfold eraS
    rw [if_pos hrr, opS_yes (x := m) rfl, Int.toNat_natCast, hW2]
  have P2 := hide p2
  have HW := hide hws
  have HC := hide hk
  have HCQ := hide hq
  have HL := hide hlen
  have L1 := hide hl1
  clear hws hk hlen hk5 hq hq2 hW1 hW2 hl1 p2 _ha _hb
  go_enter Try.func7, Try.ntmps7
  go_wp2_with fail
  have ba0 := (Blk.new w 30 [.int .i64 ka, .int .i64 a, .int .u32 (v.toNat : Int)]).alloc (.cells #[.int .i64 kb, .int .i64 b, .int .u32 (m.toNat : Int)] 30)
  have bb0 := Blk.new (w.alloc (.cells #[.int .i64 ka, .int .i64 a, .int .u32 (v.toNat : Int)] 30)) 30 [.int .i64 kb, .int .i64 b, .int .u32 (m.toNat : Int)]
  rw [show (w.alloc (.cells #[.int .i64 ka, .int .i64 a, .int .u32 (v.toNat : Int)] 30)).heap.size = w.heap.size + 1 by simp] at bb0
  have k0 := ((Keeps.refl [] w).alloc (.cells #[.int .i64 ka, .int .i64 a, .int .u32 (v.toNat : Int)] 30)).alloc (.cells #[.int .i64 kb, .int .i64 b, .int .u32 (m.toNat : Int)] 30)
  have hw0 : ((w.alloc (.cells #[.int .i64 ka, .int .i64 a, .int .u32 (v.toNat : Int)] 30)).alloc (.cells #[.int .i64 kb, .int .i64 b, .int .u32 (m.toNat : Int)] 30)).heap.size = w.heap.size + 2 := by simp
  generalize ((w.alloc (.cells #[.int .i64 ka, .int .i64 a, .int .u32 (v.toNat : Int)] 30)).alloc (.cells #[.int .i64 kb, .int .i64 b, .int .u32 (m.toNat : Int)] 30)) = w0 at ba0 bb0 k0 hw0 ⊢
  have hr0 := k0.row hr (Nat.le_refl _) (by simp)
  refine (rows_any _ _ _ l _ (hr0.more (by omega))).mono ?_
  rintro e w1 ⟨g1, h1, rfl, f1, k1, hg1, hh1⟩
  rw [← HW.out] at f1
  have ba1 := k1.blk ba0 (by simp)
  have bb1 := k1.blk bb0 (by simp)
  have s1 := k1.size
  have b1 := f1.lt
  have b2 := f1.lt2
  clear ba0 bb0 hr0
  go_wp2_with fail
  refine (Copy_any g1 h1 _ _ f1).mono ?_
  rintro e w2 ⟨g2, h2, rfl, f2, k2, hg2, hh2⟩
  have fa2 := k2.fl f1 (by simp) (by simp)
  have ba2 := k2.blk ba1 (by simp)
  have bb2 := k2.blk bb1 (by simp)
  have s2 := k2.size
  have b3 := f2.lt
  have b4 := f2.lt2
  have k02 : Keeps [] w w2 := (k0.trans k1 (by simp)).trans k2 (by simp)
  clear f1 ba1 bb1 k0 k1 k2
  go_wp2_with fail
  refine (Words_512 g1 h1 _ _ fa2 HL.out).mono ?_
  rintro e w3 ⟨x1, c1, rfl, o3, k3, hx1⟩
  have fa3 : Fl w3.drew g1 h1 _ := k3.drew.fl fa2 (by simp) (by simp)
  have fb3 : Fl w3.drew g2 h2 _ := k3.drew.fl f2 (by simp) (by simp)
  have ba3 : Blk w3.drew _ _ _ := k3.drew.blk ba2 (by simp)
  have bb3 : Blk w3.drew _ _ _ := k3.drew.blk bb2 (by simp)
  have o3d := o3.drew
  have s3 := k3.size
  have b5 := own_lt o3
  have k03 : Keeps [] w w3.drew := k02.trans k3.drew (by simp)
  have x31 := ba3.cell (j := 1) rfl
  have x32 := ba3.cell (j := 2) rfl
  have BA := hide ba3
  have BB := hide bb3
  have O3 := hide o3d
  clear fa2 f2 ba2 bb2 k02 k3 o3 o3d ba3 bb3
  go_wp2_with fail
  go_region_with (first
    | (go_at_call 27; refine (Count_512 _ _).mono ?_; rintro e w9 ⟨rfl, rfl⟩; rw [← HC.out])
    | (go_at_call 11; refine (Program_any g1 h1 _ (k : Int) v _ fa3 (by show 0 ≤ _; omega)).mono ?_; rintro e w4 ⟨rfl, fa4, k4⟩; rw [P1.out] at fa4))
  all_goals
    have fb4 := k4.fl fb3 (by simp; omega) (by simp; omega)
    have ba4 := k4.blk BA.out (by simp; omega)
    have bb4 := k4.blk BB.out (by simp; omega)
    have o4 := k4.own1 O3.out (by simp; omega)
    have k04 : Keeps [] w w4 := k03.trans k4 (by simp; omega)
    have s4 : w3.heap.size ≤ w4.heap.size := k4.size
    clear fa3 fb3 BA BB O3 k03 k4 x31 x32
    go_wp2_with fail
    refine (Words_512 g2 h2 _ _ fb4 HL.out).mono ?_
    rintro e w5 ⟨x2, c2, rfl, o5, k5, hx2⟩
    have fa5 := k5.fl fa4 (by simp) (by simp)
    have fb5 := k5.fl fb4 (by simp) (by simp)
    have ba5 := k5.blk ba4 (by simp)
    have bb5 := k5.blk bb4 (by simp)
    have o4b := k5.own1 o4 (by simp)
    have k05 : Keeps [] w w5 := k04.trans k5 (by simp)
    have s5 := k5.size
    clear fa4 fb4 ba4 bb4 o4 k04 k5
    go_wp2_with fail
    refine (Same_any _ _ _ _ _ _ _ _ ws _ (Row.of_own o5) (Row.of_own o4b)).mono ?_
    rintro e w6 ⟨d6, rfl, rfl⟩
    have fa6 := fa5.drewN d6
    have fb6 := fb5.drewN d6
    have ba6 := ba5.drewN d6
    have bb6 := bb5.drewN d6
    have k06 := k05.drewN d6
    have s6 : w5.heap.size = (w5.drewN d6).heap.size := rfl
    clear fa5 fb5 ba5 bb5 o4b o5 k05
    generalize w5.drewN d6 = w6 at fa6 fb6 ba6 bb6 k06 s6 ⊢
    go_wp2_with (first
      | (go_at_call 29; refine (On_any g2 h2 _ _ fb6).mono ?_; rintro e w9 ⟨rfl, rfl⟩)
      | (go_at_call 31; refine (Ops_any g2 h2 _ _ fb6).mono ?_; rintro e w9 ⟨rfl, rfl⟩))
    refine (Words_512 g1 h1 _ _ fa6 L1.out).mono ?_
    rintro e w7 ⟨x3, c3, rfl, o7, k7, hx3⟩
    have fa7 := k7.fl fa6 (by simp) (by simp)
    have fb7 := k7.fl fb6 (by simp) (by simp)
    have ba7 := k7.blk ba6 (by simp)
    have bb7 := k7.blk bb6 (by simp)
    have k07 : Keeps [] w w7 := k06.trans k7 (by simp)
    have x72 := bb7.cell (j := 2) rfl
    have s7 := k7.size
    clear fa6 fb6 ba6 bb6 k06 k7
    go_wp2_with fail
    refine (Cut_any g2 h2 _ 0 m _ fb7 (by omega)).mono ?_
    rintro e w8 ⟨rfl, fb8, k8⟩
    rw [P0.out] at fb8
    have fa8 := k8.fl fa7 (by simp; omega) (by simp; omega)
    have ba8 := k8.blk ba7 (by simp; omega)
    have bb8 := k8.blk bb7 (by simp; omega)
    have o8 := k8.own1 o7 (by simp; omega)
    have k08 : Keeps [] w w8 := k07.trans k8 (by simp; omega)
    have x81 := bb8.cell (j := 1) rfl
    have s8 := k8.size
    clear fa7 fb7 ba7 bb7 o7 k07 k8 x72
    go_wp2_with (go_at_call 27; refine (Count_2 _ _).mono ?_; rintro e w9 ⟨rfl, rfl⟩; rw [← HCQ.out])
    refine (Erase_any g2 h2 _ _ _ fb8 (by show 0 ≤ _; omega)).mono ?_
    rintro e w9 ⟨rfl, fb9, k9⟩
    rw [P2.out] at fb9
    have fa9 : Fl w9.drew g1 h1 _ := k9.drew.fl fa8 (by simp; omega) (by simp; omega)
    have fb9d : Fl w9.drew g2 h2 _ := (Keeps.refl [] w9).drew.fl fb9 (by simp) (by simp)
    have ba9 : Blk w9.drew _ _ _ := k9.drew.blk ba8 (by simp; omega)
    have o9 := (k9.own1 o8 (by simp; omega)).drew
    have k09 : Keeps [] w w9.drew := k08.trans k9.drew (by simp; omega)
    have x91 := ba9.cell (j := 1) rfl
    have x92 := ba9.cell (j := 2) rfl
    have s9 : w8.heap.size ≤ w9.heap.size := k9.size
    have O9 := hide o9
    have K9 := hide k09
    clear fa8 fb8 ba8 bb8 o8 k08 k9 x81 fb9 ba9 o9 k09
    go_wp2_with fail
    go_region_with (first
      | (go_at_call 27; refine (Count_512 _ _).mono ?_; rintro e w9 ⟨rfl, rfl⟩; rw [← HC.out])
      | (go_at_call 11; refine (Program_any g1 h1 _ (k : Int) v _ fa9 (by show 1 ≤ _; omega)).mono ?_; rintro e w10 ⟨rfl, fa10, k10⟩; rw [P3.out.1] at fa10; rw [P3.out.2]))
    all_goals
      have fb10 := k10.fl fb9d (by simp; omega) (by simp; omega)
      have o10 := k10.own1 O9.out (by simp; omega)
      have k010 : Keeps [] w w10 := K9.out.trans k10 (by simp; omega)
      clear fa9 fb9d O9 K9 k10 x91 x92
      go_wp2_with fail
      refine (Words_512 g1 h1 _ _ fa10 L1.out).mono ?_
      rintro e w11 ⟨x4, c4, rfl, o11, k11, hx4⟩
      have fa11 := k11.fl fa10 (by simp) (by simp)
      have fb11 := k11.fl fb10 (by simp) (by simp)
      have o10b := k11.own1 o10 (by simp)
      have k011 : Keeps [] w w11 := k010.trans k11 (by simp)
      clear fa10 fb10 o10 k010 k11
      go_wp2_with fail
      refine (Same_any _ _ _ _ _ _ _ _ W1 _ (Row.of_own o11) (Row.of_own o10b)).mono ?_
      rintro e w12 ⟨d12, rfl, rfl⟩
      have fa12 := fa11.drewN d12
      have fb12 := fb11.drewN d12
      have k012 := k011.drewN d12
      clear fa11 fb11 o10b o11 k011
      generalize w11.drewN d12 = w12 at fa12 fb12 k012 ⊢
      go_wp2_with fail
      refine (On_any g1 h1 _ _ fa12).mono ?_
      rintro e w13 ⟨rfl, rfl⟩
      go_wp2_with fail
      refine (On_any g2 h2 _ _ fb12).mono ?_
      rintro e w13 ⟨rfl, rfl⟩
      go_wp2_with fail
      refine (Ops_any g1 h1 _ _ fa12).mono ?_
      rintro e w13 ⟨rfl, rfl⟩
      go_wp2_with (go_at_call 23; refine (known_any _).mono ?_; rintro e w14 ⟨rfl, k14⟩)
      go_ret
      exact ⟨rfl, (k012.trans k14 (by simp)).back⟩
end Go.Proofs.Ytimajdhfgkpndaa
