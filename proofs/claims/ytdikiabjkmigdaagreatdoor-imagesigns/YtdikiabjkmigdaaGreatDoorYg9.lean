/-
  Contract of midstreamref11.Parse.
-/
import Derived.Test.YtdikiabjkmigdaaGreatDoorYg8
import Derived.Test.YtdikiabjkmigdaaGreatDoorYg6
import Derived.StillTailTactics
import Derived.BigQuiet
namespace Go.Proofs.YtdikiabjkmigdaaGreatDoor
open Go.RowKit
set_option maxRecDepth 20000
set_option maxHeartbeats 4000000

theorem rget_any (B a k v : Nat) (ai ki : Int) (A : Option Addr) (n c : Nat) (l : List UInt8) (w : World) (hr : Row w B A n c (cs8 l)) (hai : ai = (a : Int)) (hki : ki = (k : Int)) (hk : k ≤ 4) (hv : Hid (getN l (a : Int) (k : Int) = v)) :
    Calls Tryz.prog 63 #[.slice A n c, .int .i64 ai, .int .i64 ki] w fun e w' => e = .returned (.int .i64 (v : Int)) ∧ w = w' := by
  subst hai
  subst hki
  have hb := getN_lt l a k
  rw [hv.out] at hb
  have h4 : 256 ^ k ≤ 4294967296 := p256_le hk
  have hv4 : v ≤ 4294967296 := by omega
  clear hb h4
  obtain ⟨z, hz⟩ : ∃ z, getE l.length (a : Int) (k : Int) = z := ⟨_, rfl⟩
  have HZ := hide hz
  clear hz
  go_enter Tryz.func63, Tryz.ntmps63
  go_wp2_with fail
  refine (rGet_any B A n c l (a : Int) (k : Int) w hr).mono ?_
  rw [hv.out, HZ.out]
  rintro e w' ⟨rfl, rfl⟩
  go_wp2
  go_ret
  exact ⟨rfl, rfl⟩
theorem cell_kept {w : World} {q j : Nat} (o : Obj) (h : q < w.heap.size) : (w.alloc o).cell? ⟨q, j, none⟩ = w.cell? ⟨q, j, none⟩ :=
  (below_box w o).cell (p := ⟨q, j, none⟩) h
theorem Keeps.row8 {w w' : World} {B q n c : Nat} {A : Option Addr} {t : TypeId} {cs : List Value} {x : List UInt8} (k : Keeps [q] w w') (b : Blk w q t cs) (hcs : ∀ u ∈ cs, ∀ v, u ≠ Value.int .u8 v) (r : Row w B A n c (cs8 x)) (hB : B ≤ w.heap.size) : Row w' B A n c (cs8 x) := by
  refine ⟨r.len, r.cap, r.max, r.nil, fun hn => ?_⟩
  obtain ⟨g, o, rfl, hlt, hc⟩ := r.cells hn
  have hl := r.len
  rw [cs8_len] at hl
  have h1 := hc 0 _ (cs8_at (by omega))
  have he : g ≠ q := by
    rintro rfl
    rw [cell_of_row w g _ _ _ (0, 0) b] at h1
    simp at h1
    exact hcs _ (List.mem_of_getElem? h1) _ rfl
  exact ⟨g, o, rfl, hlt, fun j u hu => (cell_same (k.block g (by omega) (by simpa using he))).trans (hc j u hu)⟩
theorem Keeps.thenB {S : List Nat} {w w1 w2 : World} (k : Keeps S w w1) (hb : Below w.heap.size w1 w2) : Keeps S w w2 :=
  ⟨hb.os.trans k.os, hb.tape.trans k.tape, hb.output.trans k.output, Nat.le_trans k.size hb.size, fun i hi hS => (hb.block i hi).trans (k.block i hi hS)⟩
/-- An image alone, of new memory. -/
def GivesM1 (w : World) (m : Im) (e : Ending) (w' : World) : Prop :=
  ∃ K : IV, e = .returned (.agg #[.int .u32 K.v, .int .u32 K.f, .int .i64 K.e, .int .i64 K.s, .int .i64 K.o, .int .i64 K.n, .int .i64 K.i, .int .i64 K.u, .slice K.fA K.fn K.fc, .slice K.sA K.sn K.sc, .slice K.mA K.mn K.mc, .int .i64 K.x, .int .i64 K.y]) ∧ K.m = m ∧ w'.ownsRow w.heap.size 21 1 (.slice K.fA K.fn K.fc) K.fn (c32 K.fs) ∧ w'.ownsRow w.heap.size 56 2 (.slice K.sA K.sn K.sc) K.sn (csI K.st) ∧ w'.ownsRow w.heap.size 56 2 (.slice K.mA K.mn K.mc) K.mn (csI K.mv) ∧ Below w.heap.size w w'
theorem Read11_any (B : Nat) (A : Option Addr) (n c : Nat) (l : List UInt8) (w : World) (hr : Row w B A n c (cs8 l)) (hB : B ≤ w.heap.size) (hn : n ≤ 100000) :
    Calls Tryz.prog 35 #[.slice A n c] w (GivesM1 w (rdM l)) := by
  have hlen := hr.len
  rw [cs8_len] at hlen
  have HLEN := hide hlen
  clear hlen
  obtain ⟨v1, hv1⟩ : ∃ v, getN l 4 4 = v := ⟨_, rfl⟩
  have bv1 : v1 ≤ 4294967295 := by have := getN_lt l 4 4; rw [show getN l ((4 : Nat) : Int) ((4 : Nat) : Int) = v1 from hv1] at this; omega
  have Hv1 := hide hv1
  clear hv1
  obtain ⟨v2, hv2⟩ : ∃ v, getN l 8 4 = v := ⟨_, rfl⟩
  have bv2 : v2 ≤ 4294967295 := by have := getN_lt l 8 4; rw [show getN l ((8 : Nat) : Int) ((4 : Nat) : Int) = v2 from hv2] at this; omega
  have Hv2 := hide hv2
  clear hv2
  obtain ⟨v3, hv3⟩ : ∃ v, getN l 12 1 = v := ⟨_, rfl⟩
  have bv3 : v3 ≤ 255 := by have := getN_lt l 12 1; rw [show getN l ((12 : Nat) : Int) ((1 : Nat) : Int) = v3 from hv3] at this; omega
  have Hv3 := hide hv3
  clear hv3
  obtain ⟨v4, hv4⟩ : ∃ v, getN l 13 1 = v := ⟨_, rfl⟩
  have bv4 : v4 ≤ 255 := by have := getN_lt l 13 1; rw [show getN l ((13 : Nat) : Int) ((1 : Nat) : Int) = v4 from hv4] at this; omega
  have Hv4 := hide hv4
  clear hv4
  obtain ⟨v5, hv5⟩ : ∃ v, getN l 14 1 = v := ⟨_, rfl⟩
  have bv5 : v5 ≤ 255 := by have := getN_lt l 14 1; rw [show getN l ((14 : Nat) : Int) ((1 : Nat) : Int) = v5 from hv5] at this; omega
  have Hv5 := hide hv5
  clear hv5
  obtain ⟨v6, hv6⟩ : ∃ v, getN l 15 1 = v := ⟨_, rfl⟩
  have bv6 : v6 ≤ 255 := by have := getN_lt l 15 1; rw [show getN l ((15 : Nat) : Int) ((1 : Nat) : Int) = v6 from hv6] at this; omega
  have Hv6 := hide hv6
  clear hv6
  obtain ⟨v7, hv7⟩ : ∃ v, getN l 16 1 = v := ⟨_, rfl⟩
  have bv7 : v7 ≤ 255 := by have := getN_lt l 16 1; rw [show getN l ((16 : Nat) : Int) ((1 : Nat) : Int) = v7 from hv7] at this; omega
  have Hv7 := hide hv7
  clear hv7
  obtain ⟨v8, hv8⟩ : ∃ v, getN l 17 2 = v := ⟨_, rfl⟩
  have bv8 : v8 ≤ 65535 := by have := getN_lt l 17 2; rw [show getN l ((17 : Nat) : Int) ((2 : Nat) : Int) = v8 from hv8] at this; omega
  have Hv8 := hide hv8
  clear hv8
  obtain ⟨v9, hv9⟩ : ∃ v, getN l 19 2 = v := ⟨_, rfl⟩
  have bv9 : v9 ≤ 65535 := by have := getN_lt l 19 2; rw [show getN l ((19 : Nat) : Int) ((2 : Nat) : Int) = v9 from hv9] at this; omega
  have Hv9 := hide hv9
  clear hv9
  go_enter Tryz.func35, Tryz.ntmps35
  have hrK := fun (o o2 : Obj) => hr.keep (two_below w o o2) hB
  have HRK := hide hrK
  clear hrK
  go_wp2_with fail
  refine (rget_any B 4 4 v1 _ _ A n c l _ (HRK.out _ _) rfl rfl (by omega) Hv1).mono ?_
  rintro e' w' ⟨rfl, rfl⟩
  go_wp2_with fail
  refine (rget_any B 8 4 v2 _ _ A n c l _ (HRK.out _ _) rfl rfl (by omega) Hv2).mono ?_
  rintro e' w' ⟨rfl, rfl⟩
  go_wp2_with fail
  refine (rget_any B 12 1 v3 _ _ A n c l _ (HRK.out _ _) rfl rfl (by omega) Hv3).mono ?_
  rintro e' w' ⟨rfl, rfl⟩
  go_wp2_with fail
  refine (rget_any B 13 1 v4 _ _ A n c l _ (HRK.out _ _) rfl rfl (by omega) Hv4).mono ?_
  rintro e' w' ⟨rfl, rfl⟩
  go_wp2_with fail
  refine (rget_any B 14 1 v5 _ _ A n c l _ (HRK.out _ _) rfl rfl (by omega) Hv5).mono ?_
  rintro e' w' ⟨rfl, rfl⟩
  go_wp2_with fail
  refine (rget_any B 14 1 v5 _ _ A n c l _ (HRK.out _ _) rfl rfl (by omega) Hv5).mono ?_
  rintro e' w' ⟨rfl, rfl⟩
  go_wp2_with fail
  refine (rget_any B 15 1 v6 _ _ A n c l _ (HRK.out _ _) rfl rfl (by omega) Hv6).mono ?_
  rintro e' w' ⟨rfl, rfl⟩
  go_wp2_with fail
  refine (rget_any B 16 1 v7 _ _ A n c l _ (HRK.out _ _) rfl rfl (by omega) Hv7).mono ?_
  rintro e' w' ⟨rfl, rfl⟩
  go_wp2_with fail
  refine (rget_any B 17 2 v8 _ _ A n c l _ (HRK.out _ _) rfl rfl (by omega) Hv8).mono ?_
  rintro e' w' ⟨rfl, rfl⟩
  go_wp2_with fail
  refine (rget_any B 19 2 v9 _ _ A n c l _ (HRK.out _ _) rfl rfl (by omega) Hv9).mono ?_
  rintro e' w' ⟨rfl, rfl⟩
  go_wp2_with fail
  have hb0 := two_below w (.cells #[.int .u32 0, .int .u32 0, .int .i64 0, .int .i64 0, .int .i64 0, .int .i64 0, .int .i64 0, .int .i64 0, .slice none 0 0, .slice none 0 0, .slice none 0 0, .int .i64 0, .int .i64 0] 28) (.cells #[.int .u32 (v1 : Int), .int .u32 (v2 : Int), .int .i64 (v3 : Int), .int .i64 (v4 : Int), .int .i64 (v5 : Int), .int .i64 (v5 : Int), .int .i64 (v6 : Int), .int .i64 (v7 : Int), .slice none 0 0, .slice none 0 0, .slice none 0 0, .int .i64 (v8 : Int), .int .i64 (v9 : Int)] 28)
  have bM := img_two w (.cells #[.int .u32 0, .int .u32 0, .int .i64 0, .int .i64 0, .int .i64 0, .int .i64 0, .int .i64 0, .int .i64 0, .slice none 0 0, .slice none 0 0, .slice none 0 0, .int .i64 0, .int .i64 0] 28) [.int .u32 (v1 : Int), .int .u32 (v2 : Int), .int .i64 (v3 : Int), .int .i64 (v4 : Int), .int .i64 (v5 : Int), .int .i64 (v5 : Int), .int .i64 (v6 : Int), .int .i64 (v7 : Int), .slice none 0 0, .slice none 0 0, .slice none 0 0, .int .i64 (v8 : Int), .int .i64 (v9 : Int)]
  have bZ := (Blk.new w 28 [.int .u32 0, .int .u32 0, .int .i64 0, .int .i64 0, .int .i64 0, .int .i64 0, .int .i64 0, .int .i64 0, .slice none 0 0, .slice none 0 0, .slice none 0 0, .int .i64 0, .int .i64 0]).alloc (.cells #[.int .u32 (v1 : Int), .int .u32 (v2 : Int), .int .i64 (v3 : Int), .int .i64 (v4 : Int), .int .i64 (v5 : Int), .int .i64 (v5 : Int), .int .i64 (v6 : Int), .int .i64 (v7 : Int), .slice none 0 0, .slice none 0 0, .slice none 0 0, .int .i64 (v8 : Int), .int .i64 (v9 : Int)] 28)
  have hr1 := HRK.out (.cells #[.int .u32 0, .int .u32 0, .int .i64 0, .int .i64 0, .int .i64 0, .int .i64 0, .int .i64 0, .int .i64 0, .slice none 0 0, .slice none 0 0, .slice none 0 0, .int .i64 0, .int .i64 0] 28) (.cells #[.int .u32 (v1 : Int), .int .u32 (v2 : Int), .int .i64 (v3 : Int), .int .i64 (v4 : Int), .int .i64 (v5 : Int), .int .i64 (v5 : Int), .int .i64 (v6 : Int), .int .i64 (v7 : Int), .slice none 0 0, .slice none 0 0, .slice none 0 0, .int .i64 (v8 : Int), .int .i64 (v9 : Int)] 28)
  generalize (w.alloc (.cells #[.int .u32 0, .int .u32 0, .int .i64 0, .int .i64 0, .int .i64 0, .int .i64 0, .int .i64 0, .int .i64 0, .slice none 0 0, .slice none 0 0, .slice none 0 0, .int .i64 0, .int .i64 0] 28)).alloc (.cells #[.int .u32 (v1 : Int), .int .u32 (v2 : Int), .int .i64 (v3 : Int), .int .i64 (v4 : Int), .int .i64 (v5 : Int), .int .i64 (v5 : Int), .int .i64 (v6 : Int), .int .i64 (v7 : Int), .slice none 0 0, .slice none 0 0, .slice none 0 0, .int .i64 (v8 : Int), .int .i64 (v9 : Int)] 28) = w1 at hb0 bM bZ hr1 ⊢
  clear HRK
  have hs1 := hb0.size
  have lM1 := bM.lt
  obtain ⟨t1, ht1⟩ : ∃ t, grT l 21 = t := ⟨_, rfl⟩
  obtain ⟨x1, hx1⟩ : ∃ x, grL l 21 = x := ⟨_, rfl⟩
  obtain ⟨t2, ht2⟩ : ∃ t, grT l t1 = t := ⟨_, rfl⟩
  obtain ⟨x2, hx2⟩ : ∃ x, grL l t1 = x := ⟨_, rfl⟩
  obtain ⟨x3, hx3⟩ : ∃ x, grL l t2 = x := ⟨_, rfl⟩
  have lx1 := grL_len l 21
  have lx2 := grL_len l t1
  have lx3 := grL_len l t2
  rw [hx1] at lx1
  rw [hx2] at lx2
  rw [hx3] at lx3
  have hn' : n ≤ 1099511627776 := by omega
  refine (rGetRun_any B A n c l 21 w1 hr1 (Nat.le_trans hB hs1) hn').mono ?_
  rw [hx1, ht1]
  rintro e' w2 ⟨A1, n1, c1, rfl, o1, q1⟩
  have HT := hide (And.intro ht1 (And.intro hx1 (And.intro ht2 (And.intro hx2 hx3))))
  have HLX := hide (And.intro lx1 (And.intro lx2 lx3))
  clear ht1 hx1 ht2 hx2 hx3 lx1 lx2 lx3
  have hr2 := hr1.keep q1 (Nat.le_trans hB hs1)
  have y1 := Row.of_own o1
  have bM2 := bM.keep q1 bM.lt
  have bZ2 := bZ.keep q1 bZ.lt
  have hb2 := hb0.trans (q1.mono hs1)
  have hs2 := hb2.size
  have lM2 := bM2.lt
  clear hr1 o1 q1 bM bZ hb0
  generalize grE l 21 = e21
  go_wp2_with fail
  refine (rGetRun_any B A n c l t1 w2 hr2 (Nat.le_trans hB hs2) hn').mono ?_
  rw [HT.out.2.2.2.1, HT.out.2.2.1]
  rintro e' w3 ⟨A2, n2, c2, rfl, o2, q2⟩
  have hr3 := hr2.keep q2 (Nat.le_trans hB hs2)
  have y1b := (y1.keep q2 (Nat.le_refl _)).more q2.size
  have y2 := Row.of_own o2
  have bM3 := bM2.keep q2 bM2.lt
  have bZ3 := bZ2.keep q2 bZ2.lt
  have hb3 := hb2.trans (q2.mono hs2)
  have hs3 := hb3.size
  have lM3 := bM3.lt
  clear hr2 o2 q2 bM2 bZ2 hb2 y1
  generalize grE l t1 = et1
  go_wp2_with fail
  refine (rGetRun_any B A n c l t2 w3 hr3 (Nat.le_trans hB hs3) hn').mono ?_
  rw [HT.out.2.2.2.2]
  rintro e' w4 ⟨A3, n3, c3, rfl, o3, q3⟩
  have z1_ := (y1b.keep q3 (Nat.le_refl _)).more q3.size
  have z2_ := (y2.keep q3 (Nat.le_refl _)).more q3.size
  have z3_ := Row.of_own o3
  have bM4 := bM3.keep q3 bM3.lt
  have bZ4 := bZ3.keep q3 bZ3.lt
  have hb4 := hb3.trans (q3.mono hs3)
  have hs4 := hb4.size
  have lM4 := bM4.lt
  clear hr3 o3 q3 bM3 bZ3 hb3 y1b y2
  generalize grT l t2 = t3
  generalize grE l t2 = et2
  have hl1 := z1_.len
  have hl2 := z2_.len
  have hl3 := z3_.len
  rw [cs8_len] at hl1 hl2 hl3
  have HL := hide (And.intro hl1 (And.intro hl2 hl3))
  have m1 : n1 ≤ 100000 := by have := HLX.out; have := HLEN.out; omega
  have m2 : n2 ≤ 100000 := by have := HLX.out; have := HLEN.out; omega
  have m3 : n3 ≤ 100000 := by have := HLX.out; have := HLEN.out; omega
  have R4 := hide (And.intro z1_ (And.intro z2_ (And.intro z3_ (And.intro bM4 (And.intro bZ4 hb4)))))
  clear hl1 hl2 hl3 z1_ z2_ z3_ bM4 bZ4 hb4 hr
  obtain ⟨i0, hi, hz0, hz1, hz2⟩ := info_parts infoN
  go_wp2_with fail
  go_loopw [13] (fun i wr => ∃ (j : Nat) (A' : Option Addr) (n' c' : Nat), j ≤ n1 / 4 ∧ i = .int .i64 ((4 * j : Nat) : Int) ∧ Blk wr (w.heap.size + 1) 28 [.int .u32 (v1 : Int), .int .u32 (v2 : Int), .int .i64 (v3 : Int), .int .i64 (v4 : Int), .int .i64 (v5 : Int), .int .i64 (v5 : Int), .int .i64 (v6 : Int), .int .i64 (v7 : Int), .slice A' n' c', .slice none 0 0, .slice none 0 0, .int .i64 (v8 : Int), .int .i64 (v9 : Int)] ∧ wr.ownsRow w4.heap.size 21 1 (.slice A' n' c') n' (c32 (fvW (wordsK x1 j))) ∧ Keeps [w.heap.size + 1] w4 wr) (fun i _ => n1 - (intOf i).toNat)
  case atStart => exact ⟨0, none, 0, 0, Nat.zero_le _, rfl, R4.out.2.2.2.1, World.ownsRow_nil _ _ _ _, Keeps.refl _ _⟩
  case round =>
    obtain ⟨j, A', n', c', hj, rfl, bM5, ow, kp⟩ := hrel
    have hnl := ownN_len ow
    simp only [fvW, List.length_map, wordsK_len] at hnl
    have hn5 : n' ≤ 100000 := by omega
    clear hnl
    have kM := bM5.cell (j := 8) rfl
    have fM := bM5.frozen 8
    have lM := bM5.lt
    have wsz := kp.size
    by_cases hlt : 4 * j + 4 ≤ n1
    · have hd : decide ((4 * (j : Int)) + 4 ≤ (n1 : Int)) = true := by simp; omega
      go_wp2_with fail
      obtain ⟨pv, hpv⟩ : ∃ v, getN x1 ((4 * j : Nat) : Int) ((4 : Nat) : Int) = v := ⟨_, rfl⟩
      have hp4 := getN_lt x1 (4 * j) 4
      rw [hpv] at hp4
      replace hp4 : pv ≤ 4294967295 := by omega
      obtain ⟨xv, hxv⟩ : ∃ x, wrap32 (pv : Int) = x := ⟨_, rfl⟩
      have HE := hide (show c32 (fvW (wordsK x1 (j + 1))) = c32 (fvW (wordsK x1 j)) ++ [.int .i32 xv] by
        rw [wordsK_succ, grp_full x1 j (by rw [HL.out.1]; omega)]
        have e1 : getN x1 ((4 * j : Nat) : Int) ((4 : Nat) : Int) = leN ((x1.drop (4 * j)).take 4) := getN_ok (by have := getE_lit (b := x1) (a := 4 * j) (k := 4) (by omega) (by rw [HL.out.1]; omega); exact this)
        rw [← e1, hpv]
        have e2 : (word pv).toNat = pv := by rw [word_toNat]; omega
        simp only [fvW, c32, List.map_append, List.map_cons, List.map_nil]
        rw [e2, hxv])
      have HP := hide hpv
      have HXV := hide hxv
      have row1 := Keeps.row8 kp R4.out.2.2.2.1 img_no R4.out.1 (Nat.le_refl _)
      have rowD := row1.of_drew
      have bMd := bM5.drew
      have kMd := bMd.cell (j := 8) rfl
      have lMd := bMd.lt
      have owd := own_drew ow
      have wszd : w4.heap.size ≤ wr.drew.heap.size := wsz
      have HBM := hide bMd
      clear hpv hxv row1 bM5 bMd kM fM lM ow
      have hwp : IntKind.u32.wrap (pv : Int) = (pv : Int) := by simp [IntKind.wrap, IntKind.signed, IntKind.bits]; omega
      have kpd := kp.drew
      clear kp wsz
      refine wp_region_held_drew (S := fun _ => True) (by kernel_rfl) trivial (fun hS0 => ?_)
      generalize wr.drew = w5 at *
      refine wpAnyH_take (i := 0) (v := .pointer (some ⟨w.heap.size + 1, 8, none⟩)) rfl (by kernel_rfl) (by kernel_rfl) (by kernel_rfl) (fun _ _ _ h => h) (Or.inl ⟨by rfl, fun w _ => by go_simp⟩) (by assumption) ?_
      simp only [List.getElem_toArray, List.getElem_cons_zero, Act.put, List.setIfInBounds_toArray, List.set_cons_zero, List.set_cons_succ]
      refine wpAnyH_take (i := 2) (v := .slice A1 n1 c1) rfl (by kernel_rfl) (by kernel_rfl) (by kernel_rfl) (fun _ _ _ h => h) (Or.inl ⟨by rfl, fun w _ => by go_simp⟩) (by assumption) ?_
      simp only [List.getElem_toArray, List.getElem_cons_zero, List.getElem_cons_succ, Act.put, List.setIfInBounds_toArray, List.set_cons_zero, List.set_cons_succ]
      refine wpAnyH_take (i := 3) (v := .int .i64 ((4 * j : Nat) : Int)) rfl (by kernel_rfl) (by kernel_rfl) (by kernel_rfl) (fun _ _ _ h => h) (Or.inl ⟨by rfl, fun w _ => by go_simp⟩) (by assumption) ?_
      simp only [List.getElem_toArray, List.getElem_cons_zero, List.getElem_cons_succ, Act.put, List.setIfInBounds_toArray, List.set_cons_zero, List.set_cons_succ]
      refine wpAnyH_ready (rs := [1, 4]) (by kernel_rfl) (by simp) ?_
      refine (AllReadyH.cons rfl (fun K hKK => ?_) (AllReadyH.cons rfl (fun K hKK => ?_) AllReadyH.nil))
      · go_simp
        refine hKK.out _ _ trivial (fun hS1 => ?_)
        clear hKK
        refine wpAnyH_ready (rs := [4]) (by kernel_rfl) (by simp) ?_
        refine (AllReadyH.cons rfl (fun K hKK => ?_) AllReadyH.nil)
        go_simp
        refine (rget_any w4.heap.size (4 * j) 4 pv _ _ A1 n1 c1 x1 _ rowD rfl rfl (by omega) HP).mono ?_
        rintro e' w' ⟨rfl, rfl⟩
        refine hKK.out _ _ trivial (fun hS4 => ?_)
        clear hKK
        refine wpAnyH_take (i := 5) (v := .int .u32 (pv : Int)) rfl (by kernel_rfl) (by kernel_rfl) (by kernel_rfl) (fun _ _ _ h => h) (Or.inl ⟨by rfl, fun w _ => by go_simp⟩) (by assumption) ?_
        simp only [List.getElem_toArray, List.getElem_cons_zero, List.getElem_cons_succ, Act.put, List.setIfInBounds_toArray, List.set_cons_zero, List.set_cons_succ]
        refine wpAnyH_ready (rs := [6]) (by kernel_rfl) (by simp) ?_
        refine (AllReadyH.cons rfl (fun K hKK => ?_) AllReadyH.nil)
        go_simp
        refine (rSigned_x pv xv _ hp4 HXV.out).mono ?_
        rintro e' w' ⟨rfl, rfl⟩
        refine hKK.out _ _ trivial (fun hS6 => ?_)
        clear hKK
        refine wpAnyH_ready (rs := [7]) (by kernel_rfl) (by simp) ?_
        refine (AllReadyH.cons rfl (fun K hKK => ?_) AllReadyH.nil)
        go_simp
        refine hKK.out _ _ trivial (fun hS7 => ?_)
        clear hKK
        refine wpAnyH_ready (rs := [8]) (by kernel_rfl) (by simp) ?_
        refine (AllReadyH.cons rfl (fun K hKK => ?_) AllReadyH.nil)
        refine step_append_row rfl (.tmp 77) (.tmp 83) 25 rfl w4.heap.size 21 i0 _ 4 Tryz.underlying25 hi hz0 hz1 hz2 rfl (.slice A' n' c') n' _ rfl (owd.alloc _) _ _ 1 _ [.int .i32 xv] rfl (Row.one _ _ _) (one_i32 _) (by unfold maxLen; omega) (by omega) w5 ((Below.refl _ _).alloc wszd _) wszd ?_
        intro A2' c2' w6 ho2 hb2 hg2
        have kW := (hb2.cell (p := ⟨w.heap.size + 1, 8, none⟩) lM4).trans kMd
        have bW := HBM.out.keep hb2 lM4
        have fW := bW.frozen 8
        have lW := bW.lt
        clear hg2
        refine hKK.out _ _ trivial (fun hS8 => ?_)
        clear hKK
        refine wpAnyH_take (i := 9) (v := .pointer (some ⟨w.heap.size + 1, 8, none⟩)) rfl (by kernel_rfl) (by kernel_rfl) (by kernel_rfl) (fun _ _ _ h => h) (Or.inl ⟨by rfl, fun w _ => by go_simp⟩) (by assumption) ?_
        simp only [List.getElem_toArray, List.getElem_cons_zero, List.getElem_cons_succ, Act.put, List.setIfInBounds_toArray, List.set_cons_zero, List.set_cons_succ]
        refine wpAnyH_ready (rs := [10]) (by kernel_rfl) (by simp) ?_
        refine (AllReadyH.cons rfl (fun K hKK => ?_) AllReadyH.nil)
        go_simp
        refine hKK.out _ _ trivial (fun hS10 => ?_)
        clear hKK
        refine wpAnyH_done (by kernel_rfl) ?_ _
        have bS := bW.set 8 (.slice A2' (n' + 1) c2')
        have oS := own_offk ho2 (q := w.heap.size + 1) (fun k hk => by have := (ho2.lt k hk).1; omega) 8 (.slice A2' (n' + 1) c2')
        have kS := (Keeps.thenB kpd hb2).set (p := ⟨w.heap.size + 1, 8, none⟩) (.inl (by simp)) (.slice A2' (n' + 1) c2')
        have HALL := hide (And.intro bS (And.intro oS kS))
        clear bW kW fW lW ho2 hb2 bS oS kS
        go_wp2
        go_roundw
        case rel => exact ⟨j + 1, A2', n' + 1, c2', by omega, by first | go_num | (congr 1; omega), HALL.out.1, by rw [HE.out]; exact HALL.out.2.1, HALL.out.2.2⟩
        case measure => simp [intOf]; omega
      · go_simp
        refine (rget_any w4.heap.size (4 * j) 4 pv _ _ A1 n1 c1 x1 _ rowD rfl rfl (by omega) HP).mono ?_
        rintro e' w' ⟨rfl, rfl⟩
        refine hKK.out _ _ trivial (fun hS4 => ?_)
        clear hKK
        refine wpAnyH_take (i := 5) (v := .int .u32 (pv : Int)) rfl (by kernel_rfl) (by kernel_rfl) (by kernel_rfl) (fun _ _ _ h => h) (Or.inl ⟨by rfl, fun w _ => by go_simp⟩) (by assumption) ?_
        simp only [List.getElem_toArray, List.getElem_cons_zero, List.getElem_cons_succ, Act.put, List.setIfInBounds_toArray, List.set_cons_zero, List.set_cons_succ]
        refine wpAnyH_ready (rs := [1, 6]) (by kernel_rfl) (by simp) ?_
        refine (AllReadyH.cons rfl (fun K hKK => ?_) (AllReadyH.cons rfl (fun K hKK => ?_) AllReadyH.nil))
        · go_simp
          refine hKK.out _ _ trivial (fun hS1 => ?_)
          clear hKK
          refine wpAnyH_ready (rs := [6]) (by kernel_rfl) (by simp) ?_
          refine (AllReadyH.cons rfl (fun K hKK => ?_) AllReadyH.nil)
          go_simp
          refine (rSigned_x pv xv _ hp4 HXV.out).mono ?_
          rintro e' w' ⟨rfl, rfl⟩
          refine hKK.out _ _ trivial (fun hS6 => ?_)
          clear hKK
          refine wpAnyH_ready (rs := [7]) (by kernel_rfl) (by simp) ?_
          refine (AllReadyH.cons rfl (fun K hKK => ?_) AllReadyH.nil)
          go_simp
          refine hKK.out _ _ trivial (fun hS7 => ?_)
          clear hKK
          refine wpAnyH_ready (rs := [8]) (by kernel_rfl) (by simp) ?_
          refine (AllReadyH.cons rfl (fun K hKK => ?_) AllReadyH.nil)
          refine step_append_row rfl (.tmp 77) (.tmp 83) 25 rfl w4.heap.size 21 i0 _ 4 Tryz.underlying25 hi hz0 hz1 hz2 rfl (.slice A' n' c') n' _ rfl (owd.alloc _) _ _ 1 _ [.int .i32 xv] rfl (Row.one _ _ _) (one_i32 _) (by unfold maxLen; omega) (by omega) w5 ((Below.refl _ _).alloc wszd _) wszd ?_
          intro A2' c2' w6 ho2 hb2 hg2
          have kW := (hb2.cell (p := ⟨w.heap.size + 1, 8, none⟩) lM4).trans kMd
          have bW := HBM.out.keep hb2 lM4
          have fW := bW.frozen 8
          have lW := bW.lt
          clear hg2
          refine hKK.out _ _ trivial (fun hS8 => ?_)
          clear hKK
          refine wpAnyH_take (i := 9) (v := .pointer (some ⟨w.heap.size + 1, 8, none⟩)) rfl (by kernel_rfl) (by kernel_rfl) (by kernel_rfl) (fun _ _ _ h => h) (Or.inl ⟨by rfl, fun w _ => by go_simp⟩) (by assumption) ?_
          simp only [List.getElem_toArray, List.getElem_cons_zero, List.getElem_cons_succ, Act.put, List.setIfInBounds_toArray, List.set_cons_zero, List.set_cons_succ]
          refine wpAnyH_ready (rs := [10]) (by kernel_rfl) (by simp) ?_
          refine (AllReadyH.cons rfl (fun K hKK => ?_) AllReadyH.nil)
          go_simp
          refine hKK.out _ _ trivial (fun hS10 => ?_)
          clear hKK
          refine wpAnyH_done (by kernel_rfl) ?_ _
          have bS := bW.set 8 (.slice A2' (n' + 1) c2')
          have oS := own_offk ho2 (q := w.heap.size + 1) (fun k hk => by have := (ho2.lt k hk).1; omega) 8 (.slice A2' (n' + 1) c2')
          have kS := (Keeps.thenB kpd hb2).set (p := ⟨w.heap.size + 1, 8, none⟩) (.inl (by simp)) (.slice A2' (n' + 1) c2')
          have HALL := hide (And.intro bS (And.intro oS kS))
          clear bW kW fW lW ho2 hb2 bS oS kS
          go_wp2
          go_roundw
          case rel => exact ⟨j + 1, A2', n' + 1, c2', by omega, by first | go_num | (congr 1; omega), HALL.out.1, by rw [HE.out]; exact HALL.out.2.1, HALL.out.2.2⟩
          case measure => simp [intOf]; omega
        · go_simp
          refine (rSigned_x pv xv _ hp4 HXV.out).mono ?_
          rintro e' w' ⟨rfl, rfl⟩
          refine hKK.out _ _ trivial (fun hS6 => ?_)
          clear hKK
          refine wpAnyH_ready (rs := [1, 7]) (by kernel_rfl) (by simp) ?_
          refine (AllReadyH.cons rfl (fun K hKK => ?_) (AllReadyH.cons rfl (fun K hKK => ?_) AllReadyH.nil))
          · go_simp
            refine hKK.out _ _ trivial (fun hS1 => ?_)
            clear hKK
            refine wpAnyH_ready (rs := [7]) (by kernel_rfl) (by simp) ?_
            refine (AllReadyH.cons rfl (fun K hKK => ?_) AllReadyH.nil)
            go_simp
            refine hKK.out _ _ trivial (fun hS7 => ?_)
            clear hKK
            refine wpAnyH_ready (rs := [8]) (by kernel_rfl) (by simp) ?_
            refine (AllReadyH.cons rfl (fun K hKK => ?_) AllReadyH.nil)
            refine step_append_row rfl (.tmp 77) (.tmp 83) 25 rfl w4.heap.size 21 i0 _ 4 Tryz.underlying25 hi hz0 hz1 hz2 rfl (.slice A' n' c') n' _ rfl (owd.alloc _) _ _ 1 _ [.int .i32 xv] rfl (Row.one _ _ _) (one_i32 _) (by unfold maxLen; omega) (by omega) w5 ((Below.refl _ _).alloc wszd _) wszd ?_
            intro A2' c2' w6 ho2 hb2 hg2
            have kW := (hb2.cell (p := ⟨w.heap.size + 1, 8, none⟩) lM4).trans kMd
            have bW := HBM.out.keep hb2 lM4
            have fW := bW.frozen 8
            have lW := bW.lt
            clear hg2
            refine hKK.out _ _ trivial (fun hS8 => ?_)
            clear hKK
            refine wpAnyH_take (i := 9) (v := .pointer (some ⟨w.heap.size + 1, 8, none⟩)) rfl (by kernel_rfl) (by kernel_rfl) (by kernel_rfl) (fun _ _ _ h => h) (Or.inl ⟨by rfl, fun w _ => by go_simp⟩) (by assumption) ?_
            simp only [List.getElem_toArray, List.getElem_cons_zero, List.getElem_cons_succ, Act.put, List.setIfInBounds_toArray, List.set_cons_zero, List.set_cons_succ]
            refine wpAnyH_ready (rs := [10]) (by kernel_rfl) (by simp) ?_
            refine (AllReadyH.cons rfl (fun K hKK => ?_) AllReadyH.nil)
            go_simp
            refine hKK.out _ _ trivial (fun hS10 => ?_)
            clear hKK
            refine wpAnyH_done (by kernel_rfl) ?_ _
            have bS := bW.set 8 (.slice A2' (n' + 1) c2')
            have oS := own_offk ho2 (q := w.heap.size + 1) (fun k hk => by have := (ho2.lt k hk).1; omega) 8 (.slice A2' (n' + 1) c2')
            have kS := (Keeps.thenB kpd hb2).set (p := ⟨w.heap.size + 1, 8, none⟩) (.inl (by simp)) (.slice A2' (n' + 1) c2')
            have HALL := hide (And.intro bS (And.intro oS kS))
            clear bW kW fW lW ho2 hb2 bS oS kS
            go_wp2
            go_roundw
            case rel => exact ⟨j + 1, A2', n' + 1, c2', by omega, by first | go_num | (congr 1; omega), HALL.out.1, by rw [HE.out]; exact HALL.out.2.1, HALL.out.2.2⟩
            case measure => simp [intOf]; omega
          · go_simp
            refine hKK.out _ _ trivial (fun hS7 => ?_)
            clear hKK
            refine wpAnyH_ready (rs := [1]) (by kernel_rfl) (by simp) ?_
            refine (AllReadyH.cons rfl (fun K hKK => ?_) AllReadyH.nil)
            go_simp
            refine hKK.out _ _ trivial (fun hS1 => ?_)
            clear hKK
            refine wpAnyH_ready (rs := [8]) (by kernel_rfl) (by simp) ?_
            refine (AllReadyH.cons rfl (fun K hKK => ?_) AllReadyH.nil)
            refine step_append_row rfl (.tmp 77) (.tmp 83) 25 rfl w4.heap.size 21 i0 _ 4 Tryz.underlying25 hi hz0 hz1 hz2 rfl (.slice A' n' c') n' _ rfl (owd.alloc _) _ _ 1 _ [.int .i32 xv] rfl (Row.one _ _ _) (one_i32 _) (by unfold maxLen; omega) (by omega) w5 ((Below.refl _ _).alloc wszd _) wszd ?_
            intro A2' c2' w6 ho2 hb2 hg2
            have kW := (hb2.cell (p := ⟨w.heap.size + 1, 8, none⟩) lM4).trans kMd
            have bW := HBM.out.keep hb2 lM4
            have fW := bW.frozen 8
            have lW := bW.lt
            clear hg2
            refine hKK.out _ _ trivial (fun hS8 => ?_)
            clear hKK
            refine wpAnyH_take (i := 9) (v := .pointer (some ⟨w.heap.size + 1, 8, none⟩)) rfl (by kernel_rfl) (by kernel_rfl) (by kernel_rfl) (fun _ _ _ h => h) (Or.inl ⟨by rfl, fun w _ => by go_simp⟩) (by assumption) ?_
            simp only [List.getElem_toArray, List.getElem_cons_zero, List.getElem_cons_succ, Act.put, List.setIfInBounds_toArray, List.set_cons_zero, List.set_cons_succ]
            refine wpAnyH_ready (rs := [10]) (by kernel_rfl) (by simp) ?_
            refine (AllReadyH.cons rfl (fun K hKK => ?_) AllReadyH.nil)
            go_simp
            refine hKK.out _ _ trivial (fun hS10 => ?_)
            clear hKK
            refine wpAnyH_done (by kernel_rfl) ?_ _
            have bS := bW.set 8 (.slice A2' (n' + 1) c2')
            have oS := own_offk ho2 (q := w.heap.size + 1) (fun k hk => by have := (ho2.lt k hk).1; omega) 8 (.slice A2' (n' + 1) c2')
            have kS := (Keeps.thenB kpd hb2).set (p := ⟨w.heap.size + 1, 8, none⟩) (.inl (by simp)) (.slice A2' (n' + 1) c2')
            have HALL := hide (And.intro bS (And.intro oS kS))
            clear bW kW fW lW ho2 hb2 bS oS kS
            go_wp2
            go_roundw
            case rel => exact ⟨j + 1, A2', n' + 1, c2', by omega, by first | go_num | (congr 1; omega), HALL.out.1, by rw [HE.out]; exact HALL.out.2.1, HALL.out.2.2⟩
            case measure => simp [intOf]; omega
    · have hd : decide ((4 * (j : Int)) + 4 ≤ (n1 : Int)) = false := by simp; omega
      have hjj : j = n1 / 4 := by omega
      have y2 := Keeps.row8 kp R4.out.2.2.2.1 img_no R4.out.2.1 (Nat.le_refl _)
      have y3 := Keeps.row8 kp R4.out.2.2.2.1 img_no R4.out.2.2.1 (Nat.le_refl _)
      have bZ5 := kp.blk R4.out.2.2.2.2.1 (by simp)
      have hb5 := kp.below R4.out.2.2.2.2.2 (by simp) (Nat.le_refl _)
      have hfv : fvW (wordsK x1 j) = fsV x1 := by unfold fsV fvW; rw [HL.out.1, hjj]
      rw [hfv] at ow
      have HJ := hide hjj
      clear hjj hfv kM fM kp hi hz0 hz1 hz2
      go_wp2_with fail
      refine (rDecode_any w4.heap.size A2 n2 c2 x2 wr y2 wsz (by omega)).mono ?_
      rintro e' w7 ⟨sA, sn, sc, rfl, os, q7⟩
      have y3b := y3.keep q7 wsz
      have bM7 := bM5.keep q7 bM5.lt
      have bZ7 := bZ5.keep q7 bZ5.lt
      have of7 := own_below2 ow q7
      have hb7 := hb5.trans (q7.mono hb5.size)
      have sz7 := q7.size
      have lM7 := bM7.lt
      clear bM5 bZ5 ow hb5 q7 y2 y3 lM
      go_wp2_with fail
      refine (rDecode_any w4.heap.size A3 n3 c3 x3 w7 y3b (Nat.le_trans wsz sz7) (by omega)).mono ?_
      rintro e' w8 ⟨mA, mn, mc, rfl, om, q8⟩
      have bM8 := bM7.keep q8 bM7.lt
      have bZ8 := bZ7.keep q8 bZ7.lt
      have of8 := own_below2 of7 q8
      have os8 := own_below2 os q8
      have hb8 := hb7.trans (q8.mono hb7.size)
      have fM := fun k => bM8.frozen k
      obtain ⟨k0, k1, k2, k3, k4, k5, k6, k7, k8, k9, k10, k11, k12⟩ := cells13 bM8
      have lM := bM8.lt
      have fZ := fun k => bZ8.frozen k
      obtain ⟨z0, z1, z2, z3, z4, z5, z6, z7, z8, z9, z10, z11, z12⟩ := cells13 bZ8
      have lZ := bZ8.lt
      have qs := And.intro wsz (And.intro sz7 q8.size)
      have HQS := hide qs
      have bM9 := (bM8.set 9 (.slice sA sn sc)).set 10 (.slice mA mn mc)
      have bZ9 := (bZ8.other (h := w.heap.size + 1) (by omega) 9 (.slice sA sn sc)).other (h := w.heap.size + 1) (by omega) 10 (.slice mA mn mc)
      have h9 := below_set (below_set hb8 (show w.heap.size ≤ w.heap.size + 1 by omega) (j := 9) (.slice sA sn sc)) (show w.heap.size ≤ w.heap.size + 1 by omega) (j := 10) (.slice mA mn mc)
      have o1 := own_offk (own_offk of8 (q := w.heap.size + 1) (fun k hk => by have := (of8.lt k hk).1; omega) 9 (.slice sA sn sc)) (q := w.heap.size + 1) (fun k hk => by have := (of8.lt k hk).1; omega) 10 (.slice mA mn mc)
      have o2 := own_offk (own_offk os8 (q := w.heap.size + 1) (fun k hk => by have := (os8.lt k hk).1; omega) 9 (.slice sA sn sc)) (q := w.heap.size + 1) (fun k hk => by have := (os8.lt k hk).1; omega) 10 (.slice mA mn mc)
      have o3 := own_offk (own_offk om (q := w.heap.size + 1) (fun k hk => by have := (om.lt k hk).1; omega) 9 (.slice sA sn sc)) (q := w.heap.size + 1) (fun k hk => by have := (om.lt k hk).1; omega) 10 (.slice mA mn mc)
      have HF := hide (And.intro bZ9 (And.intro h9 (And.intro o1 (And.intro o2 o3))))
      clear bM7 bZ7 of7 hb7 os om q8 bM8 bZ8 of8 os8 hb8 bM9 bZ9 h9 o1 o2 o3 y3b wsz sz7 qs
      go_wp2
      obtain ⟨bZ9, h9, o1, o2, o3⟩ := HF.out
      refine ret_im1 (g := w.heap.size) rfl rfl (bZ9.put13 _ _ _ _ _ _ _ _ _ _ _ _ _) rfl ?_
      refine ⟨⟨v1, v2, v3, v4, v5, v5, v6, v7, v8, v9, fsV x1, (decA x2).1, (decA x3).1, A', n', c', sA, sn, sc, mA, mn, mc⟩, rfl, ?_, ?_, ?_, ?_, below13 h9 (Nat.le_refl _) _ _ _ _ _ _ _ _ _ _ _ _ _⟩
      · unfold rdM IV.m
        simp only [HT.out.1, HT.out.2.1, HT.out.2.2.1, HT.out.2.2.2.1, HT.out.2.2.2.2, Hv1.out, Hv2.out, Hv3.out, Hv4.out, Hv5.out, Hv6.out, Hv7.out, Hv8.out, Hv9.out]
      · exact own_lower (own13 o1 (fun k hk => by have := (o1.lt k hk).1; omega) _ _ _ _ _ _ _ _ _ _ _ _ _) (by omega)
      · exact own_lower (own13 o2 (fun k hk => by have := (o2.lt k hk).1; have := HQS.out; omega) _ _ _ _ _ _ _ _ _ _ _ _ _) (by have := HQS.out; omega)
      · exact own_lower (own13 o3 (fun k hk => by have := (o3.lt k hk).1; have := HQS.out; omega) _ _ _ _ _ _ _ _ _ _ _ _ _) (by have := HQS.out; omega)

end Go.Proofs.YtdikiabjkmigdaaGreatDoor
namespace Go.Proofs.YtdikiabjkmigdaaGreatDoor
open Go.RowKit
set_option maxRecDepth 20000
set_option maxHeartbeats 4000000

theorem rd_fit' {K : IV} {l : List UInt8} (hm : K.m = rdM l) (h : l.length ≤ 2016) : Fit K.m := by rw [hm]; exact rd_fit l h
theorem bne_l (l m : List UInt8) (b : Bool) (h : decide (l = m) = b) : (l != m) = !b := by rw [bne, beq_l l m b h]
theorem rParse_any (B : Nat) (A : Option Addr) (n c : Nat) (l : List UInt8) (w : World) (hr : Row w B A n c (cs8 l)) (hB : B ≤ w.heap.size) :
    Calls Tryz.prog 19 #[.slice A n c] w (GivesM w (parM l) (parE l)) := by
  have hlen := hr.len
  rw [cs8_len] at hlen
  by_cases hbig : 2016 < n
  · have hd : decide ((2016 : Int) < (n : Int)) = true := by simp; omega
    have HE := hide (show parE l = 3 by unfold parE; rw [if_pos (by omega)])
    have HM := hide (show parM l = zeroM by unfold parM; rw [if_neg (by rw [HE.out]; decide)])
    clear hlen hbig
    go_enter Tryz.func19, Tryz.ntmps19
    go_wp2
    refine ret_im (g := w.heap.size) rfl rfl rfl (Blk.new w _ [.int .u32 0, .int .u32 0, .int .i64 0, .int .i64 0, .int .i64 0, .int .i64 0, .int .i64 0, .int .i64 0, .slice none 0 0, .slice none 0 0, .slice none 0 0, .int .i64 0, .int .i64 0]) rfl ?_
    exact GivesM.zero HM.out HE.out (below_box w _)
  · have hd : decide ((2016 : Int) < (n : Int)) = false := by simp; omega
    have HLB := hide (show l.length ≤ 2016 by omega)
    have HN := hide (show n ≤ 2016 by omega)
    obtain ⟨fb, hfb⟩ : ∃ b, decide (encM (rdM l) = l) = b := ⟨_, rfl⟩
    have HFI := hide (frm_iff HLB.out)
    have HFB := hide hfb
    clear hlen hbig hfb
    go_enter Tryz.func19, Tryz.ntmps19
    go_wp2_with fail
    refine (Read11_any B A n c l _ (hr.keep (below_box w _) hB) (Nat.le_trans hB (below_box w _).size) (by have := HN.out; omega)).mono ?_
    rintro e' w2 ⟨K, rfl, hm, o1, o2, o3, hb⟩
    have bZ := (Blk.new w 28 [.int .u32 0, .int .u32 0, .int .i64 0, .int .i64 0, .int .i64 0, .int .i64 0, .int .i64 0, .int .i64 0, .slice none 0 0, .slice none 0 0, .slice none 0 0, .int .i64 0, .int .i64 0]).keep hb (by simp)
    have hb1 := box_then hb
    have hK := held_of hm (rd_wf l) o1 o2 o3
    have hb2 := below_box w2 (.cells #[.int .u32 K.v, .int .u32 K.f, .int .i64 K.e, .int .i64 K.s, .int .i64 K.o, .int .i64 K.n, .int .i64 K.i, .int .i64 K.u, .slice K.fA K.fn K.fc, .slice K.sA K.sn K.sc, .slice K.mA K.mn K.mc, .int .i64 K.x, .int .i64 K.y] 28)
    have bC := Blk.new w2 28 [.int .u32 K.v, .int .u32 K.f, .int .i64 K.e, .int .i64 K.s, .int .i64 K.o, .int .i64 K.n, .int .i64 K.i, .int .i64 K.u, .slice K.fA K.fn K.fc, .slice K.sA K.sn K.sc, .slice K.mA K.mn K.mc, .int .i64 K.x, .int .i64 K.y]
    have OW := (And.intro (own_below2 o1 hb2) (And.intro (own_below2 o2 hb2) (own_below2 o3 hb2)))
    have hb3 := hb1.trans (hb2.mono hb1.size)
    have bZ2 := bZ.keep hb2 bZ.lt
    have HK := hide hm
    have KH := ((hK.keep hb2 (Nat.le_refl _)).more hb2.size)
    have qne : w.heap.size ≠ w2.heap.size := by have := hb.size; simp at this; omega
    clear o1 o2 o3 hb hm hK hb1 bZ
    go_upto_region 4 with (fail)
    generalize w2.heap.size = q at bC qne ⊢
    generalize w2.alloc (.cells #[.int .u32 K.v, .int .u32 K.f, .int .i64 K.e, .int .i64 K.s, .int .i64 K.o, .int .i64 K.n, .int .i64 K.i, .int .i64 K.u, .slice K.fA K.fn K.fc, .slice K.sA K.sn K.sc, .slice K.mA K.mn K.mc, .int .i64 K.x, .int .i64 K.y] 28) = w3 at bC OW hb3 bZ2 KH ⊢
    clear hb2
    have hbd := below_drewN w3.heap.size w3 1
    have bE := bC.drew
    have bZE := bZ2.drew
    have KHE := KH.keep hbd (Nat.le_refl _)
    have OWE := And.intro (own_below2 OW.1 hbd) (And.intro (own_below2 OW.2.1 hbd) (own_below2 OW.2.2 hbd))
    have hbE := hb3.drew
    have hrE := hr.keep hbE hB
    replace KHE : Held w3.drew w3.drew.heap.size K := KHE
    clear bC OW hb3 bZ2 KH hbd hr
    have hsE := hrE.str Tryz.underlying29 Tryz.underlying5 Tryz.underlying9
    refine wp_region_held_drew (S := fun W : World => (convert 29 9 (.slice A n c)).run Tryz.prog W = .ok (.string ⟨l.toArray⟩) W ∧ W.cell? ⟨q, 0, none⟩ = some (.int .u32 K.v) ∧ W.cell? ⟨q, 1, none⟩ = some (.int .u32 K.f) ∧ W.cell? ⟨q, 2, none⟩ = some (.int .i64 K.e) ∧ W.cell? ⟨q, 3, none⟩ = some (.int .i64 K.s) ∧ W.cell? ⟨q, 4, none⟩ = some (.int .i64 K.o) ∧ W.cell? ⟨q, 5, none⟩ = some (.int .i64 K.n) ∧ W.cell? ⟨q, 6, none⟩ = some (.int .i64 K.i) ∧ W.cell? ⟨q, 7, none⟩ = some (.int .i64 K.u) ∧ W.cell? ⟨q, 8, none⟩ = some (.slice K.fA K.fn K.fc) ∧ W.cell? ⟨q, 9, none⟩ = some (.slice K.sA K.sn K.sc) ∧ W.cell? ⟨q, 10, none⟩ = some (.slice K.mA K.mn K.mc) ∧ W.cell? ⟨q, 11, none⟩ = some (.int .i64 K.x) ∧ W.cell? ⟨q, 12, none⟩ = some (.int .i64 K.y)) (by kernel_rfl) ⟨hsE, cells13 bE⟩ (fun hS0 => ?_)
    refine wpAnyH_take (i := 0) (v := .agg #[.int .u32 K.v, .int .u32 K.f, .int .i64 K.e, .int .i64 K.s, .int .i64 K.o, .int .i64 K.n, .int .i64 K.i, .int .i64 K.u, .slice K.fA K.fn K.fc, .slice K.sA K.sn K.sc, .slice K.mA K.mn K.mc, .int .i64 K.x, .int .i64 K.y]) rfl (by kernel_rfl) (by kernel_rfl) (by kernel_rfl) (fun _ _ _ h => h) (Or.inl ⟨by rfl, fun w h => by (obtain ⟨_, h0, h1, h2, h3, h4, h5, h6, h7, h8, h9, h10, h11, h12⟩ := h; go_simp)⟩) (by assumption) ?_
    simp only [List.getElem_toArray, List.getElem_cons_zero, Act.put, List.setIfInBounds_toArray, List.set_cons_zero, List.set_cons_succ]
    refine wpAnyH_take (i := 3) (v := .slice A n c) rfl (by kernel_rfl) (by kernel_rfl) (by kernel_rfl) (fun _ _ _ h => h) (Or.inl ⟨by rfl, fun w _ => by go_simp⟩) (by assumption) ?_
    simp only [List.getElem_toArray, List.getElem_cons_zero, List.getElem_cons_succ, Act.put, List.setIfInBounds_toArray, List.set_cons_zero, List.set_cons_succ]
    refine wpAnyH_take (i := 4) (v := .string ⟨l.toArray⟩) rfl (by kernel_rfl) (by kernel_rfl) (by kernel_rfl) (fun _ _ _ h => h) (Or.inl ⟨by rfl, fun w h => by (have h9 := h.1; go_simp)⟩) (by assumption) ?_
    simp only [List.getElem_toArray, List.getElem_cons_zero, List.getElem_cons_succ, Act.put, List.setIfInBounds_toArray, List.set_cons_zero, List.set_cons_succ]
    refine wpAnyH_ready (rs := [1]) (by kernel_rfl) (by simp) ?_
    refine AllReadyH.cons rfl (fun KK hKK => ?_) AllReadyH.nil
    go_simp
    refine (rLaid11_any K _ KHE (rd_fit' HK.out HLB.out)).mono ?_
    rw [HK.out]
    rintro e' w4 ⟨A4, n4, c4, rfl, o4, hb4⟩
    have bF := bE.keep hb4 bE.lt
    have r4 := Row.of_own o4
    have hrF := hrE.keep hb4 (Nat.le_trans hB hbE.size)
    have hs1 := r4.str Tryz.underlying29 Tryz.underlying5 Tryz.underlying9
    have hs2 := hrF.str Tryz.underlying29 Tryz.underlying5 Tryz.underlying9
    refine hKK.out _ _ ⟨hs2, cells13 bF⟩ (fun hS1 => ?_)
    clear hKK
    refine wpAnyH_ready (rs := [2]) (by kernel_rfl) (by simp) ?_
    refine AllReadyH.cons rfl (fun KK hKK => ?_) AllReadyH.nil
    go_simp
    refine hKK.out _ _ ⟨hs2, cells13 bF⟩ (fun hS2 => ?_)
    clear hKK
    have hcmp := beq_l _ _ _ HFB.out
    have hcmp2 := bne_l _ _ _ HFB.out
    refine wpAnyH_take (i := 5) (v := .bool (!fb)) rfl (by kernel_rfl) (by kernel_rfl) (by kernel_rfl) (fun _ _ _ h => h) (Or.inl ⟨by rfl, fun w _ => by go_simp⟩) (by assumption) ?_
    simp only [List.getElem_toArray, List.getElem_cons_zero, List.getElem_cons_succ, Act.put, List.setIfInBounds_toArray, List.set_cons_zero, List.set_cons_succ]
    refine wpAnyH_done (by kernel_rfl) ?_ _
    have bZ4 := bZE.keep hb4 bZE.lt
    have hb5 := hbE.trans (hb4.mono hbE.size)
    have KH4 := (KHE.keep hb4 (Nat.le_refl _)).more hb4.size
    have p1 := own_below2 OWE.1 hb4
    have p2 := own_below2 OWE.2.1 hb4
    have p3 := own_below2 OWE.2.2 hb4
    clear hS0 hS1 hS2 hs1 hs2 hsE hcmp hcmp2 bE bZE KHE OWE hbE hrE o4 hb4 r4 hrF
    by_cases hF : Frm l
    · have hfb : fb = true := by rw [← HFB.out]; exact decide_eq_true (HFI.out.2 hF)
      subst hfb
      obtain ⟨z, hz⟩ : ∃ z, chkM (rdM l) = z := ⟨_, rfl⟩
      have HE := hide (show parE l = z by unfold parE; rw [if_neg (by have := HLB.out; omega), if_neg (fun h => h hF)]; exact hz)
      have hZ := hide (show chkM K.m = z by rw [HK.out]; exact hz)
      clear hz hF
      have fZ := fun j => bZ4.frozen j
      obtain ⟨k0, k1, k2, k3, k4, k5, k6, k7, k8, k9, k10, k11, k12⟩ := cells13 bF
      have lC := bF.lt
      have ALL := hide (And.intro bZ4 (And.intro hb5 (And.intro p1 (And.intro p2 p3))))
      clear bZ4 hb5 p1 p2 p3 fZ
      go_wp2_with fail
      clear k0 k1 k2 k3 k4 k5 k6 k7 k8 k9 k10 k11 k12
      refine (rCheck11_any K z w4 KH4 hZ).mono ?_
      rintro e' w6 ⟨rfl, hb6⟩
      obtain ⟨bZ4, hb5, p1, p2, p3⟩ := ALL.out
      have bC6 := bF.keep hb6 bF.lt
      have bZ6 := bZ4.keep hb6 bZ4.lt
      have hb7 := hb5.trans (hb6.mono hb5.size)
      have s1 := own_below2 p1 hb6
      have s2 := own_below2 p2 hb6
      have s3 := own_below2 p3 hb6
      have fZ := fun j => bZ6.frozen j
      obtain ⟨z0, z1, z2, z3, z4, z5, z6, z7, z8, z9, z10, z11, z12⟩ := cells13 bZ6
      obtain ⟨k0, k1, k2, k3, k4, k5, k6, k7, k8, k9, k10, k11, k12⟩ := cells13 bC6
      have lZ := bZ6.lt
      have lC := bC6.lt
      have ALL2 := hide (And.intro bZ6 (And.intro hb7 (And.intro s1 (And.intro s2 s3))))
      clear bC6 bZ6 hb7 p1 p2 p3 s1 s2 s3 bZ4 hb5 hb6 bF ALL
      by_cases h0 : z = 0
      · subst h0
        have HM := hide (show parM l = rdM l by unfold parM; rw [if_pos HE.out])
        go_wp2
        obtain ⟨bZ4, hb5, p1, p2, p3⟩ := ALL2.out
        refine ret_im (g := w.heap.size) rfl rfl rfl (bZ4.put13 _ _ _ _ _ _ _ _ _ _ _ _ _) rfl ?_
        refine ⟨K, by rw [HE.out], by rw [HM.out]; exact HK.out, ?_, ?_, ?_, below13 hb5 (Nat.le_refl _) _ _ _ _ _ _ _ _ _ _ _ _ _⟩
        · exact own_lower (own13 p1 (fun k hk => by have := (p1.lt k hk).1; simp at this; omega) _ _ _ _ _ _ _ _ _ _ _ _ _) (by simp)
        · exact own_lower (own13 p2 (fun k hk => by have := (p2.lt k hk).1; simp at this; omega) _ _ _ _ _ _ _ _ _ _ _ _ _) (by simp)
        · exact own_lower (own13 p3 (fun k hk => by have := (p3.lt k hk).1; simp at this; omega) _ _ _ _ _ _ _ _ _ _ _ _ _) (by simp)
      · have HM := hide (show parM l = zeroM by unfold parM; rw [if_neg (by rw [HE.out]; exact h0)])
        have g0 : (z == 0) = false := beq_eq_false_iff_ne.2 h0
        have g1 := bne_of g0
        clear h0
        go_wp2
        obtain ⟨bZ4, hb5, _, _, _⟩ := ALL2.out
        refine ret_im (g := w.heap.size) rfl rfl rfl (bZ4.put13 _ _ _ _ _ _ _ _ _ _ _ _ _) rfl ?_
        exact GivesM.zero HM.out HE.out (below13 hb5 (Nat.le_refl _) _ _ _ _ _ _ _ _ _ _ _ _ _)
    · have hfb : fb = false := by rw [← HFB.out]; exact decide_eq_false fun h => hF (HFI.out.1 h)
      subst hfb
      have HE := hide (show parE l = 4 by unfold parE; rw [if_neg (by have := HLB.out; omega), if_pos hF])
      have HM := hide (show parM l = zeroM by unfold parM; rw [if_neg (by rw [HE.out]; decide)])
      have fZ := fun j => bZ4.frozen j
      obtain ⟨z0, z1, z2, z3, z4, z5, z6, z7, z8, z9, z10, z11, z12⟩ := cells13 bZ4
      have lZ := bZ4.lt
      have ALL := hide (And.intro bZ4 hb5)
      clear bZ4 hb5 p1 p2 p3 bF hF
      go_wp2
      refine ret_im (g := w.heap.size) rfl rfl rfl (ALL.out.1.put13 _ _ _ _ _ _ _ _ _ _ _ _ _) rfl ?_
      exact GivesM.zero HM.out HE.out (below13 ALL.out.2 (Nat.le_refl _) _ _ _ _ _ _ _ _ _ _ _ _ _)

end Go.Proofs.YtdikiabjkmigdaaGreatDoor
