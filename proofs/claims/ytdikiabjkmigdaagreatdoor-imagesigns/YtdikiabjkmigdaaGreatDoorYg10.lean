/-
  The walk of the law ImageSigns.
-/
import Derived.Test.YtdikiabjkmigdaaGreatDoorYg6
import Derived.Test.YtdikiabjkmigdaaGreatDoorYg9
import Derived.Test.YtdikiabjkmigdaaGreatDoorYh3
namespace Go.Proofs.YtdikiabjkmigdaaGreatDoor
open Go.RowKit
set_option maxRecDepth 20000
set_option maxHeartbeats 4000000

theorem rSign11_any (K : IV) (B : Nat) (Ak : Option Addr) (nk ck : Nat) (k : List UInt8) (w : World) (hK : Held w w.heap.size K) (hk : Row w B Ak nk ck (cs8 k)) (hB : B ≤ w.heap.size) (hnk : nk ≤ 1073741824) :
    Calls Tryz.prog 7 #[.agg #[.int .u32 K.v, .int .u32 K.f, .int .i64 K.e, .int .i64 K.s, .int .i64 K.o, .int .i64 K.n, .int .i64 K.i, .int .i64 K.u, .slice K.fA K.fn K.fc, .slice K.sA K.sn K.sc, .slice K.mA K.mn K.mc, .int .i64 K.x, .int .i64 K.y], .slice Ak nk ck] w (GivesE w (sgL k K.m) (enE K.m)) := by
  obtain ⟨z, hz⟩ : ∃ z, enE K.m = z := ⟨_, rfl⟩
  have HZ := hide hz
  have hb0 := below_box w (.cells #[.int .u32 K.v, .int .u32 K.f, .int .i64 K.e, .int .i64 K.s, .int .i64 K.o, .int .i64 K.n, .int .i64 K.i, .int .i64 K.u, .slice K.fA K.fn K.fc, .slice K.sA K.sn K.sc, .slice K.mA K.mn K.mc, .int .i64 K.x, .int .i64 K.y] 28)
  have bQ := Blk.new w 28 [.int .u32 K.v, .int .u32 K.f, .int .i64 K.e, .int .i64 K.s, .int .i64 K.o, .int .i64 K.n, .int .i64 K.i, .int .i64 K.u, .slice K.fA K.fn K.fc, .slice K.sA K.sn K.sc, .slice K.mA K.mn K.mc, .int .i64 K.x, .int .i64 K.y]
  have hK0 := (hK.keep hb0 (Nat.le_refl _)).more hb0.size
  have H0 := hide (And.intro hb0 hK0)
  clear hb0 hK0 bQ
  by_cases h0 : z = 0
  · subst h0
    obtain ⟨L, hL⟩ : ∃ L, enL K.m = L := ⟨_, rfl⟩
    have hlen : L.length ≤ 2016 := by rw [← hL]; exact en_len hz
    have HS := hide (show sgL k K.m = sealT k L by unfold sgL; rw [if_pos hz, hL])
    have HL := hide hL
    clear hL hz
    go_enter Tryz.func7, Tryz.ntmps7
    go_wp2_with fail
    refine (rEncode11_any K _ H0.out.2).mono ?_
    rw [HZ.out, HL.out]
    rintro e w2 ⟨A2, n2, c2, rfl, r2_, hb2⟩
    have hb02 := H0.out.1.trans (hb2.mono H0.out.1.size)
    have hn2 := r2_.len
    rw [cs8_len] at hn2
    have hn3 : n2 ≤ 2016 := by omega
    clear hn2 hb2
    have hk2 := (hk.keep hb02 hB).more (Nat.le_trans hB hb02.size)
    skip
    go_wp2_with fail
    refine (rSeal_any w2.heap.size Ak nk ck k A2 n2 c2 L w2 hk2 r2_ (Nat.le_refl _) hnk (by omega)).mono ?_
    rintro e w3 ⟨A3, n3, c3, rfl, o3, hb3⟩
    go_wp2
    go_ret2
    exact ⟨A3, n3, c3, by rw [HZ.out]; rfl, by rw [HS.out]; exact Row.of_own o3, hb02.trans (hb3.mono hb02.size)⟩
  · have HS := hide (show sgL k K.m = [] by unfold sgL; rw [if_neg (by rw [hz]; exact h0)])
    have g0 : (z == 0) = false := beq_eq_false_iff_ne.2 h0
    have g1 := bne_of g0
    clear hz h0
    go_enter Tryz.func7, Tryz.ntmps7
    go_wp2_with fail
    refine (rEncode11_any K _ H0.out.2).mono ?_
    rw [HZ.out]
    rintro e w2 ⟨A2, n2, c2, rfl, r2_, hb2⟩
    have hb02 := H0.out.1.trans (hb2.mono H0.out.1.size)
    clear hb2
    go_wp2
    go_ret2
    exact GivesE.none_ HS.out HZ.out hb02
theorem rOpen11_any (B : Nat) (A : Option Addr) (n c : Nat) (l : List UInt8) (Ak : Option Addr) (nk ck : Nat) (k : List UInt8) (w : World) (hr : Row w B A n c (cs8 l)) (hk : Row w B Ak nk ck (cs8 k)) (hB : B ≤ w.heap.size) (hnk : nk ≤ 1073741824) :
    Calls Tryz.prog 9 #[.slice A n c, .slice Ak nk ck] w (GivesM w (opM k l) (opE k l)) := by
  have hlen := hr.len
  rw [cs8_len] at hlen
  have hb0 := below_box w (.cells #[.int .u32 0, .int .u32 0, .int .i64 0, .int .i64 0, .int .i64 0, .int .i64 0, .int .i64 0, .int .i64 0, .slice none 0 0, .slice none 0 0, .slice none 0 0, .int .i64 0, .int .i64 0] 28)
  have bZ := Blk.new w 28 [.int .u32 0, .int .u32 0, .int .i64 0, .int .i64 0, .int .i64 0, .int .i64 0, .int .i64 0, .int .i64 0, .slice none 0 0, .slice none 0 0, .slice none 0 0, .int .i64 0, .int .i64 0]
  have H0 := hide (And.intro hb0 bZ)
  by_cases hbig : 2048 < n
  · have hd : decide ((2048 : Int) < (n : Int)) = true := by simp; omega
    have HE := hide (show opE k l = 3 by unfold opE; rw [if_pos (by omega)])
    have HM := hide (show opM k l = zeroM by unfold opM; rw [if_pos (.inl (by omega))])
    clear hlen hbig hb0 bZ
    go_enter Tryz.func9, Tryz.ntmps9
    go_wp2
    refine ret_im (g := w.heap.size) rfl rfl rfl (Blk.new w _ [.int .u32 0, .int .u32 0, .int .i64 0, .int .i64 0, .int .i64 0, .int .i64 0, .int .i64 0, .int .i64 0, .slice none 0 0, .slice none 0 0, .slice none 0 0, .int .i64 0, .int .i64 0]) rfl ?_
    exact GivesM.zero HM.out HE.out (below_box w _)
  · have hd : decide ((2048 : Int) < (n : Int)) = false := by simp; omega
    have hsm : ¬ 2048 < l.length := by omega
    have hn9 : n ≤ 2048 := by omega
    obtain ⟨z, hz⟩ : ∃ z, unE k l = z := ⟨_, rfl⟩
    have HU := hide hz
    have hr0 := (hr.keep hb0 hB).more (Nat.le_trans hB hb0.size)
    have hk0 := (hk.keep hb0 hB).more (Nat.le_trans hB hb0.size)
    skip
    by_cases h0 : z = 0
    · subst h0
      obtain ⟨L, hL⟩ : ∃ L, unL k l = L := ⟨_, rfl⟩
      have HE := hide (show opE k l = parE L by unfold opE; rw [if_neg hsm, if_neg (fun hn => hn hz), hL])
      have HM := hide (show opM k l = parM L by unfold opM; rw [if_neg (fun hn => hn.elim hsm fun h => h hz), hL])
      have HL := hide hL
      clear hL hz hlen hbig hsm hr hk hb0 bZ
      go_enter Tryz.func9, Tryz.ntmps9
      go_wp2_with fail
      refine (rOpen_any _ Ak nk ck k A n c l _ hk0 hr0 (Nat.le_refl _) hnk (by omega)).mono ?_
      rw [HU.out, HL.out]
      rintro e w2 ⟨A2, n2, c2, rfl, o2, hb2⟩
      have hb02 := H0.out.1.trans (hb2.mono H0.out.1.size)
      have bZ2 := H0.out.2.keep hb2 H0.out.2.lt
      have r2_ := Row.of_own o2
      clear o2 hb2 hr0 hk0 
      go_wp2_with fail
      refine (rParse_any w2.heap.size A2 n2 c2 L w2 r2_ (Nat.le_refl _)).mono ?_
      rintro e w3 ⟨K, rfl, hm, o1, o2, o3, hb3⟩
      have bZ3 := bZ2.keep hb3 bZ2.lt
      have hb03 := hb02.trans (hb3.mono hb02.size)
      have lz2 := bZ2.lt
      have fZ := fun j => bZ3.frozen j
      obtain ⟨z0, z1, z2, z3, z4, z5, z6, z7, z8, z9, z10, z11, z12⟩ := cells13 bZ3
      have lZ := bZ3.lt
      have ALL := hide (And.intro bZ3 (And.intro hb03 (And.intro o1 (And.intro o2 o3))))
      clear bZ3 hb03 o1 o2 o3 bZ2 hb02 hb3 r2_
      have HK := hide hm
      clear hm
      go_wp2
      obtain ⟨bZ4, hb5, p1, p2, p3⟩ := ALL.out
      refine ret_im (g := w.heap.size) rfl rfl rfl (bZ4.put13 _ _ _ _ _ _ _ _ _ _ _ _ _) rfl ?_
      refine ⟨K, by rw [HE.out], by rw [HM.out]; exact HK.out, ?_, ?_, ?_, below13 hb5 (Nat.le_refl _) _ _ _ _ _ _ _ _ _ _ _ _ _⟩
      · exact own_lower (own13 p1 (fun k hk => by have := (p1.lt k hk).1; omega) _ _ _ _ _ _ _ _ _ _ _ _ _) (by omega)
      · exact own_lower (own13 p2 (fun k hk => by have := (p2.lt k hk).1; omega) _ _ _ _ _ _ _ _ _ _ _ _ _) (by omega)
      · exact own_lower (own13 p3 (fun k hk => by have := (p3.lt k hk).1; omega) _ _ _ _ _ _ _ _ _ _ _ _ _) (by omega)
    · have HE := hide (show opE k l = z by unfold opE; rw [if_neg hsm, if_pos (by rw [hz]; exact h0), hz])
      have HM := hide (show opM k l = zeroM by unfold opM; rw [if_pos (.inr (by rw [hz]; exact h0))])
      have g0 : (z == 0) = false := beq_eq_false_iff_ne.2 h0
      have g1 := bne_of g0
      clear hz h0 hlen hbig hsm hr hk hb0 bZ
      go_enter Tryz.func9, Tryz.ntmps9
      go_wp2_with fail
      refine (rOpen_any _ Ak nk ck k A n c l _ hk0 hr0 (Nat.le_refl _) hnk (by omega)).mono ?_
      rw [HU.out]
      rintro e w2 ⟨A2, n2, c2, rfl, o2, hb2⟩
      have hb02 := H0.out.1.trans (hb2.mono H0.out.1.size)
      have bZ2 := H0.out.2.keep hb2 H0.out.2.lt
      have fZ := fun j => bZ2.frozen j
      obtain ⟨z0, z1, z2, z3, z4, z5, z6, z7, z8, z9, z10, z11, z12⟩ := cells13 bZ2
      have lZ := bZ2.lt
      have ALL := hide (And.intro bZ2 hb02)
      clear o2 hb2 hr0 hk0 bZ2 hb02 
      go_wp2
      refine ret_im (g := w.heap.size) rfl rfl rfl (ALL.out.1.put13 _ _ _ _ _ _ _ _ _ _ _ _ _) rfl ?_
      exact GivesM.zero HM.out HE.out (below13 ALL.out.2 (Nat.le_refl _) _ _ _ _ _ _ _ _ _ _ _ _ _)

end Go.Proofs.YtdikiabjkmigdaaGreatDoor
namespace Go.Proofs.YtdikiabjkmigdaaGreatDoor
open Go.RowKit
set_option maxRecDepth 20000
set_option maxHeartbeats 4000000

theorem op_wf (k l : List UInt8) : Wf (opM k l) := by
  unfold opM; split
  · exact zero_wf
  · exact par_wf _
theorem Held.own11 {w' : World} {K : IV} {base : Nat} {m : Im} (hm : K.m = m) (hw : Wf m) (o1 : w'.ownsRow base 21 1 (.slice K.fA K.fn K.fc) K.fn (c32 K.fs)) (o2 : w'.ownsRow base 56 2 (.slice K.sA K.sn K.sc) K.sn (csI K.st)) (o3 : w'.ownsRow base 56 2 (.slice K.mA K.mn K.mc) K.mn (csI K.mv)) : Held w' w'.heap.size K := by
  subst hm
  exact ⟨Row.of_own o1, RowI.of_own o2 hw.st, RowI.of_own o3 hw.mv, hw⟩
theorem signs_known (K : IV) (A : Option Addr) (n c : Nat) (A' : Option Addr) (n' c' : Nat) (w : World) (hbig : 16384 < n) :
    Calls Tryz.prog 3 #[.agg #[.int .u32 K.v, .int .u32 K.f, .int .i64 K.e, .int .i64 K.s, .int .i64 K.o, .int .i64 K.n, .int .i64 K.i, .int .i64 K.u, .slice K.fA K.fn K.fc, .slice K.sA K.sn K.sc, .slice K.mA K.mn K.mc, .int .i64 K.x, .int .i64 K.y], .slice A n c, .slice A' n' c'] w fun e w' => e = .returned (.bool true) ∧ Below w.heap.size w w' := by
  have hd : decide ((16384 : Int) < (n : Int)) = true := by simp; omega
  clear hbig
  go_enter Tryz.func3, Tryz.ntmps3
  go_wp2_with fail
  refine (known_any _).mono ?_
  rintro e wk ⟨rfl, hbk⟩
  have HB := hide (box_then hbk)
  clear hbk
  go_wp2
  go_ret
  exact ⟨rfl, HB.out⟩
theorem signs_light (K : IV) (A : Option Addr) (n c : Nat) (A' : Option Addr) (n' c' : Nat) (w : World) (hn : n ≤ 16384) (lb : Bool) (HL : Hid (lightB K = lb)) (h : lb = false ∨ 10000 < n') :
    Calls Tryz.prog 3 #[.agg #[.int .u32 K.v, .int .u32 K.f, .int .i64 K.e, .int .i64 K.s, .int .i64 K.o, .int .i64 K.n, .int .i64 K.i, .int .i64 K.u, .slice K.fA K.fn K.fc, .slice K.sA K.sn K.sc, .slice K.mA K.mn K.mc, .int .i64 K.x, .int .i64 K.y], .slice A n c, .slice A' n' c'] w fun e w' => e = .returned (.bool true) ∧ Below w.heap.size w w' := by
  have hd : decide ((16384 : Int) < (n : Int)) = false := by simp; omega
  have hd2 : lb = true → decide ((10000 : Int) < (n' : Int)) = true := by
    intro q; rcases h with h | h
    · rw [h] at q; cases q
    · simp; omega
  clear h
  cases lb
  · clear hd2
    go_enter Tryz.func3, Tryz.ntmps3
    go_wp2_with fail
    refine (light_b K _ _ HL).mono ?_
    rintro e w2 ⟨rfl, hb2⟩
    have HB := hide (box_then hb2)
    clear hb2
    go_wp2_with fail
    refine (known_any w2).mono ?_
    rintro e wk ⟨rfl, hbk⟩
    have HB2 := hide (HB.out.trans (hbk.mono HB.out.size))
    clear hbk
    go_wp2
    go_ret
    exact ⟨rfl, HB2.out⟩
  · have hd3 := hd2 rfl
    clear hd2
    go_enter Tryz.func3, Tryz.ntmps3
    go_wp2_with fail
    refine (light_b K _ _ HL).mono ?_
    rintro e w2 ⟨rfl, hb2⟩
    have HB := hide (box_then hb2)
    clear hb2
    go_wp2_with fail
    refine (known_any w2).mono ?_
    rintro e wk ⟨rfl, hbk⟩
    have HB2 := hide (HB.out.trans (hbk.mono HB.out.size))
    clear hbk
    go_wp2
    go_ret
    exact ⟨rfl, HB2.out⟩
theorem signs_walk (K : IV) (A : Option Addr) (n c : Nat) (k : List UInt8) (A' : Option Addr) (n' c' : Nat) (l : List UInt8) (w : World) (hK : Held w w.heap.size K) (hk : Row w w.heap.size A n c (cs8 k)) (hr : Row w w.heap.size A' n' c' (cs8 l)) (hT : KT w.heap.size w) :
    Calls Tryz.prog 3 #[.agg #[.int .u32 K.v, .int .u32 K.f, .int .i64 K.e, .int .i64 K.s, .int .i64 K.o, .int .i64 K.n, .int .i64 K.i, .int .i64 K.u, .slice K.fA K.fn K.fc, .slice K.sA K.sn K.sc, .slice K.mA K.mn K.mc, .int .i64 K.x, .int .i64 K.y], .slice A n c, .slice A' n' c'] w fun e w' => e = .returned (.bool true) ∧ Below w.heap.size w w' := by
  by_cases hbig : 16384 < n
  · exact signs_known K A n c A' n' c' w hbig
  have hn : n ≤ 16384 := by omega
  clear hbig
  obtain ⟨lb, hlb⟩ : ∃ b, lightB K = b := ⟨_, rfl⟩
  by_cases hq : lb = false ∨ 10000 < n'
  · exact signs_light K A n c A' n' c' w hn lb (hide hlb) hq
  have hlt : lb = true := by cases lb; exact absurd (.inl rfl) hq; rfl
  subst hlt
  have hd : decide ((16384 : Int) < (n : Int)) = false := by simp; omega
  have hd2 : decide ((10000 : Int) < (n' : Int)) = false := by simp; omega
  have HL := hide hlb
  clear hlb hq
  have hb0 := below_box w (.cells #[.int .u32 K.v, .int .u32 K.f, .int .i64 K.e, .int .i64 K.s, .int .i64 K.o, .int .i64 K.n, .int .i64 K.i, .int .i64 K.u, .slice K.fA K.fn K.fc, .slice K.sA K.sn K.sc, .slice K.mA K.mn K.mc, .int .i64 K.x, .int .i64 K.y] 28)
  have bQ := Blk.new w 28 [.int .u32 K.v, .int .u32 K.f, .int .i64 K.e, .int .i64 K.s, .int .i64 K.o, .int .i64 K.n, .int .i64 K.i, .int .i64 K.u, .slice K.fA K.fn K.fc, .slice K.sA K.sn K.sc, .slice K.mA K.mn K.mc, .int .i64 K.x, .int .i64 K.y]
  have hK0 := (hK.keep hb0 (Nat.le_refl _)).more hb0.size
  have H0 := hide (And.intro hb0 (And.intro bQ hK0))
  clear hb0 bQ hK0
  obtain ⟨z, hz⟩ : ∃ z, enE K.m = z := ⟨_, rfl⟩
  obtain ⟨L, hL⟩ : ∃ L, sgL k K.m = L := ⟨_, rfl⟩
  obtain ⟨ze, hze⟩ : ∃ z, opE k l = z := ⟨_, rfl⟩
  have HZ := hide (And.intro hz (And.intro hL hze))
  clear hz hL hze
  go_enter Tryz.func3, Tryz.ntmps3
  go_wp2_with fail
  refine (light_b K _ _ HL).mono ?_
  rintro e w2 ⟨rfl, hb2⟩
  have bQ2 := H0.out.2.1.keep hb2 H0.out.2.1.lt
  have hK2 := (H0.out.2.2.keep hb2 (Nat.le_refl _)).more hb2.size
  have hb02 := H0.out.1.trans (hb2.mono H0.out.1.size)
  have hk2 := (hk.keep hb02 (Nat.le_refl _)).more hb02.size
  have hT2 := (hT.keep hb02 (Nat.le_refl _)).more hb02.size
  obtain ⟨k0, k1, k2, k3, k4, k5, k6, k7, k8, k9, k10, k11, k12⟩ := cells13 bQ2
  have lq := bQ2.lt
  clear hb2 H0
  go_wp2_with fail
  clear k0 k1 k2 k3 k4 k5 k6 k7 k8 k9 k10 k11 k12 lq
  refine (Sign11_any K w2.heap.size A n c k w2 hK2 hk2 (Nat.le_refl _) hT2 (by omega)).mono ?_
  rw [HZ.out.2.1, HZ.out.1]
  rintro e w3 ⟨A3, n3, c3, rfl, r3_, hb3⟩
  have bQ3 := bQ2.keep hb3 bQ2.lt
  have hK3 := (hK2.keep hb3 (Nat.le_refl _)).more hb3.size
  have hb03 := hb02.trans (hb3.mono hb02.size)
  have hk3 := (hk.keep hb03 (Nat.le_refl _)).more hb03.size
  obtain ⟨k0, k1, k2, k3, k4, k5, k6, k7, k8, k9, k10, k11, k12⟩ := cells13 bQ3
  have lq := bQ3.lt
  have R3 := hide r3_
  clear hb3 bQ2 hK2 hb02 hk2 hT2 r3_
  go_wp2_with fail
  clear k0 k1 k2 k3 k4 k5 k6 k7 k8 k9 k10 k11 k12 lq
  refine (rSign11_any K w3.heap.size A n c k w3 hK3 hk3 (Nat.le_refl _) (by omega)).mono ?_
  rw [HZ.out.2.1, HZ.out.1]
  rintro e w4 ⟨A4, n4, c4, rfl, r4_, hb4⟩
  have hb04 := hb03.trans (hb4.mono hb03.size)
  have r3b := (R3.out.keep hb4 (Nat.le_refl _)).more hb4.size
  have hk4 := (hk.keep hb04 (Nat.le_refl _)).more hb04.size
  have hr4 := (hr.keep hb04 (Nat.le_refl _)).more hb04.size
  have hT4 := (hT.keep hb04 (Nat.le_refl _)).more hb04.size
  have HR := hide (And.intro r3b r4_)
  clear hb4 bQ3 hK3 hb03 hk3 R3 r3b r4_
  go_wp2_with fail
  refine (Open11_any w4.heap.size A' n' c' l A n c k w4 hr4 hk4 (Nat.le_refl _) hT4 (by omega)).mono ?_
  rw [HZ.out.2.2]
  rintro e w5 ⟨J, rfl, hmJ, o1, o2, o3, hb5⟩
  have hbx := below_box w5 (.cells #[.int .u32 J.v, .int .u32 J.f, .int .i64 J.e, .int .i64 J.s, .int .i64 J.o, .int .i64 J.n, .int .i64 J.i, .int .i64 J.u, .slice J.fA J.fn J.fc, .slice J.sA J.sn J.sc, .slice J.mA J.mn J.mc, .int .i64 J.x, .int .i64 J.y] 28)
  have bJ := Blk.new w5 28 [.int .u32 J.v, .int .u32 J.f, .int .i64 J.e, .int .i64 J.s, .int .i64 J.o, .int .i64 J.n, .int .i64 J.i, .int .i64 J.u, .slice J.fA J.fn J.fc, .slice J.sA J.sn J.sc, .slice J.mA J.mn J.mc, .int .i64 J.x, .int .i64 J.y]
  have b46 := hb5.trans (hbx.mono hb5.size)
  have OJ := hide (And.intro hmJ (And.intro (own_below2 o1 hbx) (And.intro (own_below2 o2 hbx) (own_below2 o3 hbx))))
  clear o1 o2 o3 hb5 hbx hmJ hk4 hr4 hT4
  go_upto_region 8 with (fail)
  generalize w5.heap.size = q1 at bJ ⊢
  generalize w5.alloc (.cells #[.int .u32 J.v, .int .u32 J.f, .int .i64 J.e, .int .i64 J.s, .int .i64 J.o, .int .i64 J.n, .int .i64 J.i, .int .i64 J.u, .slice J.fA J.fn J.fc, .slice J.sA J.sn J.sc, .slice J.mA J.mn J.mc, .int .i64 J.x, .int .i64 J.y] 28) = w6 at bJ OJ b46 ⊢
  have hb06 := hb04.trans (b46.mono hb04.size)
  have hk6 := (hk.keep hb06 (Nat.le_refl _)).more hb06.size
  have hr6 := (hr.keep hb06 (Nat.le_refl _)).more hb06.size
  go_wp2_with fail
  refine (rOpen11_any w6.heap.size A' n' c' l A n c k w6 hr6 hk6 (Nat.le_refl _) (by omega)).mono ?_
  rw [HZ.out.2.2]
  rintro e w7 ⟨D, rfl, hmD, o1, o2, o3, hb7⟩
  have hby := below_box w7 (.cells #[.int .u32 D.v, .int .u32 D.f, .int .i64 D.e, .int .i64 D.s, .int .i64 D.o, .int .i64 D.n, .int .i64 D.i, .int .i64 D.u, .slice D.fA D.fn D.fc, .slice D.sA D.sn D.sc, .slice D.mA D.mn D.mc, .int .i64 D.x, .int .i64 D.y] 28)
  have bD := Blk.new w7 28 [.int .u32 D.v, .int .u32 D.f, .int .i64 D.e, .int .i64 D.s, .int .i64 D.o, .int .i64 D.n, .int .i64 D.i, .int .i64 D.u, .slice D.fA D.fn D.fc, .slice D.sA D.sn D.sc, .slice D.mA D.mn D.mc, .int .i64 D.x, .int .i64 D.y]
  have b68 := hb7.trans (hby.mono hb7.size)
  have OD := hide (And.intro hmD (And.intro (own_below2 o1 hby) (And.intro (own_below2 o2 hby) (own_below2 o3 hby))))
  have OJ8 := hide (And.intro OJ.out.1 (And.intro (own_below2 (own_below2 OJ.out.2.1 hb7) hby) (And.intro (own_below2 (own_below2 OJ.out.2.2.1 hb7) hby) (own_below2 (own_below2 OJ.out.2.2.2 hb7) hby))))
  have bJ8 := (bJ.keep hb7 bJ.lt).keep hby (Nat.lt_of_lt_of_le bJ.lt hb7.size)
  have qne2 : q1 < w7.heap.size := by have := bJ.lt; have := hb7.size; omega
  clear o1 o2 o3 hb7 hby hmD bJ OJ hk6 hr6
  go_upto_region 9 with (fail)
  generalize w7.heap.size = q2 at bD qne2 ⊢
  generalize w7.alloc (.cells #[.int .u32 D.v, .int .u32 D.f, .int .i64 D.e, .int .i64 D.s, .int .i64 D.o, .int .i64 D.n, .int .i64 D.i, .int .i64 D.u, .slice D.fA D.fn D.fc, .slice D.sA D.sn D.sc, .slice D.mA D.mn D.mc, .int .i64 D.x, .int .i64 D.y] 28) = w8 at bD bJ8 OD OJ8 b68 ⊢
  have b48 := b46.trans (b68.mono b46.size)
  have b08 := hb04.trans (b48.mono hb04.size)
  have HD := hide (Held.own11 OD.out.1 (op_wf k l) OD.out.2.1 OD.out.2.2.1 OD.out.2.2.2)
  have HJ := hide (Held.own11 OJ8.out.1 (op_wf k l) OJ8.out.2.1 OJ8.out.2.2.1 OJ8.out.2.2.2)
  have HMM := hide (OJ8.out.1.trans OD.out.1.symm)
  have hs1 := ((HR.out.1.keep b48 (Nat.le_refl _)).more b48.size).str Tryz.underlying29 Tryz.underlying5 Tryz.underlying9
  have hs2 := ((HR.out.2.keep b48 (Nat.le_refl _)).more b48.size).str Tryz.underlying29 Tryz.underlying5 Tryz.underlying9
  obtain ⟨k0, k1, k2, k3, k4, k5, k6, k7, k8, k9, k10, k11, k12⟩ := cells13 bJ8
  obtain ⟨z0, z1, z2, z3, z4, z5, z6, z7, z8, z9, z10, z11, z12⟩ := cells13 bD
  have lq := bJ8.lt
  have lp := bD.lt
  go_wp2_with fail
  clear k0 k1 k2 k3 k4 k5 k6 k7 k8 k9 k10 k11 k12 z0 z1 z2 z3 z4 z5 z6 z7 z8 z9 z10 z11 z12 lq lp hs1 hs2
  refine (Same11_any J D w8.heap.size w8.heap.size w8 HJ.out HD.out (Nat.le_refl _) (Nat.le_refl _) HMM.out).mono ?_
  rintro e w9 ⟨rfl, hb9⟩
  have HB9 := hide (b08.trans (hb9.mono b08.size))
  clear hb9
  go_wp2_with fail
  refine (known_any w9).mono ?_
  rintro e wk ⟨rfl, hbk⟩
  have HB10 := hide (HB9.out.trans (hbk.mono HB9.out.size))
  clear hbk
  go_wp2
  go_ret
  exact ⟨rfl, HB10.out⟩

end Go.Proofs.YtdikiabjkmigdaaGreatDoor
