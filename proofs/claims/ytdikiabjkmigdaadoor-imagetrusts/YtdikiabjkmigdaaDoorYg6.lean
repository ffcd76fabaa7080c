/-
  Contracts of the statements' own helpers: known, light.
-/
import Derived.Test.YtdikiabjkmigdaaDoorYg5
import Derived.Deep.Cut
import Derived.Deep.DeepCutAuto
namespace Go.Proofs.YtdikiabjkmigdaaDoor
open Go.RowKit
set_option maxRecDepth 20000
set_option maxHeartbeats 4000000

/-- What a result of new memory holds. -/
theorem held_of {w w' : World} {K : IV} {m : Im} (hm : K.m = m) (hw : Wf m) (o1 : w'.ownsRow w.heap.size 21 1 (.slice K.fA K.fn K.fc) K.fn (c32 K.fs)) (o2 : w'.ownsRow w.heap.size 67 2 (.slice K.sA K.sn K.sc) K.sn (csI K.st)) (o3 : w'.ownsRow w.heap.size 67 2 (.slice K.mA K.mn K.mc) K.mn (csI K.mv)) : Held w' w'.heap.size K := by
  subst hm
  exact ⟨Row.of_own o1, RowI.of_own o2 hw.st, RowI.of_own o3 hw.mv, hw⟩
theorem zero_wf : Wf zeroM := by
  refine ⟨by decide, by decide, ?_, ?_, ?_⟩ <;> (intro v hv; simp [zeroM] at hv)
theorem par_wf (l : List UInt8) : Wf (parM l) := by
  unfold parM; split
  · exact rd_wf l
  · exact zero_wf
theorem own_below2 {w w' : World} {base n m : Nat} {e : TypeId} {v : Value} {xs : List Value} (h : w.ownsRow base e m v n xs) (hb : Below w.heap.size w w') : w'.ownsRow base e m v n xs := by
  refine ⟨h.1, ?_⟩
  rcases h.2 with h2 | ⟨g, cap, cur, rfl, hb', hg, r⟩
  · exact .inl h2
  · exact .inr ⟨g, cap, cur, rfl, hb', (hb.block g (Array.getElem?_eq_some_iff.1 hg).1).trans hg, r⟩
theorem Parse_any (B : Nat) (A : Option Addr) (n c : Nat) (l : List UInt8) (w : World) (hr : Row w B A n c (cs8 l)) (hB : B ≤ w.heap.size) :
    Calls Tryd.prog 10 #[.slice A n c] w (GivesM w (parM l) (parE l)) := by
  have hlen := hr.len
  rw [cs8_len] at hlen
  by_cases hbig : 2016 < n
  · have hd : decide ((2016 : Int) < (n : Int)) = true := by simp; omega
    have HE := hide (show parE l = 3 by unfold parE; rw [if_pos (by omega)])
    have HM := hide (show parM l = zeroM by unfold parM; rw [if_neg (by rw [HE.out]; decide)])
    clear hlen hbig
    go_enter Tryd.func10, Tryd.ntmps10
    go_wp2
    refine ret_im (g := w.heap.size) rfl rfl rfl (Blk.new w _ [.int .u32 0, .int .u32 0, .int .i64 0, .int .i64 0, .int .i64 0, .int .i64 0, .int .i64 0, .int .i64 0, .slice none 0 0, .slice none 0 0, .slice none 0 0, .int .i64 0, .int .i64 0]) rfl ?_
    exact GivesM.zero HM.out HE.out (below_box w _)
  · have hd : decide ((2016 : Int) < (n : Int)) = false := by simp; omega
    have HBG := hide hbig
    have HLEN := hide hlen
    clear hlen
    by_cases hF : Frm l
    · obtain ⟨z, hz⟩ : ∃ z, chkM (rdM l) = z := ⟨_, rfl⟩
      have HE := hide (show parE l = z by unfold parE; rw [if_neg (by have := HBG.out; have := HLEN.out; omega), if_neg (fun h => h hF)]; exact hz)
      have HZ := hide hz
      have HF := hide hF
      clear hbig hz hF
      go_enter Tryd.func10, Tryd.ntmps10
      go_wp2_with fail
      refine (decoded_any B A n c l _ (hr.keep (below_box w _) hB) (Nat.le_trans hB (below_box w _).size) (by have := HBG.out; omega)).mono ?_
      rintro e' w2 ⟨K, rfl, hm, o1, o2, o3, hb⟩
      rw [(dec_yes HF.out).1] at hm
      rw [(dec_yes HF.out).2]
      have bZ := (Blk.new w 28 [.int .u32 0, .int .u32 0, .int .i64 0, .int .i64 0, .int .i64 0, .int .i64 0, .int .i64 0, .int .i64 0, .slice none 0 0, .slice none 0 0, .slice none 0 0, .int .i64 0, .int .i64 0]).keep hb (by simp)
      have hb1 := box_then hb
      have hK := held_of hm (rd_wf l) o1 o2 o3
      have hb2 := below_box w2 (.cells #[.int .u32 K.v, .int .u32 K.f, .int .i64 K.e, .int .i64 K.s, .int .i64 K.o, .int .i64 K.n, .int .i64 K.i, .int .i64 K.u, .slice K.fA K.fn K.fc, .slice K.sA K.sn K.sc, .slice K.mA K.mn K.mc, .int .i64 K.x, .int .i64 K.y] 28)
      have bC := Blk.new w2 28 [.int .u32 K.v, .int .u32 K.f, .int .i64 K.e, .int .i64 K.s, .int .i64 K.o, .int .i64 K.n, .int .i64 K.i, .int .i64 K.u, .slice K.fA K.fn K.fc, .slice K.sA K.sn K.sc, .slice K.mA K.mn K.mc, .int .i64 K.x, .int .i64 K.y]
      have OW := hide (And.intro (own_below2 o1 hb2) (And.intro (own_below2 o2 hb2) (own_below2 o3 hb2)))
      have hb3 := hb1.trans (hb2.mono hb1.size)
      have bZ2 := bZ.keep hb2 bZ.lt
      have hZ := hide (show chkM K.m = z by rw [hm]; exact HZ.out)
      have HK := hide hm
      have KH := hide ((hK.keep hb2 (Nat.le_refl _)).more hb2.size)
      have qne : w.heap.size ≠ w2.heap.size := by have := hb.size; simp at this; omega
      clear o1 o2 o3 hb hm hK hb1 bZ
      go_upto_region 6 with (fail)
      generalize w2.heap.size = q at bC qne ⊢
      generalize w2.alloc (.cells #[.int .u32 K.v, .int .u32 K.f, .int .i64 K.e, .int .i64 K.s, .int .i64 K.o, .int .i64 K.n, .int .i64 K.i, .int .i64 K.u, .slice K.fA K.fn K.fc, .slice K.sA K.sn K.sc, .slice K.mA K.mn K.mc, .int .i64 K.x, .int .i64 K.y] 28) = w3 at bC OW hb3 bZ2 KH ⊢
      clear hb2
      obtain ⟨k0, k1, k2, k3, k4, k5, k6, k7, k8, k9, k10, k11, k12⟩ := cells13 bC
      have lC := bC.lt
      go_wp2_with fail
      refine (Check11_any K z w3 KH.out hZ).mono ?_
      rintro e' w4 ⟨rfl, hb4⟩
      clear k0 k1 k2 k3 k4 k5 k6 k7 k8 k9 k10 k11 k12
      have bC4 := bC.keep hb4 bC.lt
      have bZ4 := bZ2.keep hb4 bZ2.lt
      have hb5 := hb3.trans (hb4.mono hb3.size)
      obtain ⟨o1, o2, o3⟩ := OW.out
      have p1 := own_below2 o1 hb4
      have p2 := own_below2 o2 hb4
      have p3 := own_below2 o3 hb4
      have fZ := fun j => bZ4.frozen j
      obtain ⟨z0, z1, z2, z3, z4, z5, z6, z7, z8, z9, z10, z11, z12⟩ := cells13 bZ4
      obtain ⟨k0, k1, k2, k3, k4, k5, k6, k7, k8, k9, k10, k11, k12⟩ := cells13 bC4
      have lZ := bZ4.lt
      have lC := bC4.lt
      have ALL := hide (And.intro bZ4 (And.intro hb5 (And.intro p1 (And.intro p2 p3))))
      clear bC4 bZ4 hb5 o1 o2 o3 p1 p2 p3 bC bZ2 hb3 hb4 OW
      by_cases h0 : z = 0
      · subst h0
        have HM := hide (show parM l = rdM l by unfold parM; rw [if_pos HE.out])
        go_wp2
        obtain ⟨bZ4, hb5, p1, p2, p3⟩ := ALL.out
        refine ret_im (g := w.heap.size) rfl rfl rfl (bZ4.put13 _ _ _ _ _ _ _ _ _ _ _ _ _) rfl ?_
        refine ⟨K, by rw [HE.out], by rw [HM.out]; exact HK.out, ?_, ?_, ?_, below13 hb5 (Nat.le_refl _) _ _ _ _ _ _ _ _ _ _ _ _ _⟩
        · exact own_lower (own13 p1 (fun k hk => by have := (p1.lt k hk).1; simp at this; omega) _ _ _ _ _ _ _ _ _ _ _ _ _) (by simp)
        · exact own_lower (own13 p2 (fun k hk => by have := (p2.lt k hk).1; simp at this; omega) _ _ _ _ _ _ _ _ _ _ _ _ _) (by simp)
        · exact own_lower (own13 p3 (fun k hk => by have := (p3.lt k hk).1; simp at this; omega) _ _ _ _ _ _ _ _ _ _ _ _ _) (by simp)
      · have HM := hide (show parM l = zeroM by unfold parM; rw [if_neg (by rw [HE.out]; exact h0)])
        have g0 : (z == 0) = false := beq_eq_false_iff_ne.2 h0
        have g1 := bne_of g0
        clear h0
        go_wp2
        obtain ⟨bZ4, hb5, _, _, _⟩ := ALL.out
        refine ret_im (g := w.heap.size) rfl rfl rfl (bZ4.put13 _ _ _ _ _ _ _ _ _ _ _ _ _) rfl ?_
        exact GivesM.zero HM.out HE.out (below13 hb5 (Nat.le_refl _) _ _ _ _ _ _ _ _ _ _ _ _ _)
    · have HE := hide (show parE l = 4 by unfold parE; rw [if_neg (by have := HBG.out; have := HLEN.out; omega), if_pos hF])
      have HM := hide (show parM l = zeroM by unfold parM; rw [if_neg (by rw [HE.out]; decide)])
      have HF := hide hF
      clear hbig hF
      go_enter Tryd.func10, Tryd.ntmps10
      go_wp2_with fail
      refine (decoded_any B A n c l _ (hr.keep (below_box w _) hB) (Nat.le_trans hB (below_box w _).size) (by have := HBG.out; omega)).mono ?_
      rintro e' w2 ⟨K, rfl, hm, o1, o2, o3, hb⟩
      rw [(dec_no HF.out).2]
      have bZ := (Blk.new w 28 [.int .u32 0, .int .u32 0, .int .i64 0, .int .i64 0, .int .i64 0, .int .i64 0, .int .i64 0, .int .i64 0, .slice none 0 0, .slice none 0 0, .slice none 0 0, .int .i64 0, .int .i64 0]).keep hb (by simp)
      have hb1 := box_then hb
      have bZ3 := bZ.alloc (.cells #[.int .u32 K.v, .int .u32 K.f, .int .i64 K.e, .int .i64 K.s, .int .i64 K.o, .int .i64 K.n, .int .i64 K.i, .int .i64 K.u, .slice K.fA K.fn K.fc, .slice K.sA K.sn K.sc, .slice K.mA K.mn K.mc, .int .i64 K.x, .int .i64 K.y] 28)
      have hb3 := hb1.alloc hb1.size (.cells #[.int .u32 K.v, .int .u32 K.f, .int .i64 K.e, .int .i64 K.s, .int .i64 K.o, .int .i64 K.n, .int .i64 K.i, .int .i64 K.u, .slice K.fA K.fn K.fc, .slice K.sA K.sn K.sc, .slice K.mA K.mn K.mc, .int .i64 K.x, .int .i64 K.y] 28)
      clear bZ hb1 hb o1 o2 o3 hm
      go_upto_region 5 with (fail)
      generalize w2.alloc (.cells #[.int .u32 K.v, .int .u32 K.f, .int .i64 K.e, .int .i64 K.s, .int .i64 K.o, .int .i64 K.n, .int .i64 K.i, .int .i64 K.u, .slice K.fA K.fn K.fc, .slice K.sA K.sn K.sc, .slice K.mA K.mn K.mc, .int .i64 K.x, .int .i64 K.y] 28) = w3 at bZ3 hb3 ⊢
      have lZ := bZ3.lt
      have fZ := fun j => bZ3.frozen j
      obtain ⟨z0, z1, z2, z3, z4, z5, z6, z7, z8, z9, z10, z11, z12⟩ := cells13 bZ3
      have ZZ := hide (And.intro bZ3 hb3)
      clear bZ3 hb3
      go_wp2
      refine ret_im (g := w.heap.size) rfl rfl rfl (ZZ.out.1.put13 _ _ _ _ _ _ _ _ _ _ _ _ _) rfl ?_
      exact GivesM.zero HM.out HE.out (below13 ZZ.out.2 (Nat.le_refl _) _ _ _ _ _ _ _ _ _ _ _ _ _)

end Go.Proofs.YtdikiabjkmigdaaDoor
namespace Go.Proofs.YtdikiabjkmigdaaDoor
open Go.RowKit
set_option maxRecDepth 20000
set_option maxHeartbeats 4000000

def oneM : Im := ⟨1, 0, 0, ⟨0, 0, 0, 0, 0⟩, [], [], [], 0, 0⟩
theorem one_chk : chkM oneM = 0 := by decide +kernel
theorem zero_chk : chkM zeroM = 1 := by decide +kernel
theorem one_wf : Wf oneM := by
  refine ⟨by decide, by decide, ?_, ?_, ?_⟩ <;> (intro v hv; simp [oneM] at hv)
theorem one_len : (encM oneM).length = 27 := by decide +kernel
theorem one_enE : enE oneM = 0 := by unfold enE; rw [one_chk, one_len]; decide
theorem one_enL : enL oneM = encM oneM := if_pos one_enE
/-- What was laid is read back. -/
theorem par_back {m : Im} (hw : Wf m) (h : enE m = 0) (ho : m.fr.o = m.fr.n) : parE (encM m) = 0 ∧ parM (encM m) = m := by
  have h0 : chkM m = 0 := by
    unfold enE at h
    split at h
    · contradiction
    · rename_i h1; exact Classical.not_not.1 h1
  have hl : ¬ 2016 < (encM m).length := by
    unfold enE at h
    rw [if_neg (fun hn => hn h0)] at h
    intro hn
    rw [if_pos hn] at h
    omega
  obtain ⟨hf, hr⟩ := rd_enc (chk_fit hw h0) hw.st hw.mv hw.fs
  have hr2 : rdM (encM m) = m := by
    rw [hr]
    obtain ⟨v, f, e, ⟨s, o, n, i, u⟩, fs, st, mv, x, y⟩ := m
    simp only at ho
    subst ho
    rfl
  have hp : parE (encM m) = 0 := by unfold parE; rw [if_neg hl, if_neg (fun hn => hn hf), hr2, h0]
  exact ⟨hp, by unfold parM; rw [if_pos hp, hr2]⟩
theorem held_nil (w : World) (B : Nat) {v : Int} (hv : 0 ≤ v ∧ v < 4294967296) : Held w B ⟨v, 0, 0, 0, 0, 0, 0, 0, 0, 0, [], [], [], none, 0, 0, none, 0, 0, none, 0, 0⟩ :=
  ⟨Row.none_, RowI.none_, RowI.none_, ⟨hv, ⟨by show (0 : Int) ≤ 0; omega, by show (0 : Int) < _; omega⟩, by intro v hv; simp [IV.m] at hv, by intro v hv; simp [IV.m] at hv, by intro v hv; simp [IV.m] at hv⟩⟩
theorem known_any (w : World) : Calls Tryd.prog 5 #[] w fun e w' => e = .returned (.bool true) ∧ Below w.heap.size w w' := by
  go_enter Tryd.func5, Tryd.ntmps5
  go_wp2_with fail
  refine (Encode11_any ⟨1, 0, 0, 0, 0, 0, 0, 0, 0, 0, [], [], [], none, 0, 0, none, 0, 0, none, 0, 0⟩ w (held_nil w _ (by decide))).mono ?_
  rintro e w1 ⟨A1, n1, c1, rfl, r1_, hb1⟩
  rw [show IV.m ⟨1, 0, 0, 0, 0, 0, 0, 0, 0, 0, [], [], [], none, 0, 0, none, 0, 0, none, 0, 0⟩ = oneM from rfl, one_enL] at r1_
  rw [show enE (IV.m ⟨1, 0, 0, 0, 0, 0, 0, 0, 0, 0, [], [], [], none, 0, 0, none, 0, 0, none, 0, 0⟩) = 0 from one_enE]
  have hn := r1_.len
  rw [cs8_len, one_len] at hn
  obtain rfl : n1 = 27 := hn.symm
  clear hn
  obtain ⟨p1, p2⟩ := par_back one_wf one_enE rfl
  have HP := hide (And.intro p1 p2)
  clear p1 p2
  go_wp2_with fail
  refine (Parse_any w1.heap.size A1 27 c1 (encM oneM) w1 r1_ (Nat.le_refl _)).mono ?_
  rw [HP.out.1, HP.out.2]
  rintro e w2 ⟨K, rfl, hm, _, _, _, hb2⟩
  have hv : K.v = 1 := congrArg Im.ver hm
  have HV := hide hv
  have hb3 := hb1.trans (hb2.mono hb1.size)
  obtain ⟨v, f, e, s, o, n, i, u, x, y, fs, st, mv, fA, fn, fc, sA, sn, sc, mA, mn, mc⟩ := K
  simp only at hv
  subst hv
  have hb4 := hb3.alloc hb3.size (.cells #[.int .u32 1, .int .u32 f, .int .i64 e, .int .i64 s, .int .i64 o, .int .i64 n, .int .i64 i, .int .i64 u, .slice fA fn fc, .slice sA sn sc, .slice mA mn mc, .int .i64 x, .int .i64 y] 28)
  have HB := hide hb4
  clear hb1 hb2 hb3 hb4 hm HV HP r1_
  go_wp2_with fail
  refine (Check11_any ⟨0, 0, 0, 0, 0, 0, 0, 0, 0, 0, [], [], [], none, 0, 0, none, 0, 0, none, 0, 0⟩ 1 _ (held_nil _ _ (by decide)) (hide zero_chk)).mono ?_
  rintro e' w4 ⟨rfl, hb5⟩
  have HB2 := hide (HB.out.trans (hb5.mono HB.out.size))
  clear hb5
  go_wp2
  go_ret
  exact ⟨rfl, HB2.out⟩
def lightB (K : IV) : Bool := decide (K.sn ≤ 2000 ∧ K.mn ≤ 2000 ∧ K.fn ≤ 200)
theorem light_b (K : IV) (b : Bool) (w : World) (H : Hid (lightB K = b)) :
    Calls Tryd.prog 6 #[.agg #[.int .u32 K.v, .int .u32 K.f, .int .i64 K.e, .int .i64 K.s, .int .i64 K.o, .int .i64 K.n, .int .i64 K.i, .int .i64 K.u, .slice K.fA K.fn K.fc, .slice K.sA K.sn K.sc, .slice K.mA K.mn K.mc, .int .i64 K.x, .int .i64 K.y]] w (TellsB w b) := by
  obtain ⟨v, f, e, s, o, n, i, u, x, y, fs, st, mv, fA, fn, fc, sA, sn, sc, mA, mn, mc⟩ := K
  simp only
  have h : decide (sn ≤ 2000 ∧ mn ≤ 2000 ∧ fn ≤ 200) = b := H.out
  have cs : (decide ((sn : Int) ≤ 2000) = false ∧ b = false) ∨ (decide ((sn : Int) ≤ 2000) = true ∧ decide ((mn : Int) ≤ 2000) = false ∧ b = false) ∨ (decide ((sn : Int) ≤ 2000) = true ∧ decide ((mn : Int) ≤ 2000) = true ∧ decide ((fn : Int) ≤ 200) = b) := by
    by_cases h1 : sn ≤ 2000
    · by_cases h2 : mn ≤ 2000
      · refine .inr (.inr ⟨by simp; omega, by simp; omega, ?_⟩)
        rw [← h]
        by_cases h3 : fn ≤ 200
        · rw [decide_eq_true (show (fn : Int) ≤ 200 by omega), decide_eq_true ⟨h1, h2, h3⟩]
        · rw [decide_eq_false (show ¬ (fn : Int) ≤ 200 by omega), decide_eq_false (fun hn => h3 hn.2.2)]
      · exact .inr (.inl ⟨by simp; omega, by simp; omega, by rw [← h]; exact decide_eq_false fun hn => h2 hn.2.1⟩)
    · exact .inl ⟨by simp; omega, by rw [← h]; exact decide_eq_false fun hn => h1 hn.1⟩
  clear H h
  rcases cs with ⟨h1, rfl⟩ | ⟨h1, h2, rfl⟩ | ⟨h1, h2, h3⟩
  · go_enter Tryd.func6, Tryd.ntmps6
    go_wp2
    go_ret
    exact ⟨rfl, below_box w _⟩
  · go_enter Tryd.func6, Tryd.ntmps6
    go_wp2
    go_ret
    exact ⟨rfl, below_box w _⟩
  · have HH := hide h3
    cases b
    all_goals
      go_enter Tryd.func6, Tryd.ntmps6
      go_wp2
      go_ret
      exact ⟨rfl, below_box w _⟩

end Go.Proofs.YtdikiabjkmigdaaDoor
