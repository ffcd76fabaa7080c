/-
  Contracts: image.Sign, image.Open.
-/
import Derived.Test.YtdikiabjkmigdaaGreatDoorYg5
import Derived.Deep.Cut
import Derived.Deep.DeepCutAuto
import Derived.Test.YtdikiabjkmigdaaGreatDoorYg2
import Derived.Test.YtdikiabjkmigdaaGreatDoorILent
import Derived.Deep.QuietTactic
import Derived.BigQuiet
import Derived.Test.YtdikiabjkmigdaaGreatDoorYh2
namespace Go.Proofs.YtdikiabjkmigdaaGreatDoor
open Go.RowKit
set_option maxRecDepth 20000
set_option maxHeartbeats 4000000

/-- What a result of new memory holds. -/
theorem held_of {w w' : World} {K : IV} {m : Im} (hm : K.m = m) (hw : Wf m) (o1 : w'.ownsRow w.heap.size 21 1 (.slice K.fA K.fn K.fc) K.fn (c32 K.fs)) (o2 : w'.ownsRow w.heap.size 56 2 (.slice K.sA K.sn K.sc) K.sn (csI K.st)) (o3 : w'.ownsRow w.heap.size 56 2 (.slice K.mA K.mn K.mc) K.mn (csI K.mv)) : Held w' w'.heap.size K := by
  subst hm
  exact ⟨Row.of_own o1, RowI.of_own o2 hw.st, RowI.of_own o3 hw.mv, hw⟩
theorem zero_wf : Wf zeroM := by
  refine ⟨by decide, by decide, ?_, ?_, ?_⟩ <;> (intro v hv; simp [zeroM] at hv)
theorem par_wf (l : List UInt8) : Wf (parM l) := by
  unfold parM; split
  · exact rd_wf l
  · exact zero_wf
theorem own_below2 {w w' : World} {base n m : Nat} {e : TypeId} {v : Value} {xs : List Value} (h : w.ownsRow base e m v n xs) (hb : Below w.heap.size w w') : w'.ownsRow base e m v n xs := by
  refine ⟨h.1, ?_⟩
  rcases h.2 with h2 | ⟨g, cap, cur, rfl, hb', hg, r⟩
  · exact .inl h2
  · exact .inr ⟨g, cap, cur, rfl, hb', (hb.block g (Array.getElem?_eq_some_iff.1 hg).1).trans hg, r⟩
theorem Parse_any (B : Nat) (A : Option Addr) (n c : Nat) (l : List UInt8) (w : World) (hr : Row w B A n c (cs8 l)) (hB : B ≤ w.heap.size) :
    Calls Tryz.prog 12 #[.slice A n c] w (GivesM w (parM l) (parE l)) := by
  have hlen := hr.len
  rw [cs8_len] at hlen
  by_cases hbig : 2016 < n
  · have hd : decide ((2016 : Int) < (n : Int)) = true := by simp; omega
    have HE := hide (show parE l = 3 by unfold parE; rw [if_pos (by omega)])
    have HM := hide (show parM l = zeroM by unfold parM; rw [if_neg (by rw [HE.out]; decide)])
    clear hlen hbig
    go_enter Tryz.func12, Tryz.ntmps12
    go_wp2
    refine ret_im (g := w.heap.size) rfl rfl rfl (Blk.new w _ [.int .u32 0, .int .u32 0, .int .i64 0, .int .i64 0, .int .i64 0, .int .i64 0, .int .i64 0, .int .i64 0, .slice none 0 0, .slice none 0 0, .slice none 0 0, .int .i64 0, .int .i64 0]) rfl ?_
    exact GivesM.zero HM.out HE.out (below_box w _)
  · have hd : decide ((2016 : Int) < (n : Int)) = false := by simp; omega
    have HBG := hide hbig
    have HLEN := hide hlen
    clear hlen
    by_cases hF : Frm l
    · obtain ⟨z, hz⟩ : ∃ z, chkM (rdM l) = z := ⟨_, rfl⟩
      have HE := hide (show parE l = z by unfold parE; rw [if_neg (by have := HBG.out; have := HLEN.out; omega), if_neg (fun h => h hF)]; exact hz)
      have HZ := hide hz
      have HF := hide hF
      clear hbig hz hF
      go_enter Tryz.func12, Tryz.ntmps12
      go_wp2_with fail
      refine (decoded_any B A n c l _ (hr.keep (below_box w _) hB) (Nat.le_trans hB (below_box w _).size) (by have := HBG.out; omega)).mono ?_
      rintro e' w2 ⟨K, rfl, hm, o1, o2, o3, hb⟩
      rw [(dec_yes HF.out).1] at hm
      rw [(dec_yes HF.out).2]
      have bZ := (Blk.new w 28 [.int .u32 0, .int .u32 0, .int .i64 0, .int .i64 0, .int .i64 0, .int .i64 0, .int .i64 0, .int .i64 0, .slice none 0 0, .slice none 0 0, .slice none 0 0, .int .i64 0, .int .i64 0]).keep hb (by simp)
      have hb1 := box_then hb
      have hK := held_of hm (rd_wf l) o1 o2 o3
      have hb2 := below_box w2 (.cells #[.int .u32 K.v, .int .u32 K.f, .int .i64 K.e, .int .i64 K.s, .int .i64 K.o, .int .i64 K.n, .int .i64 K.i, .int .i64 K.u, .slice K.fA K.fn K.fc, .slice K.sA K.sn K.sc, .slice K.mA K.mn K.mc, .int .i64 K.x, .int .i64 K.y] 28)
      have bC := Blk.new w2 28 [.int .u32 K.v, .int .u32 K.f, .int .i64 K.e, .int .i64 K.s, .int .i64 K.o, .int .i64 K.n, .int .i64 K.i, .int .i64 K.u, .slice K.fA K.fn K.fc, .slice K.sA K.sn K.sc, .slice K.mA K.mn K.mc, .int .i64 K.x, .int .i64 K.y]
      have OW := hide (And.intro (own_below2 o1 hb2) (And.intro (own_below2 o2 hb2) (own_below2 o3 hb2)))
      have hb3 := hb1.trans (hb2.mono hb1.size)
      have bZ2 := bZ.keep hb2 bZ.lt
      have hZ := hide (show chkM K.m = z by rw [hm]; exact HZ.out)
      have HK := hide hm
      have KH := hide ((hK.keep hb2 (Nat.le_refl _)).more hb2.size)
      have qne : w.heap.size ≠ w2.heap.size := by have := hb.size; simp at this; omega
      clear o1 o2 o3 hb hm hK hb1 bZ
      go_upto_region 6 with (fail)
      generalize w2.heap.size = q at bC qne ⊢
      generalize w2.alloc (.cells #[.int .u32 K.v, .int .u32 K.f, .int .i64 K.e, .int .i64 K.s, .int .i64 K.o, .int .i64 K.n, .int .i64 K.i, .int .i64 K.u, .slice K.fA K.fn K.fc, .slice K.sA K.sn K.sc, .slice K.mA K.mn K.mc, .int .i64 K.x, .int .i64 K.y] 28) = w3 at bC OW hb3 bZ2 KH ⊢
      clear hb2
      obtain ⟨k0, k1, k2, k3, k4, k5, k6, k7, k8, k9, k10, k11, k12⟩ := cells13 bC
      have lC := bC.lt
      go_wp2_with fail
      refine (Check11_any K z w3 KH.out hZ).mono ?_
      rintro e' w4 ⟨rfl, hb4⟩
      clear k0 k1 k2 k3 k4 k5 k6 k7 k8 k9 k10 k11 k12
      have bC4 := bC.keep hb4 bC.lt
      have bZ4 := bZ2.keep hb4 bZ2.lt
      have hb5 := hb3.trans (hb4.mono hb3.size)
      obtain ⟨o1, o2, o3⟩ := OW.out
      have p1 := own_below2 o1 hb4
      have p2 := own_below2 o2 hb4
      have p3 := own_below2 o3 hb4
      have fZ := fun j => bZ4.frozen j
      obtain ⟨z0, z1, z2, z3, z4, z5, z6, z7, z8, z9, z10, z11, z12⟩ := cells13 bZ4
      obtain ⟨k0, k1, k2, k3, k4, k5, k6, k7, k8, k9, k10, k11, k12⟩ := cells13 bC4
      have lZ := bZ4.lt
      have lC := bC4.lt
      have ALL := hide (And.intro bZ4 (And.intro hb5 (And.intro p1 (And.intro p2 p3))))
      clear bC4 bZ4 hb5 o1 o2 o3 p1 p2 p3 bC bZ2 hb3 hb4 OW
      by_cases h0 : z = 0
      · subst h0
        have HM := hide (show parM l = rdM l by unfold parM; rw [if_pos HE.out])
        go_wp2
        obtain ⟨bZ4, hb5, p1, p2, p3⟩ := ALL.out
        refine ret_im (g := w.heap.size) rfl rfl rfl (bZ4.put13 _ _ _ _ _ _ _ _ _ _ _ _ _) rfl ?_
        refine ⟨K, by rw [HE.out], by rw [HM.out]; exact HK.out, ?_, ?_, ?_, below13 hb5 (Nat.le_refl _) _ _ _ _ _ _ _ _ _ _ _ _ _⟩
        · exact own_lower (own13 p1 (fun k hk => by have := (p1.lt k hk).1; simp at this; omega) _ _ _ _ _ _ _ _ _ _ _ _ _) (by simp)
        · exact own_lower (own13 p2 (fun k hk => by have := (p2.lt k hk).1; simp at this; omega) _ _ _ _ _ _ _ _ _ _ _ _ _) (by simp)
        · exact own_lower (own13 p3 (fun k hk => by have := (p3.lt k hk).1; simp at this; omega) _ _ _ _ _ _ _ _ _ _ _ _ _) (by simp)
      · have HM := hide (show parM l = zeroM by unfold parM; rw [if_neg (by rw [HE.out]; exact h0)])
        have g0 : (z == 0) = false := beq_eq_false_iff_ne.2 h0
        have g1 := bne_of g0
        clear h0
        go_wp2
        obtain ⟨bZ4, hb5, _, _, _⟩ := ALL.out
        refine ret_im (g := w.heap.size) rfl rfl rfl (bZ4.put13 _ _ _ _ _ _ _ _ _ _ _ _ _) rfl ?_
        exact GivesM.zero HM.out HE.out (below13 hb5 (Nat.le_refl _) _ _ _ _ _ _ _ _ _ _ _ _ _)
    · have HE := hide (show parE l = 4 by unfold parE; rw [if_neg (by have := HBG.out; have := HLEN.out; omega), if_pos hF])
      have HM := hide (show parM l = zeroM by unfold parM; rw [if_neg (by rw [HE.out]; decide)])
      have HF := hide hF
      clear hbig hF
      go_enter Tryz.func12, Tryz.ntmps12
      go_wp2_with fail
      refine (decoded_any B A n c l _ (hr.keep (below_box w _) hB) (Nat.le_trans hB (below_box w _).size) (by have := HBG.out; omega)).mono ?_
      rintro e' w2 ⟨K, rfl, hm, o1, o2, o3, hb⟩
      rw [(dec_no HF.out).2]
      have bZ := (Blk.new w 28 [.int .u32 0, .int .u32 0, .int .i64 0, .int .i64 0, .int .i64 0, .int .i64 0, .int .i64 0, .int .i64 0, .slice none 0 0, .slice none 0 0, .slice none 0 0, .int .i64 0, .int .i64 0]).keep hb (by simp)
      have hb1 := box_then hb
      have bZ3 := bZ.alloc (.cells #[.int .u32 K.v, .int .u32 K.f, .int .i64 K.e, .int .i64 K.s, .int .i64 K.o, .int .i64 K.n, .int .i64 K.i, .int .i64 K.u, .slice K.fA K.fn K.fc, .slice K.sA K.sn K.sc, .slice K.mA K.mn K.mc, .int .i64 K.x, .int .i64 K.y] 28)
      have hb3 := hb1.alloc hb1.size (.cells #[.int .u32 K.v, .int .u32 K.f, .int .i64 K.e, .int .i64 K.s, .int .i64 K.o, .int .i64 K.n, .int .i64 K.i, .int .i64 K.u, .slice K.fA K.fn K.fc, .slice K.sA K.sn K.sc, .slice K.mA K.mn K.mc, .int .i64 K.x, .int .i64 K.y] 28)
      clear bZ hb1 hb o1 o2 o3 hm
      go_upto_region 5 with (fail)
      generalize w2.alloc (.cells #[.int .u32 K.v, .int .u32 K.f, .int .i64 K.e, .int .i64 K.s, .int .i64 K.o, .int .i64 K.n, .int .i64 K.i, .int .i64 K.u, .slice K.fA K.fn K.fc, .slice K.sA K.sn K.sc, .slice K.mA K.mn K.mc, .int .i64 K.x, .int .i64 K.y] 28) = w3 at bZ3 hb3 ⊢
      have lZ := bZ3.lt
      have fZ := fun j => bZ3.frozen j
      obtain ⟨z0, z1, z2, z3, z4, z5, z6, z7, z8, z9, z10, z11, z12⟩ := cells13 bZ3
      have ZZ := hide (And.intro bZ3 hb3)
      clear bZ3 hb3
      go_wp2
      refine ret_im (g := w.heap.size) rfl rfl rfl (ZZ.out.1.put13 _ _ _ _ _ _ _ _ _ _ _ _ _) rfl ?_
      exact GivesM.zero HM.out HE.out (below13 ZZ.out.2 (Nat.le_refl _) _ _ _ _ _ _ _ _ _ _ _ _ _)

end Go.Proofs.YtdikiabjkmigdaaGreatDoor
namespace Go.Proofs.YtdikiabjkmigdaaGreatDoor
open Go.RowKit
set_option maxRecDepth 20000
set_option maxHeartbeats 4000000

def oneM : Im := ⟨1, 0, 0, ⟨0, 0, 0, 0, 0⟩, [], [], [], 0, 0⟩
theorem one_chk : chkM oneM = 0 := by decide +kernel
theorem zero_chk : chkM zeroM = 1 := by decide +kernel
theorem one_wf : Wf oneM := by
  refine ⟨by decide, by decide, ?_, ?_, ?_⟩ <;> (intro v hv; simp [oneM] at hv)
theorem one_len : (encM oneM).length = 27 := by decide +kernel
theorem one_enE : enE oneM = 0 := by unfold enE; rw [one_chk, one_len]; decide
theorem one_enL : enL oneM = encM oneM := if_pos one_enE
/-- What was laid is read back. -/
theorem par_back {m : Im} (hw : Wf m) (h : enE m = 0) (ho : m.fr.o = m.fr.n) : parE (encM m) = 0 ∧ parM (encM m) = m := by
  have h0 : chkM m = 0 := by
    unfold enE at h
    split at h
    · contradiction
    · rename_i h1; exact Classical.not_not.1 h1
  have hl : ¬ 2016 < (encM m).length := by
    unfold enE at h
    rw [if_neg (fun hn => hn h0)] at h
    intro hn
    rw [if_pos hn] at h
    omega
  obtain ⟨hf, hr⟩ := rd_enc (chk_fit hw h0) hw.st hw.mv hw.fs
  have hr2 : rdM (encM m) = m := by
    rw [hr]
    obtain ⟨v, f, e, ⟨s, o, n, i, u⟩, fs, st, mv, x, y⟩ := m
    simp only at ho
    subst ho
    rfl
  have hp : parE (encM m) = 0 := by unfold parE; rw [if_neg hl, if_neg (fun hn => hn hf), hr2, h0]
  exact ⟨hp, by unfold parM; rw [if_pos hp, hr2]⟩
theorem held_nil (w : World) (B : Nat) {v : Int} (hv : 0 ≤ v ∧ v < 4294967296) : Held w B ⟨v, 0, 0, 0, 0, 0, 0, 0, 0, 0, [], [], [], none, 0, 0, none, 0, 0, none, 0, 0⟩ :=
  ⟨Row.none_, RowI.none_, RowI.none_, ⟨hv, ⟨by show (0 : Int) ≤ 0; omega, by show (0 : Int) < _; omega⟩, by intro v hv; simp [IV.m] at hv, by intro v hv; simp [IV.m] at hv, by intro v hv; simp [IV.m] at hv⟩⟩
theorem known_any (w : World) : Calls Tryz.prog 4 #[] w fun e w' => e = .returned (.bool true) ∧ Below w.heap.size w w' := by
  go_enter Tryz.func4, Tryz.ntmps4
  go_wp2_with fail
  refine (Encode11_any ⟨1, 0, 0, 0, 0, 0, 0, 0, 0, 0, [], [], [], none, 0, 0, none, 0, 0, none, 0, 0⟩ w (held_nil w _ (by decide))).mono ?_
  rintro e w1 ⟨A1, n1, c1, rfl, r1_, hb1⟩
  rw [show IV.m ⟨1, 0, 0, 0, 0, 0, 0, 0, 0, 0, [], [], [], none, 0, 0, none, 0, 0, none, 0, 0⟩ = oneM from rfl, one_enL] at r1_
  rw [show enE (IV.m ⟨1, 0, 0, 0, 0, 0, 0, 0, 0, 0, [], [], [], none, 0, 0, none, 0, 0, none, 0, 0⟩) = 0 from one_enE]
  have hn := r1_.len
  rw [cs8_len, one_len] at hn
  obtain rfl : n1 = 27 := hn.symm
  clear hn
  obtain ⟨p1, p2⟩ := par_back one_wf one_enE rfl
  have HP := hide (And.intro p1 p2)
  clear p1 p2
  go_wp2_with fail
  refine (Parse_any w1.heap.size A1 27 c1 (encM oneM) w1 r1_ (Nat.le_refl _)).mono ?_
  rw [HP.out.1, HP.out.2]
  rintro e w2 ⟨K, rfl, hm, _, _, _, hb2⟩
  have hv : K.v = 1 := congrArg Im.ver hm
  have HV := hide hv
  have hb3 := hb1.trans (hb2.mono hb1.size)
  obtain ⟨v, f, e, s, o, n, i, u, x, y, fs, st, mv, fA, fn, fc, sA, sn, sc, mA, mn, mc⟩ := K
  simp only at hv
  subst hv
  have hb4 := hb3.alloc hb3.size (.cells #[.int .u32 1, .int .u32 f, .int .i64 e, .int .i64 s, .int .i64 o, .int .i64 n, .int .i64 i, .int .i64 u, .slice fA fn fc, .slice sA sn sc, .slice mA mn mc, .int .i64 x, .int .i64 y] 28)
  have HB := hide hb4
  clear hb1 hb2 hb3 hb4 hm HV HP r1_
  go_wp2_with fail
  refine (Check11_any ⟨0, 0, 0, 0, 0, 0, 0, 0, 0, 0, [], [], [], none, 0, 0, none, 0, 0, none, 0, 0⟩ 1 _ (held_nil _ _ (by decide)) (hide zero_chk)).mono ?_
  rintro e' w4 ⟨rfl, hb5⟩
  have HB2 := hide (HB.out.trans (hb5.mono HB.out.size))
  clear hb5
  go_wp2
  go_ret
  exact ⟨rfl, HB2.out⟩
def lightB (K : IV) : Bool := decide (K.sn ≤ 2000 ∧ K.mn ≤ 2000 ∧ K.fn ≤ 200)
theorem light_b (K : IV) (b : Bool) (w : World) (H : Hid (lightB K = b)) :
    Calls Tryz.prog 5 #[.agg #[.int .u32 K.v, .int .u32 K.f, .int .i64 K.e, .int .i64 K.s, .int .i64 K.o, .int .i64 K.n, .int .i64 K.i, .int .i64 K.u, .slice K.fA K.fn K.fc, .slice K.sA K.sn K.sc, .slice K.mA K.mn K.mc, .int .i64 K.x, .int .i64 K.y]] w (TellsB w b) := by
  obtain ⟨v, f, e, s, o, n, i, u, x, y, fs, st, mv, fA, fn, fc, sA, sn, sc, mA, mn, mc⟩ := K
  simp only
  have h : decide (sn ≤ 2000 ∧ mn ≤ 2000 ∧ fn ≤ 200) = b := H.out
  have cs : (decide ((sn : Int) ≤ 2000) = false ∧ b = false) ∨ (decide ((sn : Int) ≤ 2000) = true ∧ decide ((mn : Int) ≤ 2000) = false ∧ b = false) ∨ (decide ((sn : Int) ≤ 2000) = true ∧ decide ((mn : Int) ≤ 2000) = true ∧ decide ((fn : Int) ≤ 200) = b) := by
    by_cases h1 : sn ≤ 2000
    · by_cases h2 : mn ≤ 2000
      · refine .inr (.inr ⟨by simp; omega, by simp; omega, ?_⟩)
        rw [← h]
        by_cases h3 : fn ≤ 200
        · rw [decide_eq_true (show (fn : Int) ≤ 200 by omega), decide_eq_true ⟨h1, h2, h3⟩]
        · rw [decide_eq_false (show ¬ (fn : Int) ≤ 200 by omega), decide_eq_false (fun hn => h3 hn.2.2)]
      · exact .inr (.inl ⟨by simp; omega, by simp; omega, by rw [← h]; exact decide_eq_false fun hn => h2 hn.2.1⟩)
    · exact .inl ⟨by simp; omega, by rw [← h]; exact decide_eq_false fun hn => h1 hn.1⟩
  clear H h
  rcases cs with ⟨h1, rfl⟩ | ⟨h1, h2, rfl⟩ | ⟨h1, h2, h3⟩
  · go_enter Tryz.func5, Tryz.ntmps5
    go_wp2
    go_ret
    exact ⟨rfl, below_box w _⟩
  · go_enter Tryz.func5, Tryz.ntmps5
    go_wp2
    go_ret
    exact ⟨rfl, below_box w _⟩
  · have HH := hide h3
    cases b
    all_goals
      go_enter Tryz.func5, Tryz.ntmps5
      go_wp2
      go_ret
      exact ⟨rfl, below_box w _⟩

end Go.Proofs.YtdikiabjkmigdaaGreatDoor
namespace Go.Proofs.YtdikiabjkmigdaaGreatDoor
open Go.RowKit
set_option maxRecDepth 20000
set_option maxHeartbeats 4000000

theorem Ints_same (B B' : Nat) (A A' : Option Addr) (n c n' c' : Nat) (l : List Int) (w : World) (hr : Row w B A n c (c32 l)) (hr' : Row w B' A' n' c' (c32 l)) :
    Calls Tryz.prog 20 #[.slice A n c, .slice A' n' c'] w (Drew true w) := by
  obtain rfl : n' = n := by have h1 := hr.len; have h2 := hr'.len; omega
  have hn := hr.len
  rw [c32_len] at hn
  subst hn
  have hm := hr.max
  have hcap := hr.cap
  unfold maxLen at hm
  go_enter Tryz.func20, Tryz.ntmps20
  go_wp2
  go_loopw [5] (fun i wr => ∃ j k : Nat, j ≤ l.length ∧ i = .int .i64 (j : Int) ∧ wr = w.drewN k) (fun i _ => l.length - (intOf i).toNat)
  case atStart => exact ⟨0, 0, Nat.zero_le _, rfl, rfl⟩
  case round =>
    obtain ⟨j, k, hj, rfl, rfl⟩ := hrel
    by_cases hlt : j < l.length
    · obtain ⟨b, o, u, rfl, _, hu, hc⟩ := hr.get hlt
      obtain ⟨b', o', u', rfl, _, hu', hc'⟩ := hr'.get hlt
      rw [c32_at hlt] at hu hu'
      obtain rfl := Option.some.inj hu
      obtain rfl := Option.some.inj hu'
      have hi1 : (j : Int) < (l.length : Int) := by omega
      clear hu hu' hr hr'
      go_wp2
      go_quiet (fail)
      go_wp2
      go_roundw
      case rel => exact ⟨j + 1, k + nq, by omega, by go_num, by first | rfl | exact World.drewN_drewN⟩
      case measure => simp [intOf]; omega
    · obtain rfl : j = l.length := by omega
      go_wp2
      go_ret
      exact ⟨k, rfl, rfl⟩
theorem img_two2 (w : World) (o : Obj) (cs : List Value) : Blk ((w.alloc o).alloc (.cells cs.toArray 28)) (w.heap.size + 1) 28 cs := Blk.at _ _ _ (by simp)
theorem cells13s {w : World} {g : Nat} {t : TypeId} {c0 c1 c2 c3 c4 c5 c6 c7 c8 c9 c10 c11 c12 : Value} (b : Blk w g t [c0, c1, c2, c3, c4, c5, c6, c7, c8, c9, c10, c11, c12]) :
    w.cell? ⟨g, 0, none⟩ = some c0 ∧ w.cell? ⟨g, 1, none⟩ = some c1 ∧ w.cell? ⟨g, 2, none⟩ = some c2 ∧ w.cell? ⟨g, 3, none⟩ = some c3 ∧ w.cell? ⟨g, 4, none⟩ = some c4 ∧ w.cell? ⟨g, 5, none⟩ = some c5 ∧ w.cell? ⟨g, 6, none⟩ = some c6 ∧ w.cell? ⟨g, 7, none⟩ = some c7 ∧ w.cell? ⟨g, 8, none⟩ = some c8 ∧ w.cell? ⟨g, 9, none⟩ = some c9 ∧ w.cell? ⟨g, 10, none⟩ = some c10 ∧ w.cell? ⟨g, 11, none⟩ = some c11 ∧ w.cell? ⟨g, 12, none⟩ = some c12 :=
  ⟨b.cell (j := 0) rfl, b.cell (j := 1) rfl, b.cell (j := 2) rfl, b.cell (j := 3) rfl, b.cell (j := 4) rfl, b.cell (j := 5) rfl, b.cell (j := 6) rfl, b.cell (j := 7) rfl, b.cell (j := 8) rfl, b.cell (j := 9) rfl, b.cell (j := 10) rfl, b.cell (j := 11) rfl, b.cell (j := 12) rfl⟩
theorem boxes_below (w : World) (a b : Obj) : Below w.heap.size w ((w.alloc a).alloc b) := ((Below.refl _ w).alloc (Nat.le_refl _) a).alloc (by simp) b
theorem Same11_any (K D : IV) (B B' : Nat) (w : World) (hK : Held w B K) (hD : Held w B' D) (hB : B ≤ w.heap.size) (hB' : B' ≤ w.heap.size) (h : K.m = D.m) :
    Calls Tryz.prog 10 #[.agg #[.int .u32 K.v, .int .u32 K.f, .int .i64 K.e, .int .i64 K.s, .int .i64 K.o, .int .i64 K.n, .int .i64 K.i, .int .i64 K.u, .slice K.fA K.fn K.fc, .slice K.sA K.sn K.sc, .slice K.mA K.mn K.mc, .int .i64 K.x, .int .i64 K.y], .agg #[.int .u32 D.v, .int .u32 D.f, .int .i64 D.e, .int .i64 D.s, .int .i64 D.o, .int .i64 D.n, .int .i64 D.i, .int .i64 D.u, .slice D.fA D.fn D.fc, .slice D.sA D.sn D.sc, .slice D.mA D.mn D.mc, .int .i64 D.x, .int .i64 D.y]] w (TellsB w true) := by
  obtain ⟨v, f, e, s, o, n, i, u, x, y, fs, st, mv, fA, fn, fc, sA, sn, sc, mA, mn, mc⟩ := K
  obtain ⟨v', f', e', s', o', n', i', u', x', y', fs', st', mv', fA', fn', fc', sA', sn', sc', mA', mn', mc'⟩ := D
  simp only [IV.m, Im.mk.injEq, Fr.mk.injEq] at h
  obtain ⟨rfl, rfl, rfl, ⟨rfl, rfl, rfl, rfl, rfl⟩, rfl, rfl, rfl, rfl, rfl⟩ := h
  have k1 := hK.fs
  have k2 := hK.st
  have k3 := hK.mv
  have d1 := hD.fs
  have d2 := hD.st
  have d3 := hD.mv
  simp only at k1 k2 k3 d1 d2 d3 ⊢
  clear hK hD
  go_enter Tryz.func10, Tryz.ntmps10
  have bK := (Blk.new w 28 [.int .u32 v, .int .u32 f, .int .i64 e, .int .i64 s, .int .i64 o, .int .i64 n, .int .i64 i, .int .i64 u, .slice fA fn fc, .slice sA sn sc, .slice mA mn mc, .int .i64 x, .int .i64 y]).alloc (.cells #[.int .u32 v, .int .u32 f, .int .i64 e, .int .i64 s, .int .i64 o, .int .i64 n, .int .i64 i, .int .i64 u, .slice fA' fn' fc', .slice sA' sn' sc', .slice mA' mn' mc', .int .i64 x, .int .i64 y] 28)
  have bD := img_two2 w (.cells #[.int .u32 v, .int .u32 f, .int .i64 e, .int .i64 s, .int .i64 o, .int .i64 n, .int .i64 i, .int .i64 u, .slice fA fn fc, .slice sA sn sc, .slice mA mn mc, .int .i64 x, .int .i64 y] 28) [.int .u32 v, .int .u32 f, .int .i64 e, .int .i64 s, .int .i64 o, .int .i64 n, .int .i64 i, .int .i64 u, .slice fA' fn' fc', .slice sA' sn' sc', .slice mA' mn' mc', .int .i64 x, .int .i64 y]
  have hb := boxes_below w (.cells #[.int .u32 v, .int .u32 f, .int .i64 e, .int .i64 s, .int .i64 o, .int .i64 n, .int .i64 i, .int .i64 u, .slice fA fn fc, .slice sA sn sc, .slice mA mn mc, .int .i64 x, .int .i64 y] 28) (.cells #[.int .u32 v, .int .u32 f, .int .i64 e, .int .i64 s, .int .i64 o, .int .i64 n, .int .i64 i, .int .i64 u, .slice fA' fn' fc', .slice sA' sn' sc', .slice mA' mn' mc', .int .i64 x, .int .i64 y] 28)
  have k1 := k1.keep hb hB
  have k2 := k2.keep hb hB
  have k3 := k3.keep hb hB
  have d1 := d1.keep hb hB'
  have d2 := d2.keep hb hB'
  have d3 := d3.keep hb hB'
  have HB := hide hb
  clear hb
  have HBK := hide (And.intro bK bD)
  clear bK bD
  go_wp2_with fail
  generalize (w.alloc (.cells #[.int .u32 v, .int .u32 f, .int .i64 e, .int .i64 s, .int .i64 o, .int .i64 n, .int .i64 i, .int .i64 u, .slice fA fn fc, .slice sA sn sc, .slice mA mn mc, .int .i64 x, .int .i64 y] 28)).alloc (.cells #[.int .u32 v, .int .u32 f, .int .i64 e, .int .i64 s, .int .i64 o, .int .i64 n, .int .i64 i, .int .i64 u, .slice fA' fn' fc', .slice sA' sn' sc', .slice mA' mn' mc', .int .i64 x, .int .i64 y] 28) = w1 at HB HBK k1 k2 k3 d1 d2 d3 ⊢
  refine (Ints_same B B' fA fA' fn fc fn' fc' fs w1 k1 d1).mono ?_
  rintro e' w' ⟨kk, rfl, rfl⟩
  have q := below_drewN w1.heap.size w1 kk
  generalize w1.drewN kk = w2 at q ⊢
  have bK := HBK.out.1.keep q HBK.out.1.lt
  have bD := HBK.out.2.keep q HBK.out.2.lt
  have hb2 := HB.out.trans (q.mono HB.out.size)
  have k2 := k2.keep q (Nat.le_trans hB HB.out.size)
  have k3 := k3.keep q (Nat.le_trans hB HB.out.size)
  have d2 := d2.keep q (Nat.le_trans hB' HB.out.size)
  have d3 := d3.keep q (Nat.le_trans hB' HB.out.size)
  obtain ⟨k0_, k1_, k2_, k3_, k4_, k5_, k6_, k7_, k8_, k9_, k10_, k11_, k12_⟩ := cells13s bK
  obtain ⟨z0, z1, z2, z3, z4, z5, z6, z7, z8, z9, z10, z11, z12⟩ := cells13s bD
  have HB2 := hide (And.intro hb2 (And.intro bK bD))
  clear q bK bD hb2
  go_wp2_with fail
  clear k0_ k1_ k2_ k3_ k4_ k5_ k6_ k7_ k8_ k9_ k10_ k11_ k12_ z0 z1 z2 z3 z4 z5 z6 z7 z8 z9 z10 z11 z12
  refine (rSame_any B B' sA sA' sn sn' sc sc' st w2 k2 d2).mono ?_
  rintro e' w' ⟨kk2, rfl, rfl⟩
  have q := below_drewN w2.heap.size w2 kk2
  generalize w2.drewN kk2 = w3 at q ⊢
  have bK := HB2.out.2.1.keep q HB2.out.2.1.lt
  have bD := HB2.out.2.2.keep q HB2.out.2.2.lt
  have hb3 := HB2.out.1.trans (q.mono HB2.out.1.size)
  have k3 := k3.keep q (Nat.le_trans hB HB2.out.1.size)
  have d3 := d3.keep q (Nat.le_trans hB' HB2.out.1.size)
  obtain ⟨k0_, k1_, k2_, k3_, k4_, k5_, k6_, k7_, k8_, k9_, k10_, k11_, k12_⟩ := cells13s bK
  obtain ⟨z0, z1, z2, z3, z4, z5, z6, z7, z8, z9, z10, z11, z12⟩ := cells13s bD
  have HB3 := hide (And.intro hb3 (And.intro bK bD))
  clear q bK bD hb3
  go_wp2_with fail
  clear k0_ k1_ k2_ k3_ k4_ k5_ k6_ k7_ k8_ k9_ k10_ k11_ k12_ z0 z1 z2 z3 z4 z5 z6 z7 z8 z9 z10 z11 z12
  refine (rSame_any B B' mA mA' mn mn' mc mc' mv w3 k3 d3).mono ?_
  rintro e' w' ⟨kk3, rfl, rfl⟩
  have q := below_drewN w3.heap.size w3 kk3
  generalize w3.drewN kk3 = w4 at q ⊢
  have bK := HB3.out.2.1.keep q HB3.out.2.1.lt
  have bD := HB3.out.2.2.keep q HB3.out.2.2.lt
  obtain ⟨k0_, k1_, k2_, k3_, k4_, k5_, k6_, k7_, k8_, k9_, k10_, k11_, k12_⟩ := cells13s bK
  obtain ⟨z0, z1, z2, z3, z4, z5, z6, z7, z8, z9, z10, z11, z12⟩ := cells13s bD
  have HB4 := hide (HB3.out.1.trans (q.mono HB3.out.1.size))
  clear q bK bD
  go_wp2
  go_ret
  exact ⟨rfl, HB4.out⟩

end Go.Proofs.YtdikiabjkmigdaaGreatDoor
namespace Go.Proofs.YtdikiabjkmigdaaGreatDoor
open Go.RowKit
set_option maxRecDepth 20000
set_option maxHeartbeats 4000000

/-- The sealed bytes of an image. -/
def sgL (k : List UInt8) (m : Im) : List UInt8 := if enE m = 0 then sealT k (enL m) else []
noncomputable def opE (k l : List UInt8) : Int := if 2048 < l.length then 3 else if unE k l ≠ 0 then unE k l else parE (unL k l)
noncomputable def opM (k l : List UInt8) : Im := if 2048 < l.length ∨ unE k l ≠ 0 then zeroM else parM (unL k l)
theorem en_len {m : Im} (h : enE m = 0) : (enL m).length ≤ 2016 := by
  unfold enL
  rw [if_pos h]
  unfold enE at h
  split at h
  · contradiction
  · split at h
    · omega
    · omega
theorem Sign11_any (K : IV) (B : Nat) (Ak : Option Addr) (nk ck : Nat) (k : List UInt8) (w : World) (hK : Held w w.heap.size K) (hk : Row w B Ak nk ck (cs8 k)) (hB : B ≤ w.heap.size) (hT : KT B w) (hnk : nk ≤ 1073741824) :
    Calls Tryz.prog 6 #[.agg #[.int .u32 K.v, .int .u32 K.f, .int .i64 K.e, .int .i64 K.s, .int .i64 K.o, .int .i64 K.n, .int .i64 K.i, .int .i64 K.u, .slice K.fA K.fn K.fc, .slice K.sA K.sn K.sc, .slice K.mA K.mn K.mc, .int .i64 K.x, .int .i64 K.y], .slice Ak nk ck] w (GivesE w (sgL k K.m) (enE K.m)) := by
  obtain ⟨z, hz⟩ : ∃ z, enE K.m = z := ⟨_, rfl⟩
  have HZ := hide hz
  have hb0 := below_box w (.cells #[.int .u32 K.v, .int .u32 K.f, .int .i64 K.e, .int .i64 K.s, .int .i64 K.o, .int .i64 K.n, .int .i64 K.i, .int .i64 K.u, .slice K.fA K.fn K.fc, .slice K.sA K.sn K.sc, .slice K.mA K.mn K.mc, .int .i64 K.x, .int .i64 K.y] 28)
  have bQ := Blk.new w 28 [.int .u32 K.v, .int .u32 K.f, .int .i64 K.e, .int .i64 K.s, .int .i64 K.o, .int .i64 K.n, .int .i64 K.i, .int .i64 K.u, .slice K.fA K.fn K.fc, .slice K.sA K.sn K.sc, .slice K.mA K.mn K.mc, .int .i64 K.x, .int .i64 K.y]
  have hK0 := (hK.keep hb0 (Nat.le_refl _)).more hb0.size
  have H0 := hide (And.intro hb0 hK0)
  clear hb0 hK0 bQ
  by_cases h0 : z = 0
  · subst h0
    obtain ⟨L, hL⟩ : ∃ L, enL K.m = L := ⟨_, rfl⟩
    have hlen : L.length ≤ 2016 := by rw [← hL]; exact en_len hz
    have HS := hide (show sgL k K.m = sealT k L by unfold sgL; rw [if_pos hz, hL])
    have HL := hide hL
    clear hL hz
    go_enter Tryz.func6, Tryz.ntmps6
    go_wp2_with fail
    refine (Encode11_any K _ H0.out.2).mono ?_
    rw [HZ.out, HL.out]
    rintro e w2 ⟨A2, n2, c2, rfl, r2_, hb2⟩
    have hb02 := H0.out.1.trans (hb2.mono H0.out.1.size)
    have hn2 := r2_.len
    rw [cs8_len] at hn2
    have hn3 : n2 ≤ 2016 := by omega
    clear hn2 hb2
    have hk2 := (hk.keep hb02 hB).more (Nat.le_trans hB hb02.size)
    have hT2 := (hT.keep hb02 hB).more (Nat.le_trans hB hb02.size)
    go_wp2_with fail
    refine (Seal_any w2.heap.size Ak nk ck k A2 n2 c2 L w2 hk2 r2_ (Nat.le_refl _) hT2 hnk (by omega)).mono ?_
    rintro e w3 ⟨A3, n3, c3, rfl, o3, hb3⟩
    go_wp2
    go_ret2
    exact ⟨A3, n3, c3, by rw [HZ.out]; rfl, by rw [HS.out]; exact Row.of_own o3, hb02.trans (hb3.mono hb02.size)⟩
  · have HS := hide (show sgL k K.m = [] by unfold sgL; rw [if_neg (by rw [hz]; exact h0)])
    have g0 : (z == 0) = false := beq_eq_false_iff_ne.2 h0
    have g1 := bne_of g0
    clear hz h0
    go_enter Tryz.func6, Tryz.ntmps6
    go_wp2_with fail
    refine (Encode11_any K _ H0.out.2).mono ?_
    rw [HZ.out]
    rintro e w2 ⟨A2, n2, c2, rfl, r2_, hb2⟩
    have hb02 := H0.out.1.trans (hb2.mono H0.out.1.size)
    clear hb2
    go_wp2
    go_ret2
    exact GivesE.none_ HS.out HZ.out hb02
theorem Open11_any (B : Nat) (A : Option Addr) (n c : Nat) (l : List UInt8) (Ak : Option Addr) (nk ck : Nat) (k : List UInt8) (w : World) (hr : Row w B A n c (cs8 l)) (hk : Row w B Ak nk ck (cs8 k)) (hB : B ≤ w.heap.size) (hT : KT B w) (hnk : nk ≤ 1073741824) :
    Calls Tryz.prog 8 #[.slice A n c, .slice Ak nk ck] w (GivesM w (opM k l) (opE k l)) := by
  have hlen := hr.len
  rw [cs8_len] at hlen
  have hb0 := below_box w (.cells #[.int .u32 0, .int .u32 0, .int .i64 0, .int .i64 0, .int .i64 0, .int .i64 0, .int .i64 0, .int .i64 0, .slice none 0 0, .slice none 0 0, .slice none 0 0, .int .i64 0, .int .i64 0] 28)
  have bZ := Blk.new w 28 [.int .u32 0, .int .u32 0, .int .i64 0, .int .i64 0, .int .i64 0, .int .i64 0, .int .i64 0, .int .i64 0, .slice none 0 0, .slice none 0 0, .slice none 0 0, .int .i64 0, .int .i64 0]
  have H0 := hide (And.intro hb0 bZ)
  by_cases hbig : 2048 < n
  · have hd : decide ((2048 : Int) < (n : Int)) = true := by simp; omega
    have HE := hide (show opE k l = 3 by unfold opE; rw [if_pos (by omega)])
    have HM := hide (show opM k l = zeroM by unfold opM; rw [if_pos (.inl (by omega))])
    clear hlen hbig hb0 bZ
    go_enter Tryz.func8, Tryz.ntmps8
    go_wp2
    refine ret_im (g := w.heap.size) rfl rfl rfl (Blk.new w _ [.int .u32 0, .int .u32 0, .int .i64 0, .int .i64 0, .int .i64 0, .int .i64 0, .int .i64 0, .int .i64 0, .slice none 0 0, .slice none 0 0, .slice none 0 0, .int .i64 0, .int .i64 0]) rfl ?_
    exact GivesM.zero HM.out HE.out (below_box w _)
  · have hd : decide ((2048 : Int) < (n : Int)) = false := by simp; omega
    have hsm : ¬ 2048 < l.length := by omega
    have hn9 : n ≤ 2048 := by omega
    obtain ⟨z, hz⟩ : ∃ z, unE k l = z := ⟨_, rfl⟩
    have HU := hide hz
    have hr0 := (hr.keep hb0 hB).more (Nat.le_trans hB hb0.size)
    have hk0 := (hk.keep hb0 hB).more (Nat.le_trans hB hb0.size)
    have hT0 := (hT.keep hb0 hB).more (Nat.le_trans hB hb0.size)
    by_cases h0 : z = 0
    · subst h0
      obtain ⟨L, hL⟩ : ∃ L, unL k l = L := ⟨_, rfl⟩
      have HE := hide (show opE k l = parE L by unfold opE; rw [if_neg hsm, if_neg (fun hn => hn hz), hL])
      have HM := hide (show opM k l = parM L by unfold opM; rw [if_neg (fun hn => hn.elim hsm fun h => h hz), hL])
      have HL := hide hL
      clear hL hz hlen hbig hsm hr hk hb0 bZ
      go_enter Tryz.func8, Tryz.ntmps8
      go_wp2_with fail
      refine (Open_any _ Ak nk ck k A n c l _ hk0 hr0 (Nat.le_refl _) hT0 hnk (by omega)).mono ?_
      rw [HU.out, HL.out]
      rintro e w2 ⟨A2, n2, c2, rfl, o2, hb2⟩
      have hb02 := H0.out.1.trans (hb2.mono H0.out.1.size)
      have bZ2 := H0.out.2.keep hb2 H0.out.2.lt
      have r2_ := Row.of_own o2
      clear o2 hb2 hr0 hk0 hT0 hT
      go_wp2_with fail
      refine (Parse_any w2.heap.size A2 n2 c2 L w2 r2_ (Nat.le_refl _)).mono ?_
      rintro e w3 ⟨K, rfl, hm, o1, o2, o3, hb3⟩
      have bZ3 := bZ2.keep hb3 bZ2.lt
      have hb03 := hb02.trans (hb3.mono hb02.size)
      have lz2 := bZ2.lt
      have fZ := fun j => bZ3.frozen j
      obtain ⟨z0, z1, z2, z3, z4, z5, z6, z7, z8, z9, z10, z11, z12⟩ := cells13 bZ3
      have lZ := bZ3.lt
      have ALL := hide (And.intro bZ3 (And.intro hb03 (And.intro o1 (And.intro o2 o3))))
      clear bZ3 hb03 o1 o2 o3 bZ2 hb02 hb3 r2_
      have HK := hide hm
      clear hm
      go_wp2
      obtain ⟨bZ4, hb5, p1, p2, p3⟩ := ALL.out
      refine ret_im (g := w.heap.size) rfl rfl rfl (bZ4.put13 _ _ _ _ _ _ _ _ _ _ _ _ _) rfl ?_
      refine ⟨K, by rw [HE.out], by rw [HM.out]; exact HK.out, ?_, ?_, ?_, below13 hb5 (Nat.le_refl _) _ _ _ _ _ _ _ _ _ _ _ _ _⟩
      · exact own_lower (own13 p1 (fun k hk => by have := (p1.lt k hk).1; omega) _ _ _ _ _ _ _ _ _ _ _ _ _) (by omega)
      · exact own_lower (own13 p2 (fun k hk => by have := (p2.lt k hk).1; omega) _ _ _ _ _ _ _ _ _ _ _ _ _) (by omega)
      · exact own_lower (own13 p3 (fun k hk => by have := (p3.lt k hk).1; omega) _ _ _ _ _ _ _ _ _ _ _ _ _) (by omega)
    · have HE := hide (show opE k l = z by unfold opE; rw [if_neg hsm, if_pos (by rw [hz]; exact h0), hz])
      have HM := hide (show opM k l = zeroM by unfold opM; rw [if_pos (.inr (by rw [hz]; exact h0))])
      have g0 : (z == 0) = false := beq_eq_false_iff_ne.2 h0
      have g1 := bne_of g0
      clear hz h0 hlen hbig hsm hr hk hb0 bZ
      go_enter Tryz.func8, Tryz.ntmps8
      go_wp2_with fail
      refine (Open_any _ Ak nk ck k A n c l _ hk0 hr0 (Nat.le_refl _) hT0 hnk (by omega)).mono ?_
      rw [HU.out]
      rintro e w2 ⟨A2, n2, c2, rfl, o2, hb2⟩
      have hb02 := H0.out.1.trans (hb2.mono H0.out.1.size)
      have bZ2 := H0.out.2.keep hb2 H0.out.2.lt
      have fZ := fun j => bZ2.frozen j
      obtain ⟨z0, z1, z2, z3, z4, z5, z6, z7, z8, z9, z10, z11, z12⟩ := cells13 bZ2
      have lZ := bZ2.lt
      have ALL := hide (And.intro bZ2 hb02)
      clear o2 hb2 hr0 hk0 bZ2 hb02 hT0 hT
      go_wp2
      refine ret_im (g := w.heap.size) rfl rfl rfl (ALL.out.1.put13 _ _ _ _ _ _ _ _ _ _ _ _ _) rfl ?_
      exact GivesM.zero HM.out HE.out (below13 ALL.out.2 (Nat.le_refl _) _ _ _ _ _ _ _ _ _ _ _ _ _)

end Go.Proofs.YtdikiabjkmigdaaGreatDoor
