/-
  The walk of the law ImageOnly.
-/
import Derived.Test.YtdikiabjkmigdaaYKnown
import Derived.Test.YtdikiabjkmigdaaYSame
namespace Go.Proofs.Ytdikiabjkmigdaa
open Go.RowKit
set_option maxRecDepth 20000
set_option maxHeartbeats 4000000

theorem par_zero {l : List UInt8} (h : parE l = 0) : Frm l ∧ ¬ 2016 < l.length ∧ chkM (rdM l) = 0 ∧ parM l = rdM l := by
  unfold parE at h
  split at h
  · omega
  · rename_i h1
    split at h
    · omega
    · rename_i h2
      refine ⟨Classical.not_not.1 h2, h1, h, ?_⟩
      unfold parM parE
      rw [if_neg h1, if_neg h2, if_pos h]
theorem only_enc {l : List UInt8} (h : parE l = 0) : enE (parM l) = 0 ∧ enL (parM l) = l ∧ chkM (parM l) = 0 := by
  obtain ⟨h1, h2, h3, h4⟩ := par_zero h
  have he := enc_rd h1
  have e0 : enE (parM l) = 0 := by rw [h4]; unfold enE; rw [if_neg (fun hn => hn h3), he, if_neg h2]
  exact ⟨e0, by unfold enL; rw [if_pos e0, h4, he], by rw [h4]; exact h3⟩
theorem own_held {w w' : World} {K : IV} {m : Im} (hm : K.m = m) (hw : Wf m) (o1 : w'.ownsRow w.heap.size 21 1 (.slice K.fA K.fn K.fc) K.fn (c32 K.fs)) (o2 : w'.ownsRow w.heap.size 54 2 (.slice K.sA K.sn K.sc) K.sn (csI K.st)) (o3 : w'.ownsRow w.heap.size 54 2 (.slice K.mA K.mn K.mc) K.mn (csI K.mv)) : Held w' w'.heap.size K := held_of hm hw o1 o2 o3
theorem only_walk (A : Option Addr) (n c : Nat) (l : List UInt8) (w : World) (hr : Row w w.heap.size A n c (cs8 l)) :
    Calls Try.prog 5 #[.slice A n c] w fun e w' => e = .returned (.bool true) ∧ Below w.heap.size w w' := by
  by_cases hbig : 10000 < n
  · have hd : decide ((10000 : Int) < (n : Int)) = true := by simp; omega
    clear hbig
    go_enter Try.func5, Try.ntmps5
    go_wp2_with fail
    refine (known_any w).mono ?_
    rintro e wk ⟨rfl, hbk⟩
    go_wp2
    go_ret
    exact ⟨rfl, hbk⟩
  · have hd : decide ((10000 : Int) < (n : Int)) = false := by simp; omega
    clear hbig
    obtain ⟨z, hz⟩ : ∃ z, parE l = z := ⟨_, rfl⟩
    have HZ := hide hz
    by_cases h0 : z = 0
    · subst h0
      have HO := hide (only_enc hz)
      clear hz
      go_enter Try.func5, Try.ntmps5
      go_wp2_with fail
      refine (Parse_any w.heap.size A n c l w hr (Nat.le_refl _)).mono ?_
      rw [HZ.out]
      rintro e w2 ⟨K, rfl, hm, o1, o2, o3, hb2⟩
      have hK := own_held hm (par_wf l) o1 o2 o3
      have hbx := below_box w2 (.cells #[.int .u32 K.v, .int .u32 K.f, .int .i64 K.e, .int .i64 K.s, .int .i64 K.o, .int .i64 K.n, .int .i64 K.i, .int .i64 K.u, .slice K.fA K.fn K.fc, .slice K.sA K.sn K.sc, .slice K.mA K.mn K.mc, .int .i64 K.x, .int .i64 K.y] 28)
      have bC := Blk.new w2 28 [.int .u32 K.v, .int .u32 K.f, .int .i64 K.e, .int .i64 K.s, .int .i64 K.o, .int .i64 K.n, .int .i64 K.i, .int .i64 K.u, .slice K.fA K.fn K.fc, .slice K.sA K.sn K.sc, .slice K.mA K.mn K.mc, .int .i64 K.x, .int .i64 K.y]
      have hK2 := (hK.keep hbx (Nat.le_refl _)).more hbx.size
      have hb3 := hb2.trans (hbx.mono hb2.size)
      have HM := hide hm
      clear o1 o2 o3 hK hb2 hbx hm
      go_upto_region 6 with (fail)
      generalize w2.heap.size = q at bC ⊢
      generalize w2.alloc (.cells #[.int .u32 K.v, .int .u32 K.f, .int .i64 K.e, .int .i64 K.s, .int .i64 K.o, .int .i64 K.n, .int .i64 K.i, .int .i64 K.u, .slice K.fA K.fn K.fc, .slice K.sA K.sn K.sc, .slice K.mA K.mn K.mc, .int .i64 K.x, .int .i64 K.y] 28) = w3 at bC hK2 hb3 ⊢
      obtain ⟨k0, k1, k2, k3, k4, k5, k6, k7, k8, k9, k10, k11, k12⟩ := cells13 bC
      have lC := bC.lt
      go_wp2_with fail
      clear k0 k1 k2 k3 k4 k5 k6 k7 k8 k9 k10 k11 k12
      refine (Encode11_any K w3 hK2).mono ?_
      rw [HM.out, HO.out.1, HO.out.2.1]
      rintro e w4 ⟨A4, n4, c4, rfl, r4, hb4⟩
      have bC4 := bC.keep hb4 bC.lt
      have hK4 := (hK2.keep hb4 (Nat.le_refl _)).more hb4.size
      have hb5 := hb3.trans (hb4.mono hb3.size)
      have hr4 := hr.keep hb5 (Nat.le_refl _)
      have hs1 := r4.str Try.underlying31 Try.underlying5 Try.underlying9
      have hs2 := hr4.str Try.underlying31 Try.underlying5 Try.underlying9
      have HK := hide (And.intro hK4 hb5)
      obtain ⟨k0, k1, k2, k3, k4, k5, k6, k7, k8, k9, k10, k11, k12⟩ := cells13 bC4
      have lC := bC4.lt
      clear hb3 hb4 hK2 bC bC4 hr r4 hr4 hK4 hb5
      go_wp2_with fail
      clear k0 k1 k2 k3 k4 k5 k6 k7 k8 k9 k10 k11 k12 hs1 hs2
      refine (Check11_any K 0 w4 HK.out.1 (hide (by rw [HM.out]; exact HO.out.2.2))).mono ?_
      rintro e w5 ⟨rfl, hb6⟩
      have hb7 := hide (HK.out.2.trans (hb6.mono HK.out.2.size))
      clear hb6
      go_wp2_with fail
      refine (known_any w5).mono ?_
      rintro e wk ⟨rfl, hbk⟩
      have HB := hide (hb7.out.trans (hbk.mono hb7.out.size))
      clear hbk
      go_wp2
      go_ret
      exact ⟨rfl, HB.out⟩
    · have HM := hide (show parM l = zeroM by unfold parM; rw [if_neg (by rw [hz]; exact h0)])
      have g0 : (z == 0) = false := beq_eq_false_iff_ne.2 h0
      have g1 := bne_of g0
      clear hz h0
      go_enter Try.func5, Try.ntmps5
      go_wp2_with fail
      refine (Parse_any w.heap.size A n c l w hr (Nat.le_refl _)).mono ?_
      rw [HZ.out, HM.out]
      rintro e w2 ⟨K, rfl, hm, o1, o2, o3, hb2⟩
      have hK := own_held hm zero_wf o1 o2 o3
      have hbx := below_box w2 (.cells #[.int .u32 K.v, .int .u32 K.f, .int .i64 K.e, .int .i64 K.s, .int .i64 K.o, .int .i64 K.n, .int .i64 K.i, .int .i64 K.u, .slice K.fA K.fn K.fc, .slice K.sA K.sn K.sc, .slice K.mA K.mn K.mc, .int .i64 K.x, .int .i64 K.y] 28)
      have bC := Blk.new w2 28 [.int .u32 K.v, .int .u32 K.f, .int .i64 K.e, .int .i64 K.s, .int .i64 K.o, .int .i64 K.n, .int .i64 K.i, .int .i64 K.u, .slice K.fA K.fn K.fc, .slice K.sA K.sn K.sc, .slice K.mA K.mn K.mc, .int .i64 K.x, .int .i64 K.y]
      have hK2 := (hK.keep hbx (Nat.le_refl _)).more hbx.size
      have hb3 := hb2.trans (hbx.mono hb2.size)
      have HMM := hide hm
      clear o1 o2 o3 hK hb2 hbx hm
      go_upto_region 5 with (fail)
      generalize w2.heap.size = q at bC ⊢
      generalize w2.alloc (.cells #[.int .u32 K.v, .int .u32 K.f, .int .i64 K.e, .int .i64 K.s, .int .i64 K.o, .int .i64 K.n, .int .i64 K.i, .int .i64 K.u, .slice K.fA K.fn K.fc, .slice K.sA K.sn K.sc, .slice K.mA K.mn K.mc, .int .i64 K.x, .int .i64 K.y] 28) = w3 at bC hK2 hb3 ⊢
      obtain ⟨k0, k1, k2, k3, k4, k5, k6, k7, k8, k9, k10, k11, k12⟩ := cells13 bC
      have lC := bC.lt
      go_wp2_with fail
      clear k0 k1 k2 k3 k4 k5 k6 k7 k8 k9 k10 k11 k12
      refine (Same11_any K ⟨0, 0, 0, 0, 0, 0, 0, 0, 0, 0, [], [], [], none, 0, 0, none, 0, 0, none, 0, 0⟩ w3.heap.size w3.heap.size w3 hK2 (held_nil _ _ (by decide)) (Nat.le_refl _) (Nat.le_refl _) HMM.out).mono ?_
      rintro e w4 ⟨rfl, hb4⟩
      have hb7 := hide (hb3.trans (hb4.mono hb3.size))
      clear hb3 hb4 hK2 bC
      go_wp2_with fail
      refine (known_any w4).mono ?_
      rintro e wk ⟨rfl, hbk⟩
      have HB := hide (hb7.out.trans (hbk.mono hb7.out.size))
      clear hbk
      go_wp2
      go_ret
      exact ⟨rfl, HB.out⟩

end Go.Proofs.Ytdikiabjkmigdaa
