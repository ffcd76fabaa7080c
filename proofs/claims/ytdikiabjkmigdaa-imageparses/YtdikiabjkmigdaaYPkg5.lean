/-
  Contract of image.Encode.
-/
import Derived.Test.YtdikiabjkmigdaaYPkg4
namespace Go.Proofs.Ytdikiabjkmigdaa
open Go.RowKit
set_option maxRecDepth 20000
set_option maxHeartbeats 2000000

/-- Bytes and a fault; what was there is as it was. -/
def GivesE (w : World) (r : List UInt8) (er : Int) (e : Ending) (w' : World) : Prop := ∃ A n c, e = .returned (.tuple #[.slice A n c, .int .i64 er]) ∧ Row w' w'.heap.size A n c (cs8 r) ∧ Below w.heap.size w w'
theorem GivesE.none_ {w w' : World} {r : List UInt8} {er k : Int} (hr : r = []) (he : er = k) (hb : Below w.heap.size w w') : GivesE w r er (.returned (.tuple #[.slice none 0 0, .int .i64 k])) w' := by
  subst hr; subst he; exact ⟨none, 0, 0, rfl, Row.none_, hb⟩
theorem Encode11_any (K : IV) (w : World) (hK : Held w w.heap.size K) :
    Calls Try.prog 8 #[.agg #[.int .u32 K.v, .int .u32 K.f, .int .i64 K.e, .int .i64 K.s, .int .i64 K.o, .int .i64 K.n, .int .i64 K.i, .int .i64 K.u, .slice K.fA K.fn K.fc, .slice K.sA K.sn K.sc, .slice K.mA K.mn K.mc, .int .i64 K.x, .int .i64 K.y]] w (GivesE w (enL K.m) (enE K.m)) := by
  obtain ⟨z, hz⟩ : ∃ z, chkM K.m = z := ⟨_, rfl⟩
  have HZ := hide hz
  by_cases h0 : z = 0
  · subst h0
    have hF := hide (chk_fit hK.wf hz)
    have hfs := chk_zero hz
    have hl : (encM K.m).length ≤ 100000 := by
      have a1 := encL_small hF.out.st
      have a2 := encL_small hF.out.mv
      have a3 := hF.out.fs
      rw [encM_len, fsB_len]; omega
    by_cases hb : 2016 < (encM K.m).length
    · have HE := hide (show enE K.m = 3 by unfold enE; rw [if_neg (by rw [hz]; decide), if_pos hb])
      have HL := hide (show enL K.m = [] by unfold enL; rw [HE.out]; rfl)
      obtain ⟨L, hL⟩ : ∃ L, encM K.m = L := ⟨_, rfl⟩
      rw [hL] at hb hl
      have HB := hide hL
      clear hL hz hfs
      go_enter Try.func8, Try.ntmps8
      go_wp2_with fail
      refine (Check11_any K 0 _ ((hK.keep (below_box w _) (Nat.le_refl _)).more (below_box w _).size) HZ).mono ?_
      rintro e w2 ⟨rfl, hb2⟩
      have bC := (Blk.new w 28 [.int .u32 K.v, .int .u32 K.f, .int .i64 K.e, .int .i64 K.s, .int .i64 K.o, .int .i64 K.n, .int .i64 K.i, .int .i64 K.u, .slice K.fA K.fn K.fc, .slice K.sA K.sn K.sc, .slice K.mA K.mn K.mc, .int .i64 K.x, .int .i64 K.y]).keep hb2 (by simp)
      have hb1 := box_then hb2
      obtain ⟨k0, k1, k2, k3, k4, k5, k6, k7, k8, k9, k10, k11, k12⟩ := cells13 bC
      go_wp2_with fail
      clear k0 k1 k2 k3 k4 k5 k6 k7 k8 k9 k10 k11 k12
      refine (encoding_any K w2 ((hK.keep hb1 (Nat.le_refl _)).more hb1.size) hF.out hF.out.fs).mono ?_
      rw [HB.out]
      rintro e w3 ⟨A3, n3, c3, rfl, r3, hb3⟩
      have hn3 := r3.len
      rw [cs8_len] at hn3
      have hbig : decide ((2016 : Int) < (n3 : Int)) = true := by simp; omega
      go_wp2
      go_ret2
      exact GivesE.none_ HL.out HE.out (hb1.trans (hb3.mono hb1.size))
    · have HE := hide (show enE K.m = 0 by unfold enE; rw [if_neg (by rw [hz]; decide), if_neg hb])
      have HL := hide (show enL K.m = encM K.m by unfold enL; rw [HE.out]; rfl)
      obtain ⟨L, hL⟩ : ∃ L, encM K.m = L := ⟨_, rfl⟩
      rw [hL] at hb hl
      have HB := hide hL
      clear hL hz hfs
      go_enter Try.func8, Try.ntmps8
      go_wp2_with fail
      refine (Check11_any K 0 _ ((hK.keep (below_box w _) (Nat.le_refl _)).more (below_box w _).size) HZ).mono ?_
      rintro e w2 ⟨rfl, hb2⟩
      have bC := (Blk.new w 28 [.int .u32 K.v, .int .u32 K.f, .int .i64 K.e, .int .i64 K.s, .int .i64 K.o, .int .i64 K.n, .int .i64 K.i, .int .i64 K.u, .slice K.fA K.fn K.fc, .slice K.sA K.sn K.sc, .slice K.mA K.mn K.mc, .int .i64 K.x, .int .i64 K.y]).keep hb2 (by simp)
      have hb1 := box_then hb2
      obtain ⟨k0, k1, k2, k3, k4, k5, k6, k7, k8, k9, k10, k11, k12⟩ := cells13 bC
      go_wp2_with fail
      clear k0 k1 k2 k3 k4 k5 k6 k7 k8 k9 k10 k11 k12
      refine (encoding_any K w2 ((hK.keep hb1 (Nat.le_refl _)).more hb1.size) hF.out hF.out.fs).mono ?_
      rw [HB.out]
      rintro e w3 ⟨A3, n3, c3, rfl, r3, hb3⟩
      have hn3 := r3.len
      rw [cs8_len] at hn3
      have hsm : decide ((2016 : Int) < (n3 : Int)) = false := by simp; omega
      go_wp2
      go_ret2
      exact ⟨A3, n3, c3, by rw [HE.out]; rfl, by rw [HL.out, HB.out]; exact r3, hb1.trans (hb3.mono hb1.size)⟩
  · have HE := hide (show enE K.m = z by unfold enE; rw [if_pos (by rw [hz]; exact h0)]; exact hz)
    have HL := hide (show enL K.m = [] by unfold enL; rw [if_neg (by rw [HE.out]; exact h0)])
    have g0 : (z == 0) = false := beq_eq_false_iff_ne.2 h0
    have g1 := bne_of g0
    clear hz h0
    go_enter Try.func8, Try.ntmps8
    go_wp2_with fail
    refine (Check11_any K z _ ((hK.keep (below_box w _) (Nat.le_refl _)).more (below_box w _).size) HZ).mono ?_
    rintro e w2 ⟨rfl, hb2⟩
    go_wp2
    go_ret2
    exact GivesE.none_ HL.out HE.out (box_then hb2)

end Go.Proofs.Ytdikiabjkmigdaa
