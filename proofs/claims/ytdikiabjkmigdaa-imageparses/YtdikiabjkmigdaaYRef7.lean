/-
  Contract of midstreamref11.Parse.
-/
import Derived.Test.YtdikiabjkmigdaaYRef6
import Derived.BigQuiet
namespace Go.Proofs.Ytdikiabjkmigdaa
open Go.RowKit
set_option maxRecDepth 20000
set_option maxHeartbeats 4000000

theorem rd_fit' {K : IV} {l : List UInt8} (hm : K.m = rdM l) (h : l.length ≤ 2016) : Fit K.m := by rw [hm]; exact rd_fit l h
theorem bne_l (l m : List UInt8) (b : Bool) (h : decide (l = m) = b) : (l != m) = !b := by rw [bne, beq_l l m b h]
theorem rParse_any (B : Nat) (A : Option Addr) (n c : Nat) (l : List UInt8) (w : World) (hr : Row w B A n c (cs8 l)) (hB : B ≤ w.heap.size) :
    Calls Try.prog 14 #[.slice A n c] w (GivesM w (parM l) (parE l)) := by
  have hlen := hr.len
  rw [cs8_len] at hlen
  by_cases hbig : 2016 < n
  · have hd : decide ((2016 : Int) < (n : Int)) = true := by simp; omega
    have HE := hide (show parE l = 3 by unfold parE; rw [if_pos (by omega)])
    have HM := hide (show parM l = zeroM by unfold parM; rw [if_neg (by rw [HE.out]; decide)])
    clear hlen hbig
    go_enter Try.func14, Try.ntmps14
    go_wp2
    refine ret_im (g := w.heap.size) rfl rfl rfl (Blk.new w _ [.int .u32 0, .int .u32 0, .int .i64 0, .int .i64 0, .int .i64 0, .int .i64 0, .int .i64 0, .int .i64 0, .slice none 0 0, .slice none 0 0, .slice none 0 0, .int .i64 0, .int .i64 0]) rfl ?_
    exact GivesM.zero HM.out HE.out (below_box w _)
  · have hd : decide ((2016 : Int) < (n : Int)) = false := by simp; omega
    have HLB := hide (show l.length ≤ 2016 by omega)
    have HN := hide (show n ≤ 2016 by omega)
    obtain ⟨fb, hfb⟩ : ∃ b, decide (encM (rdM l) = l) = b := ⟨_, rfl⟩
    have HFI := hide (frm_iff HLB.out)
    have HFB := hide hfb
    clear hlen hbig hfb
    go_enter Try.func14, Try.ntmps14
    go_wp2_with fail
    refine (Read11_any B A n c l _ (hr.keep (below_box w _) hB) (Nat.le_trans hB (below_box w _).size) (by have := HN.out; omega)).mono ?_
    rintro e' w2 ⟨K, rfl, hm, o1, o2, o3, hb⟩
    have bZ := (Blk.new w 28 [.int .u32 0, .int .u32 0, .int .i64 0, .int .i64 0, .int .i64 0, .int .i64 0, .int .i64 0, .int .i64 0, .slice none 0 0, .slice none 0 0, .slice none 0 0, .int .i64 0, .int .i64 0]).keep hb (by simp)
    have hb1 := box_then hb
    have hK := held_of hm (rd_wf l) o1 o2 o3
    have hb2 := below_box w2 (.cells #[.int .u32 K.v, .int .u32 K.f, .int .i64 K.e, .int .i64 K.s, .int .i64 K.o, .int .i64 K.n, .int .i64 K.i, .int .i64 K.u, .slice K.fA K.fn K.fc, .slice K.sA K.sn K.sc, .slice K.mA K.mn K.mc, .int .i64 K.x, .int .i64 K.y] 28)
    have bC := Blk.new w2 28 [.int .u32 K.v, .int .u32 K.f, .int .i64 K.e, .int .i64 K.s, .int .i64 K.o, .int .i64 K.n, .int .i64 K.i, .int .i64 K.u, .slice K.fA K.fn K.fc, .slice K.sA K.sn K.sc, .slice K.mA K.mn K.mc, .int .i64 K.x, .int .i64 K.y]
    have OW := (And.intro (own_below2 o1 hb2) (And.intro (own_below2 o2 hb2) (own_below2 o3 hb2)))
    have hb3 := hb1.trans (hb2.mono hb1.size)
    have bZ2 := bZ.keep hb2 bZ.lt
    have HK := hide hm
    have KH := ((hK.keep hb2 (Nat.le_refl _)).more hb2.size)
    have qne : w.heap.size ≠ w2.heap.size := by have := hb.size; simp at this; omega
    clear o1 o2 o3 hb hm hK hb1 bZ
    go_upto_region 4 with (fail)
    generalize w2.heap.size = q at bC qne ⊢
    generalize w2.alloc (.cells #[.int .u32 K.v, .int .u32 K.f, .int .i64 K.e, .int .i64 K.s, .int .i64 K.o, .int .i64 K.n, .int .i64 K.i, .int .i64 K.u, .slice K.fA K.fn K.fc, .slice K.sA K.sn K.sc, .slice K.mA K.mn K.mc, .int .i64 K.x, .int .i64 K.y] 28) = w3 at bC OW hb3 bZ2 KH ⊢
    clear hb2
    have hbd := below_drewN w3.heap.size w3 1
    have bE := bC.drew
    have bZE := bZ2.drew
    have KHE := KH.keep hbd (Nat.le_refl _)
    have OWE := And.intro (own_below2 OW.1 hbd) (And.intro (own_below2 OW.2.1 hbd) (own_below2 OW.2.2 hbd))
    have hbE := hb3.drew
    have hrE := hr.keep hbE hB
    replace KHE : Held w3.drew w3.drew.heap.size K := KHE
    clear bC OW hb3 bZ2 KH hbd hr
    have hsE := hrE.str Try.underlying31 Try.underlying5 Try.underlying9
    refine wp_region_held_drew (S := fun W : World => (convert 31 9 (.slice A n c)).run Try.prog W = .ok (.string ⟨l.toArray⟩) W ∧ W.cell? ⟨q, 0, none⟩ = some (.int .u32 K.v) ∧ W.cell? ⟨q, 1, none⟩ = some (.int .u32 K.f) ∧ W.cell? ⟨q, 2, none⟩ = some (.int .i64 K.e) ∧ W.cell? ⟨q, 3, none⟩ = some (.int .i64 K.s) ∧ W.cell? ⟨q, 4, none⟩ = some (.int .i64 K.o) ∧ W.cell? ⟨q, 5, none⟩ = some (.int .i64 K.n) ∧ W.cell? ⟨q, 6, none⟩ = some (.int .i64 K.i) ∧ W.cell? ⟨q, 7, none⟩ = some (.int .i64 K.u) ∧ W.cell? ⟨q, 8, none⟩ = some (.slice K.fA K.fn K.fc) ∧ W.cell? ⟨q, 9, none⟩ = some (.slice K.sA K.sn K.sc) ∧ W.cell? ⟨q, 10, none⟩ = some (.slice K.mA K.mn K.mc) ∧ W.cell? ⟨q, 11, none⟩ = some (.int .i64 K.x) ∧ W.cell? ⟨q, 12, none⟩ = some (.int .i64 K.y)) (by kernel_rfl) ⟨hsE, cells13 bE⟩ (fun hS0 => ?_)
    refine wpAnyH_take (i := 0) (v := .agg #[.int .u32 K.v, .int .u32 K.f, .int .i64 K.e, .int .i64 K.s, .int .i64 K.o, .int .i64 K.n, .int .i64 K.i, .int .i64 K.u, .slice K.fA K.fn K.fc, .slice K.sA K.sn K.sc, .slice K.mA K.mn K.mc, .int .i64 K.x, .int .i64 K.y]) rfl (by kernel_rfl) (by kernel_rfl) (by kernel_rfl) (fun _ _ _ h => h) (Or.inl ⟨by rfl, fun w h => by (obtain ⟨_, h0, h1, h2, h3, h4, h5, h6, h7, h8, h9, h10, h11, h12⟩ := h; go_simp)⟩) (by assumption) ?_
    simp only [List.getElem_toArray, List.getElem_cons_zero, Act.put, List.setIfInBounds_toArray, List.set_cons_zero, List.set_cons_succ]
    refine wpAnyH_take (i := 3) (v := .slice A n c) rfl (by kernel_rfl) (by kernel_rfl) (by kernel_rfl) (fun _ _ _ h => h) (Or.inl ⟨by rfl, fun w _ => by go_simp⟩) (by assumption) ?_
    simp only [List.getElem_toArray, List.getElem_cons_zero, List.getElem_cons_succ, Act.put, List.setIfInBounds_toArray, List.set_cons_zero, List.set_cons_succ]
    refine wpAnyH_take (i := 4) (v := .string ⟨l.toArray⟩) rfl (by kernel_rfl) (by kernel_rfl) (by kernel_rfl) (fun _ _ _ h => h) (Or.inl ⟨by rfl, fun w h => by (have h9 := h.1; go_simp)⟩) (by assumption) ?_
    simp only [List.getElem_toArray, List.getElem_cons_zero, List.getElem_cons_succ, Act.put, List.setIfInBounds_toArray, List.set_cons_zero, List.set_cons_succ]
    refine wpAnyH_ready (rs := [1]) (by kernel_rfl) (by simp) ?_
    refine AllReadyH.cons rfl (fun KK hKK => ?_) AllReadyH.nil
    go_simp
    refine (laid_any K _ KHE (rd_fit' HK.out HLB.out)).mono ?_
    rw [HK.out]
    rintro e' w4 ⟨A4, n4, c4, rfl, o4, hb4⟩
    have bF := bE.keep hb4 bE.lt
    have r4 := Row.of_own o4
    have hrF := hrE.keep hb4 (Nat.le_trans hB hbE.size)
    have hs1 := r4.str Try.underlying31 Try.underlying5 Try.underlying9
    have hs2 := hrF.str Try.underlying31 Try.underlying5 Try.underlying9
    refine hKK.out _ _ ⟨hs2, cells13 bF⟩ (fun hS1 => ?_)
    clear hKK
    refine wpAnyH_ready (rs := [2]) (by kernel_rfl) (by simp) ?_
    refine AllReadyH.cons rfl (fun KK hKK => ?_) AllReadyH.nil
    go_simp
    refine hKK.out _ _ ⟨hs2, cells13 bF⟩ (fun hS2 => ?_)
    clear hKK
    have hcmp := beq_l _ _ _ HFB.out
    have hcmp2 := bne_l _ _ _ HFB.out
    refine wpAnyH_take (i := 5) (v := .bool (!fb)) rfl (by kernel_rfl) (by kernel_rfl) (by kernel_rfl) (fun _ _ _ h => h) (Or.inl ⟨by rfl, fun w _ => by go_simp⟩) (by assumption) ?_
    simp only [List.getElem_toArray, List.getElem_cons_zero, List.getElem_cons_succ, Act.put, List.setIfInBounds_toArray, List.set_cons_zero, List.set_cons_succ]
    refine wpAnyH_done (by kernel_rfl) ?_ _
    have bZ4 := bZE.keep hb4 bZE.lt
    have hb5 := hbE.trans (hb4.mono hbE.size)
    have KH4 := (KHE.keep hb4 (Nat.le_refl _)).more hb4.size
    have p1 := own_below2 OWE.1 hb4
    have p2 := own_below2 OWE.2.1 hb4
    have p3 := own_below2 OWE.2.2 hb4
    clear hS0 hS1 hS2 hs1 hs2 hsE hcmp hcmp2 bE bZE KHE OWE hbE hrE o4 hb4 r4 hrF
    by_cases hF : Frm l
    · have hfb : fb = true := by rw [← HFB.out]; exact decide_eq_true (HFI.out.2 hF)
      subst hfb
      obtain ⟨z, hz⟩ : ∃ z, chkM (rdM l) = z := ⟨_, rfl⟩
      have HE := hide (show parE l = z by unfold parE; rw [if_neg (by have := HLB.out; omega), if_neg (fun h => h hF)]; exact hz)
      have hZ := hide (show chkM K.m = z by rw [HK.out]; exact hz)
      clear hz hF
      have fZ := fun j => bZ4.frozen j
      obtain ⟨k0, k1, k2, k3, k4, k5, k6, k7, k8, k9, k10, k11, k12⟩ := cells13 bF
      have lC := bF.lt
      have ALL := hide (And.intro bZ4 (And.intro hb5 (And.intro p1 (And.intro p2 p3))))
      clear bZ4 hb5 p1 p2 p3 fZ
      go_wp2_with fail
      clear k0 k1 k2 k3 k4 k5 k6 k7 k8 k9 k10 k11 k12
      refine (rCheck11_any K z w4 KH4 hZ).mono ?_
      rintro e' w6 ⟨rfl, hb6⟩
      obtain ⟨bZ4, hb5, p1, p2, p3⟩ := ALL.out
      have bC6 := bF.keep hb6 bF.lt
      have bZ6 := bZ4.keep hb6 bZ4.lt
      have hb7 := hb5.trans (hb6.mono hb5.size)
      have s1 := own_below2 p1 hb6
      have s2 := own_below2 p2 hb6
      have s3 := own_below2 p3 hb6
      have fZ := fun j => bZ6.frozen j
      obtain ⟨z0, z1, z2, z3, z4, z5, z6, z7, z8, z9, z10, z11, z12⟩ := cells13 bZ6
      obtain ⟨k0, k1, k2, k3, k4, k5, k6, k7, k8, k9, k10, k11, k12⟩ := cells13 bC6
      have lZ := bZ6.lt
      have lC := bC6.lt
      have ALL2 := hide (And.intro bZ6 (And.intro hb7 (And.intro s1 (And.intro s2 s3))))
      clear bC6 bZ6 hb7 p1 p2 p3 s1 s2 s3 bZ4 hb5 hb6 bF ALL
      by_cases h0 : z = 0
      · subst h0
        have HM := hide (show parM l = rdM l by unfold parM; rw [if_pos HE.out])
        go_wp2
        obtain ⟨bZ4, hb5, p1, p2, p3⟩ := ALL2.out
        refine ret_im (g := w.heap.size) rfl rfl rfl (bZ4.put13 _ _ _ _ _ _ _ _ _ _ _ _ _) rfl ?_
        refine ⟨K, by rw [HE.out], by rw [HM.out]; exact HK.out, ?_, ?_, ?_, below13 hb5 (Nat.le_refl _) _ _ _ _ _ _ _ _ _ _ _ _ _⟩
        · exact own_lower (own13 p1 (fun k hk => by have := (p1.lt k hk).1; simp at this; omega) _ _ _ _ _ _ _ _ _ _ _ _ _) (by simp)
        · exact own_lower (own13 p2 (fun k hk => by have := (p2.lt k hk).1; simp at this; omega) _ _ _ _ _ _ _ _ _ _ _ _ _) (by simp)
        · exact own_lower (own13 p3 (fun k hk => by have := (p3.lt k hk).1; simp at this; omega) _ _ _ _ _ _ _ _ _ _ _ _ _) (by simp)
      · have HM := hide (show parM l = zeroM by unfold parM; rw [if_neg (by rw [HE.out]; exact h0)])
        have g0 : (z == 0) = false := beq_eq_false_iff_ne.2 h0
        have g1 := bne_of g0
        clear h0
        go_wp2
        obtain ⟨bZ4, hb5, _, _, _⟩ := ALL2.out
        refine ret_im (g := w.heap.size) rfl rfl rfl (bZ4.put13 _ _ _ _ _ _ _ _ _ _ _ _ _) rfl ?_
        exact GivesM.zero HM.out HE.out (below13 hb5 (Nat.le_refl _) _ _ _ _ _ _ _ _ _ _ _ _ _)
    · have hfb : fb = false := by rw [← HFB.out]; exact decide_eq_false fun h => hF (HFI.out.1 h)
      subst hfb
      have HE := hide (show parE l = 4 by unfold parE; rw [if_neg (by have := HLB.out; omega), if_pos hF])
      have HM := hide (show parM l = zeroM by unfold parM; rw [if_neg (by rw [HE.out]; decide)])
      have fZ := fun j => bZ4.frozen j
      obtain ⟨z0, z1, z2, z3, z4, z5, z6, z7, z8, z9, z10, z11, z12⟩ := cells13 bZ4
      have lZ := bZ4.lt
      have ALL := hide (And.intro bZ4 hb5)
      clear bZ4 hb5 p1 p2 p3 bF hF
      go_wp2
      refine ret_im (g := w.heap.size) rfl rfl rfl (ALL.out.1.put13 _ _ _ _ _ _ _ _ _ _ _ _ _) rfl ?_
      exact GivesM.zero HM.out HE.out (below13 ALL.out.2 (Nat.le_refl _) _ _ _ _ _ _ _ _ _ _ _ _ _)

end Go.Proofs.Ytdikiabjkmigdaa
