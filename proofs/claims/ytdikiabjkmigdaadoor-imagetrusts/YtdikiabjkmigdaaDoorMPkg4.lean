/-
  Contract of package mac's Open.
-/
import Derived.Test.YtdikiabjkmigdaaDoorMPkg3
namespace Go.Proofs.YtdikiabjkmigdaaDoor
set_option maxRecDepth 20000
open Go.RowKit
set_option maxHeartbeats 1600000

theorem Open_any (B : Nat) (Ak : Option Addr) (nk ck : Nat) (k : List UInt8) (A : Option Addr) (n c : Nat) (l : List UInt8) (w : World) (hk : Row w B Ak nk ck (cs8 k)) (hr : Row w B A n c (cs8 l)) (hB : B ≤ w.heap.size) (hK : KT B w) (hnk : nk ≤ 1073741824) (hl : n ≤ 536870912) :
    Calls Tryd.prog 21 #[.slice Ak nk ck, .slice A n c] w (Gives w (unL k l) (unE k l)) := by
  have hn := hr.len
  rw [cs8_len] at hn
  by_cases h32 : n < 32
  · have HE := hide (unE_short (k := k) (b := l) (by omega))
    have hd : decide ((n : Int) < 32) = true := by simp; omega
    go_enter Tryd.func21, Tryd.ntmps21
    go_wp2
    go_ret2
    exact Gives.none_ (unL_bad (by rw [HE.out]; decide)) HE.out
  · obtain ⟨m, rfl⟩ : ∃ m, n = m + 32 := ⟨n - 32, by omega⟩
    obtain ⟨A9, c9, hsl, hr9⟩ := hr.headed Tryd.underlying29 size8 (hi := m) (by omega) (m : Int) rfl
    obtain ⟨A8, c8, hst, hr8⟩ := hr.tailed Tryd.underlying29 size8 (lo := m) (by omega) (m : Int) rfl
    rw [show (cs8 l).take m = cs8 (l.take m) by simp [cs8]] at hr9
    rw [show (cs8 l).drop m = cs8 (l.drop m) by simp [cs8]] at hr8
    rw [show m + 32 - m = 32 by omega] at hr8 hst
    have h320 : ¬ l.length < 32 := by omega
    obtain ⟨b, HB⟩ : ∃ b, Hid (b = unB k l) := ⟨_, rfl⟩
    have HR : Hid (rgtB k (l.take m) (l.drop m) = b) := by show _ = _; rw [HB.out, unB_at hn]
    have HN := hide hn
    have hd : decide (((m + 32 : Nat) : Int) < 32) = false := by simp; omega
    have hd2 : decide ((m : Int) + 32 < 32) = false := by simp; omega
    have hm : ((m + 32 : Nat) : Int) - 32 = (m : Int) := by omega
    have hm2 : (m : Int) + 32 - 32 = (m : Int) := by omega
    clear hn
    go_enter Tryd.func21, Tryd.ntmps21
    go_wp2
    refine wp_region_held_drew (S := fun _ => True) (by kernel_rfl) trivial (fun hS0 => ?_)
    refine wpAnyH_take (i := 0) (v := .slice Ak nk ck) rfl (by kernel_rfl) (by kernel_rfl) (by kernel_rfl) (fun _ _ _ h => h) (Or.inl ⟨by rfl, fun w _ => by go_simp⟩) (by assumption) ?_
    simp only [List.getElem_toArray, List.getElem_cons_zero, Act.put, List.setIfInBounds_toArray, List.set_cons_zero, List.set_cons_succ]
    refine wpAnyH_take (i := 1) (v := .slice A (m + 32) c) rfl (by kernel_rfl) (by kernel_rfl) (by kernel_rfl) (fun _ _ _ h => h) (Or.inl ⟨by rfl, fun w _ => by go_simp⟩) (by assumption) ?_
    simp only [List.getElem_toArray, List.getElem_cons_zero, List.getElem_cons_succ, Act.put, List.setIfInBounds_toArray, List.set_cons_zero, List.set_cons_succ]
    refine wpAnyH_take (i := 2) (v := .int .i64 (m : Int)) rfl (by kernel_rfl) (by kernel_rfl) (by kernel_rfl) (fun _ _ _ h => h) (Or.inl ⟨by rfl, fun w _ => by go_simp⟩) (by assumption) ?_
    simp only [List.getElem_toArray, List.getElem_cons_zero, List.getElem_cons_succ, Act.put, List.setIfInBounds_toArray, List.set_cons_zero, List.set_cons_succ]
    refine wpAnyH_take (i := 3) (v := .slice A9 m c9) rfl (by kernel_rfl) (by kernel_rfl) (by kernel_rfl) (fun _ _ _ h => h) (Or.inl ⟨by rfl, fun w _ => by go_simp⟩) (by assumption) ?_
    simp only [List.getElem_toArray, List.getElem_cons_zero, List.getElem_cons_succ, Act.put, List.setIfInBounds_toArray, List.set_cons_zero, List.set_cons_succ]
    refine wpAnyH_take (i := 4) (v := .slice A (m + 32) c) rfl (by kernel_rfl) (by kernel_rfl) (by kernel_rfl) (fun _ _ _ h => h) (Or.inl ⟨by rfl, fun w _ => by go_simp⟩) (by assumption) ?_
    simp only [List.getElem_toArray, List.getElem_cons_zero, List.getElem_cons_succ, Act.put, List.setIfInBounds_toArray, List.set_cons_zero, List.set_cons_succ]
    refine wpAnyH_take (i := 5) (v := .int .i64 (m : Int)) rfl (by kernel_rfl) (by kernel_rfl) (by kernel_rfl) (fun _ _ _ h => h) (Or.inl ⟨by rfl, fun w _ => by go_simp⟩) (by assumption) ?_
    simp only [List.getElem_toArray, List.getElem_cons_zero, List.getElem_cons_succ, Act.put, List.setIfInBounds_toArray, List.set_cons_zero, List.set_cons_succ]
    refine wpAnyH_take (i := 6) (v := .slice A8 32 c8) rfl (by kernel_rfl) (by kernel_rfl) (by kernel_rfl) (fun _ _ _ h => h) (Or.inl ⟨by rfl, fun w _ => by go_simp⟩) (by assumption) ?_
    simp only [List.getElem_toArray, List.getElem_cons_zero, List.getElem_cons_succ, Act.put, List.setIfInBounds_toArray, List.set_cons_zero, List.set_cons_succ]
    refine wpAnyH_ready (rs := [7]) (by kernel_rfl) (by simp) ?_
    refine AllReadyH.cons rfl (fun K hKK => ?_) AllReadyH.nil
    go_simp
    refine (Right_any B Ak nk ck k A9 m c9 (l.take m) A8 32 c8 (l.drop m) _ (hk.of_drew) hr9.of_drew hr8.of_drew hB (hK.keep (Below.refl B w).drew (Nat.le_refl _)) hnk (by omega)).mono ?_
    rw [HR.out]
    rintro e w3 ⟨rfl, hb3⟩
    have hb03 : Below w.heap.size w w3 := (Below.refl w.heap.size w).drew.trans hb3
    refine hKK.out _ _ (trivial) (fun hS7 => ?_)
    clear hKK
    refine wpAnyH_take (i := 8) (v := .bool (!b)) rfl (by kernel_rfl) (by kernel_rfl) (by kernel_rfl) (fun _ _ _ h => h) (Or.inl ⟨by rfl, fun w _ => by go_simp⟩) (by assumption) ?_
    simp only [List.getElem_toArray, List.getElem_cons_zero, List.getElem_cons_succ, Act.put, List.setIfInBounds_toArray, List.set_cons_zero, List.set_cons_succ]
    refine wpAnyH_done (by kernel_rfl) ?_ _
    cases b with
    | false =>
      have HE := hide (unE_bad h320 HB.out.symm)
      go_wp2
      go_ret2
      exact Gives.none_at (unL_bad (by rw [HE.out]; decide)) HE.out hb03
    | true =>
      have HE := hide (unE_ok h320 HB.out.symm)
      have HU : Hid (unL k l = l.take m) := by show _ = _; rw [unL_ok HE.out, HN.out, Nat.add_sub_cancel]
      have hs3 := hb03.size
      go_wp2_with fail
      refine (Clone_any B A9 m c9 (l.take m) w3 (hr9.keep hb03 hB) (by omega) (by omega)).mono ?_
      rintro e w4 ⟨A7, n7, c7, rfl, ho7, hb7⟩
      go_wp2
      go_ret2
      exact Gives.of HE.out (by rw [HU.out]; exact own_base hs3 ho7) (hb03.trans (hb7.mono hs3))
end Go.Proofs.YtdikiabjkmigdaaDoor
