/-
  Contracts of package flash: Copy; the effects clear and erase; operate.
-/
import Derived.Test.YtimajdhfgkpndaaFPkg2
import Derived.StillTailTactics
namespace Go.Proofs.Ytimajdhfgkpndaa
open Go.RowKit
set_option maxHeartbeats 400000

theorem Copy_any (g h : Nat) (s : FS) (w : World) (f : Fl w g h s) : Calls Try.prog 21 #[.pointer (some ⟨g, 0, none⟩)] w (Makes w s) := by
  obtain ⟨c, hb, ho⟩ := f.ex
  have hl := len_pos f.ok
  have c0 := hb.cell (j := 0) rfl
  have c1 := hb.cell (j := 1) rfl
  have c2 := hb.cell (j := 2) rfl
  have c3 := hb.cell (j := 3) rfl
  have c4 := hb.cell (j := 4) rfl
  have c5 := hb.cell (j := 5) rfl
  have e0 : ∀ o, (w.alloc o).cell? ⟨g, 0, none⟩ = some (.slice (some ⟨h, 0, none⟩) s.ws.length c) := fun o => (hb.alloc o).cell (j := 0) rfl
  have HR := hide (Row.of_own ho)
  clear hb ho
  go_enter Try.func21, Try.ntmps21
  go_wp2_with (first
    | (go_at_call 40; refine (isNone_any g h s _ f).mono ?_; rintro e w1 ⟨rfl, rfl⟩)
    | (go_at_call 41; refine (Clone_any w.heap.size _ _ _ s.ws _ (HR.out.alloc (Nat.le_refl _) _) (by simp) (by omega) (by omega)).mono ?_; rintro e w2 ⟨h2, k2, rfl, ho2, hk2, hh2⟩; have hb2 := hk2.blk (Blk.new w 58 (flC h c s)) (by simp); have z2 := hb2.frozen 0; have x2 := hb2.cell (j := 0) rfl; have HB2 := hide hb2; clear hb2))
  go_ret
  have hs := hk2.size
  simp at hs hh2
  exact ⟨_, h2, rfl, ⟨f.ok, by omega, k2, HB2.out.set 0 _, own_fld ho2 (by omega) _ _⟩, (((Keeps.refl _ _).alloc _).trans hk2 (by simp)).set (.inr (Nat.le_refl _)) _, Nat.le_refl _, by omega⟩
theorem andNot_w (a b : UInt32) : bits .andNot .u32 (a.toNat : Int) (b.toNat : Int) = ((dU a b).toNat : Int) := by
  rw [u32_andNot_nat _ _ a.toNat_lt b.toNat_lt]; unfold dU; rw [UInt32.toNat_and, UInt32.toNat_not]
  rfl
theorem proW_at {ws : List UInt32} {k : Nat} (v m : UInt32) (h : k < ws.length) : ws.set k (dU ws[k] (nU (iU v) m)) = proW ws k v m := by
  unfold proW
  rw [pw_is, List.getD_eq_getElem?_getD, List.getElem?_eq_getElem h]
  rfl
theorem clear_any (h : Nat) (k : Nat) (n c : Nat) (ws : List UInt32) (v m : UInt32) (w : World) (ho : w.ownsRow 0 28 1 (.slice (some ⟨h, 0, none⟩) n c) n (cs32 ws)) (hk : k < n) :
    Calls Try.prog 37 #[.agg #[.pointer (some ⟨h, k, none⟩), .int .u32 ((iU v).toNat : Int)], .int .u32 (m.toNat : Int)] w fun e w' => e = .returned (.tuple #[]) ∧ w'.ownsRow 0 28 1 (.slice (some ⟨h, 0, none⟩) n c) n (cs32 (proW ws k v m)) ∧ Keeps [h] w w' := by
  have hln := own32_len ho
  have hk2 : k < ws.length := by omega
  have ha := and_w
  have hd := andNot_w
  go_enter Try.func37, Try.ntmps37
  go_wp2
  have hb := Blk.new w 64 [.pointer (some ⟨h, k, none⟩), .int .u32 ((iU v).toNat : Int)]
  have hkp := (Keeps.refl [h] w).alloc (.cells #[.pointer (some ⟨h, k, none⟩), .int .u32 ((iU v).toNat : Int)] 64)
  have ho1 := ho.alloc (.cells #[.pointer (some ⟨h, k, none⟩), .int .u32 ((iU v).toNat : Int)] 64)
  generalize w.alloc _ = w1 at hb ho1 hkp ⊢
  generalize w.heap.size = g1 at hb ⊢
  have b0 := hb.drew.cell (j := 0) rfl
  have b1 := hb.drew.cell (j := 1) rfl
  have ho2 := ho1.drew
  have hkd := hkp.drew
  have hc := ho2.cellAt k (by omega)
  rw [cs32_at hk2] at hc
  have hz := ho2.frozenAt k
  have hst := ho2.stored k (.int .u32 ((dU ws[k] (nU (iU v) m)).toNat : Int))
  rw [cs32_set, proW_at v m hk2] at hst
  have HST := hide hst
  clear hst hb ho1 ho ho2
  go_still_tail 9, (by kernel_rfl)
  change wpList _ _ _ _ _ w1.drew
  generalize w1.drew = w2 at b0 b1 hc hz HST hkd ⊢
  go_wp2
  go_end0
  exact ⟨rfl, HST.out.1, hkd.trans (Keeps.of_grown HST.out.2) (by simp)⟩
end Go.Proofs.Ytimajdhfgkpndaa
