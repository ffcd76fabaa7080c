/-
  Contracts of package flash: Copy; the effects clear and erase; operate.
-/
import Derived.Test.YtahnfkoakaimhaaFPkg2
import Derived.StillTailTactics
namespace Go.Proofs.Ytahnfkoakaimhaa
open Go.RowKit
set_option maxHeartbeats 400000

theorem andNot_w (a b : UInt32) : bits .andNot .u32 (a.toNat : Int) (b.toNat : Int) = ((dU a b).toNat : Int) := by
  rw [u32_andNot_nat _ _ a.toNat_lt b.toNat_lt]; unfold dU; rw [UInt32.toNat_and, UInt32.toNat_not]
  rfl
theorem proW_at {ws : List UInt32} {k : Nat} (v m : UInt32) (h : k < ws.length) : ws.set k (dU ws[k] (nU (iU v) m)) = proW ws k v m := by
  unfold proW
  rw [pw_is, List.getD_eq_getElem?_getD, List.getElem?_eq_getElem h]
  rfl
set_option maxRecDepth 10000 in
theorem clear_any (h : Nat) (k : Nat) (n c : Nat) (ws : List UInt32) (v m : UInt32) (w : World) (ho : w.ownsRow 0 37 1 (.slice (some ⟨h, 0, none⟩) n c) n (cs32 ws)) (hk : k < n) :
    Calls Try.prog 64 #[.agg #[.pointer (some ⟨h, k, none⟩), .int .u32 ((iU v).toNat : Int)], .int .u32 (m.toNat : Int)] w fun e w' => e = .returned (.tuple #[]) ∧ w'.ownsRow 0 37 1 (.slice (some ⟨h, 0, none⟩) n c) n (cs32 (proW ws k v m)) ∧ Keeps [h] w w' := by
  have hln := own32_len ho
  have hk2 : k < ws.length := by omega
  have ha := and_w
  have hd := andNot_w
  go_enter Try.func64, Try.ntmps64
  go_wp2
  have hb := Blk.new w 108 [.pointer (some ⟨h, k, none⟩), .int .u32 ((iU v).toNat : Int)]
  have hkp := (Keeps.refl [h] w).alloc (.cells #[.pointer (some ⟨h, k, none⟩), .int .u32 ((iU v).toNat : Int)] 108)
  have ho1 := ho.alloc (.cells #[.pointer (some ⟨h, k, none⟩), .int .u32 ((iU v).toNat : Int)] 108)
  generalize w.alloc _ = w1 at hb ho1 hkp ⊢
  generalize w.heap.size = g1 at hb ⊢
  have b0 := hb.drew.cell (j := 0) rfl
  have b1 := hb.drew.cell (j := 1) rfl
  have ho2 := ho1.drew
  have hkd := hkp.drew
  have hc := ho2.cellAt k (by omega)
  rw [cs32_at hk2] at hc
  have hz := ho2.frozenAt k
  have hst := ho2.stored k (.int .u32 ((dU ws[k] (nU (iU v) m)).toNat : Int))
  rw [cs32_set, proW_at v m hk2] at hst
  have HST := hide hst
  clear hst hb ho1 ho ho2
  go_still_tail 9, (by kernel_rfl)
  change wpList _ _ _ _ _ w1.drew
  generalize w1.drew = w2 at b0 b1 hc hz HST hkd ⊢
  go_wp2
  go_end0
  exact ⟨rfl, HST.out.1, hkd.trans (Keeps.of_grown HST.out.2) (by simp)⟩
end Go.Proofs.Ytahnfkoakaimhaa
