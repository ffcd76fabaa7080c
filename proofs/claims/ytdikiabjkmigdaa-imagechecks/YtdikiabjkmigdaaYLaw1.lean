/-
  The walk of the law ImageChecks.
-/
import Derived.Test.YtdikiabjkmigdaaYKnown
import Derived.Test.YtdikiabjkmigdaaYRef5
import Derived.BigQuiet
namespace Go.Proofs.Ytdikiabjkmigdaa
open Go.RowKit
set_option maxRecDepth 20000
set_option maxHeartbeats 4000000

theorem two_str {w : World} {q B4 B5 n4 c4 n5 c5 : Nat} {A4 A5 : Option Addr} {L : List UInt8} {K : IV} (b : Blk w q 28 [.int .u32 K.v, .int .u32 K.f, .int .i64 K.e, .int .i64 K.s, .int .i64 K.o, .int .i64 K.n, .int .i64 K.i, .int .i64 K.u, .slice K.fA K.fn K.fc, .slice K.sA K.sn K.sc, .slice K.mA K.mn K.mc, .int .i64 K.x, .int .i64 K.y]) (r4 : Row w B4 A4 n4 c4 (cs8 L)) (r5 : Row w B5 A5 n5 c5 (cs8 L)) :
    (convert 31 9 (.slice A4 n4 c4)).run Try.prog w = .ok (.string ⟨L.toArray⟩) w ∧ (convert 31 9 (.slice A5 n5 c5)).run Try.prog w = .ok (.string ⟨L.toArray⟩) w ∧ w.cell? ⟨q, 0, none⟩ = some (.int .u32 K.v) ∧ w.cell? ⟨q, 1, none⟩ = some (.int .u32 K.f) ∧ w.cell? ⟨q, 2, none⟩ = some (.int .i64 K.e) ∧ w.cell? ⟨q, 3, none⟩ = some (.int .i64 K.s) ∧ w.cell? ⟨q, 4, none⟩ = some (.int .i64 K.o) ∧ w.cell? ⟨q, 5, none⟩ = some (.int .i64 K.n) ∧ w.cell? ⟨q, 6, none⟩ = some (.int .i64 K.i) ∧ w.cell? ⟨q, 7, none⟩ = some (.int .i64 K.u) ∧ w.cell? ⟨q, 8, none⟩ = some (.slice K.fA K.fn K.fc) ∧ w.cell? ⟨q, 9, none⟩ = some (.slice K.sA K.sn K.sc) ∧ w.cell? ⟨q, 10, none⟩ = some (.slice K.mA K.mn K.mc) ∧ w.cell? ⟨q, 11, none⟩ = some (.int .i64 K.x) ∧ w.cell? ⟨q, 12, none⟩ = some (.int .i64 K.y) :=
  ⟨r4.str Try.underlying31 Try.underlying5 Try.underlying9, r5.str Try.underlying31 Try.underlying5 Try.underlying9, cells13 b⟩
theorem checks_walk (K : IV) (w : World) (hK : Held w w.heap.size K) :
    Calls Try.prog 3 #[.agg #[.int .u32 K.v, .int .u32 K.f, .int .i64 K.e, .int .i64 K.s, .int .i64 K.o, .int .i64 K.n, .int .i64 K.i, .int .i64 K.u, .slice K.fA K.fn K.fc, .slice K.sA K.sn K.sc, .slice K.mA K.mn K.mc, .int .i64 K.x, .int .i64 K.y]] w fun e w' => e = .returned (.bool true) ∧ Below w.heap.size w w' := by
  obtain ⟨lb, hlb⟩ : ∃ b, lightB K = b := ⟨_, rfl⟩
  have HL := hide hlb
  clear hlb
  have hb0 := below_box w (.cells #[.int .u32 K.v, .int .u32 K.f, .int .i64 K.e, .int .i64 K.s, .int .i64 K.o, .int .i64 K.n, .int .i64 K.i, .int .i64 K.u, .slice K.fA K.fn K.fc, .slice K.sA K.sn K.sc, .slice K.mA K.mn K.mc, .int .i64 K.x, .int .i64 K.y] 28)
  have bQ := Blk.new w 28 [.int .u32 K.v, .int .u32 K.f, .int .i64 K.e, .int .i64 K.s, .int .i64 K.o, .int .i64 K.n, .int .i64 K.i, .int .i64 K.u, .slice K.fA K.fn K.fc, .slice K.sA K.sn K.sc, .slice K.mA K.mn K.mc, .int .i64 K.x, .int .i64 K.y]
  have hK0 := (hK.keep hb0 (Nat.le_refl _)).more hb0.size
  have H0 := hide (And.intro hb0 (And.intro bQ hK0))
  clear hb0 bQ hK0
  cases lb
  · go_enter Try.func3, Try.ntmps3
    go_wp2_with fail
    refine (light_b K _ _ HL).mono ?_
    rintro e w2 ⟨rfl, hb2⟩
    have HB := hide (H0.out.1.trans (hb2.mono H0.out.1.size))
    clear hb2
    go_wp2_with fail
    refine (known_any w2).mono ?_
    rintro e wk ⟨rfl, hbk⟩
    have HB2 := hide (HB.out.trans (hbk.mono HB.out.size))
    clear hbk
    go_wp2
    go_ret
    exact ⟨rfl, HB2.out⟩
  · obtain ⟨z, hz⟩ : ∃ z, chkM K.m = z := ⟨_, rfl⟩
    obtain ⟨L, hL⟩ : ∃ L, enL K.m = L := ⟨_, rfl⟩
    obtain ⟨ze, hze⟩ : ∃ z, enE K.m = z := ⟨_, rfl⟩
    have HZ := hide (And.intro hz (And.intro hL hze))
    clear hz hL hze
    go_enter Try.func3, Try.ntmps3
    go_wp2_with fail
    refine (light_b K _ _ HL).mono ?_
    rintro e w2 ⟨rfl, hb2⟩
    have bQ2 := H0.out.2.1.keep hb2 H0.out.2.1.lt
    have hK2 := (H0.out.2.2.keep hb2 (Nat.le_refl _)).more hb2.size
    have hb02 := H0.out.1.trans (hb2.mono H0.out.1.size)
    obtain ⟨k0, k1, k2, k3, k4, k5, k6, k7, k8, k9, k10, k11, k12⟩ := cells13 bQ2
    have lq := bQ2.lt
    clear hb2 H0
    go_wp2_with fail
    clear k0 k1 k2 k3 k4 k5 k6 k7 k8 k9 k10 k11 k12 lq
    refine (Encode11_any K w2 hK2).mono ?_
    rw [HZ.out.2.1, HZ.out.2.2]
    rintro e w3 ⟨A3, n3, c3, rfl, r3_, hb3⟩
    have bQ3 := bQ2.keep hb3 bQ2.lt
    have hK3 := (hK2.keep hb3 (Nat.le_refl _)).more hb3.size
    have hb03 := hb02.trans (hb3.mono hb02.size)
    obtain ⟨k0, k1, k2, k3, k4, k5, k6, k7, k8, k9, k10, k11, k12⟩ := cells13 bQ3
    have lq := bQ3.lt
    clear hb3 bQ2 hK2 hb02
    go_wp2_with fail
    clear k0 k1 k2 k3 k4 k5 k6 k7 k8 k9 k10 k11 k12 lq
    refine (rEncode11_any K w3 hK3).mono ?_
    rw [HZ.out.2.1, HZ.out.2.2]
    rintro e w4 ⟨A4, n4, c4, rfl, r4_, hb4⟩
    have bQ4 := bQ3.keep hb4 bQ3.lt
    have hK4 := (hK3.keep hb4 (Nat.le_refl _)).more hb4.size
    have hb04 := hb03.trans (hb4.mono hb03.size)
    have r3b := (r3_.keep hb4 (Nat.le_refl _)).more hb4.size
    clear hb4 bQ3 hK3 hb03 r3_
    have hbd := below_drewN w4.heap.size w4 1
    have bE := bQ4.drew
    have hKE := hK4.keep hbd (Nat.le_refl _)
    replace hKE : Held w4.drew w4.drew.heap.size K := hKE
    have x3 := r3b.of_drew
    have x4 := r4_.of_drew
    have hbE := hb04.drew
    have sE := two_str bE x3 x4
    clear bQ4 hK4 hb04 r3b r4_ hbd
    go_wp2_with fail
    go_region_held3 (fun W : World => (convert 31 9 (.slice A3 n3 c3)).run Try.prog W = .ok (.string ⟨L.toArray⟩) W ∧ (convert 31 9 (.slice A4 n4 c4)).run Try.prog W = .ok (.string ⟨L.toArray⟩) W ∧ W.cell? ⟨w.heap.size, 0, none⟩ = some (.int .u32 K.v) ∧ W.cell? ⟨w.heap.size, 1, none⟩ = some (.int .u32 K.f) ∧ W.cell? ⟨w.heap.size, 2, none⟩ = some (.int .i64 K.e) ∧ W.cell? ⟨w.heap.size, 3, none⟩ = some (.int .i64 K.s) ∧ W.cell? ⟨w.heap.size, 4, none⟩ = some (.int .i64 K.o) ∧ W.cell? ⟨w.heap.size, 5, none⟩ = some (.int .i64 K.n) ∧ W.cell? ⟨w.heap.size, 6, none⟩ = some (.int .i64 K.i) ∧ W.cell? ⟨w.heap.size, 7, none⟩ = some (.int .i64 K.u) ∧ W.cell? ⟨w.heap.size, 8, none⟩ = some (.slice K.fA K.fn K.fc) ∧ W.cell? ⟨w.heap.size, 9, none⟩ = some (.slice K.sA K.sn K.sc) ∧ W.cell? ⟨w.heap.size, 10, none⟩ = some (.slice K.mA K.mn K.mc) ∧ W.cell? ⟨w.heap.size, 11, none⟩ = some (.int .i64 K.x) ∧ W.cell? ⟨w.heap.size, 12, none⟩ = some (.int .i64 K.y)) (first | exact sE | exact sF | exact sG | exact sH) (first
      | (go_at_call 10; refine (Check11_any K z _ hKE (hide HZ.out.1)).mono ?_; rintro e' w5 ⟨rfl, hb5⟩; have bF := bE.keep hb5 bE.lt; have hKF := (hKE.keep hb5 (Nat.le_refl _)).more hb5.size; have y3 := (x3.keep hb5 (Nat.le_refl _)).more hb5.size; have y4 := (x4.keep hb5 (Nat.le_refl _)).more hb5.size; have sF := two_str bF y3 y4; have hbF := hbE.trans (hb5.mono hbE.size))
      | (go_at_call 11; refine (rCheck11_any K z _ hKF (hide HZ.out.1)).mono ?_; rintro e' w6 ⟨rfl, hb6⟩; have bG := bF.keep hb6 bF.lt; have u3 := (y3.keep hb6 (Nat.le_refl _)).more hb6.size; have u4 := (y4.keep hb6 (Nat.le_refl _)).more hb6.size; have sG := two_str bG u3 u4; have hbG := hbF.trans (hb6.mono hbF.size))
      | (go_at_call 7; refine (known_any _).mono ?_; rintro e' w7 ⟨rfl, hb7⟩; have bH := bG.keep hb7 bG.lt; have s3 := (u3.keep hb7 (Nat.le_refl _)).more hb7.size; have s4 := (u4.keep hb7 (Nat.le_refl _)).more hb7.size; have sH := two_str bH s3 s4; have hbH := hbG.trans (hb7.mono hbG.size)))
    go_wp2
    go_ret
    exact ⟨rfl, hbH⟩

end Go.Proofs.Ytdikiabjkmigdaa
