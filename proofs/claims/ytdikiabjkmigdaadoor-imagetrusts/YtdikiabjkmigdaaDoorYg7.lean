/-
  Contracts: image.Sign, image.Open.
-/
import Derived.Test.YtdikiabjkmigdaaDoorYg2
import Derived.Test.YtdikiabjkmigdaaDoorILent
import Derived.Deep.QuietTactic
import Derived.BigQuiet
import Derived.Test.YtdikiabjkmigdaaDoorYg6
import Derived.Test.YtdikiabjkmigdaaDoorMPkg4
namespace Go.Proofs.YtdikiabjkmigdaaDoor
open Go.RowKit
set_option maxRecDepth 20000
set_option maxHeartbeats 4000000

theorem Ints_same (B B' : Nat) (A A' : Option Addr) (n c n' c' : Nat) (l : List Int) (w : World) (hr : Row w B A n c (c32 l)) (hr' : Row w B' A' n' c' (c32 l)) :
    Calls Tryd.prog 22 #[.slice A n c, .slice A' n' c'] w (Drew true w) := by
  obtain rfl : n' = n := by have h1 := hr.len; have h2 := hr'.len; omega
  have hn := hr.len
  rw [c32_len] at hn
  subst hn
  have hm := hr.max
  have hcap := hr.cap
  unfold maxLen at hm
  go_enter Tryd.func22, Tryd.ntmps22
  go_wp2
  go_loopw [5] (fun i wr => ∃ j k : Nat, j ≤ l.length ∧ i = .int .i64 (j : Int) ∧ wr = w.drewN k) (fun i _ => l.length - (intOf i).toNat)
  case atStart => exact ⟨0, 0, Nat.zero_le _, rfl, rfl⟩
  case round =>
    obtain ⟨j, k, hj, rfl, rfl⟩ := hrel
    by_cases hlt : j < l.length
    · obtain ⟨b, o, u, rfl, _, hu, hc⟩ := hr.get hlt
      obtain ⟨b', o', u', rfl, _, hu', hc'⟩ := hr'.get hlt
      rw [c32_at hlt] at hu hu'
      obtain rfl := Option.some.inj hu
      obtain rfl := Option.some.inj hu'
      have hi1 : (j : Int) < (l.length : Int) := by omega
      clear hu hu' hr hr'
      go_wp2
      go_quiet (fail)
      go_wp2
      go_roundw
      case rel => exact ⟨j + 1, k + nq, by omega, by go_num, by first | rfl | exact World.drewN_drewN⟩
      case measure => simp [intOf]; omega
    · obtain rfl : j = l.length := by omega
      go_wp2
      go_ret
      exact ⟨k, rfl, rfl⟩
theorem img_two2 (w : World) (o : Obj) (cs : List Value) : Blk ((w.alloc o).alloc (.cells cs.toArray 28)) (w.heap.size + 1) 28 cs := Blk.at _ _ _ (by simp)
theorem cells13s {w : World} {g : Nat} {t : TypeId} {c0 c1 c2 c3 c4 c5 c6 c7 c8 c9 c10 c11 c12 : Value} (b : Blk w g t [c0, c1, c2, c3, c4, c5, c6, c7, c8, c9, c10, c11, c12]) :
    w.cell? ⟨g, 0, none⟩ = some c0 ∧ w.cell? ⟨g, 1, none⟩ = some c1 ∧ w.cell? ⟨g, 2, none⟩ = some c2 ∧ w.cell? ⟨g, 3, none⟩ = some c3 ∧ w.cell? ⟨g, 4, none⟩ = some c4 ∧ w.cell? ⟨g, 5, none⟩ = some c5 ∧ w.cell? ⟨g, 6, none⟩ = some c6 ∧ w.cell? ⟨g, 7, none⟩ = some c7 ∧ w.cell? ⟨g, 8, none⟩ = some c8 ∧ w.cell? ⟨g, 9, none⟩ = some c9 ∧ w.cell? ⟨g, 10, none⟩ = some c10 ∧ w.cell? ⟨g, 11, none⟩ = some c11 ∧ w.cell? ⟨g, 12, none⟩ = some c12 :=
  ⟨b.cell (j := 0) rfl, b.cell (j := 1) rfl, b.cell (j := 2) rfl, b.cell (j := 3) rfl, b.cell (j := 4) rfl, b.cell (j := 5) rfl, b.cell (j := 6) rfl, b.cell (j := 7) rfl, b.cell (j := 8) rfl, b.cell (j := 9) rfl, b.cell (j := 10) rfl, b.cell (j := 11) rfl, b.cell (j := 12) rfl⟩
theorem boxes_below (w : World) (a b : Obj) : Below w.heap.size w ((w.alloc a).alloc b) := ((Below.refl _ w).alloc (Nat.le_refl _) a).alloc (by simp) b
theorem Same11_any (K D : IV) (B B' : Nat) (w : World) (hK : Held w B K) (hD : Held w B' D) (hB : B ≤ w.heap.size) (hB' : B' ≤ w.heap.size) (h : K.m = D.m) :
    Calls Tryd.prog 12 #[.agg #[.int .u32 K.v, .int .u32 K.f, .int .i64 K.e, .int .i64 K.s, .int .i64 K.o, .int .i64 K.n, .int .i64 K.i, .int .i64 K.u, .slice K.fA K.fn K.fc, .slice K.sA K.sn K.sc, .slice K.mA K.mn K.mc, .int .i64 K.x, .int .i64 K.y], .agg #[.int .u32 D.v, .int .u32 D.f, .int .i64 D.e, .int .i64 D.s, .int .i64 D.o, .int .i64 D.n, .int .i64 D.i, .int .i64 D.u, .slice D.fA D.fn D.fc, .slice D.sA D.sn D.sc, .slice D.mA D.mn D.mc, .int .i64 D.x, .int .i64 D.y]] w (TellsB w true) := by
  obtain ⟨v, f, e, s, o, n, i, u, x, y, fs, st, mv, fA, fn, fc, sA, sn, sc, mA, mn, mc⟩ := K
  obtain ⟨v', f', e', s', o', n', i', u', x', y', fs', st', mv', fA', fn', fc', sA', sn', sc', mA', mn', mc'⟩ := D
  simp only [IV.m, Im.mk.injEq, Fr.mk.injEq] at h
  obtain ⟨rfl, rfl, rfl, ⟨rfl, rfl, rfl, rfl, rfl⟩, rfl, rfl, rfl, rfl, rfl⟩ := h
  have k1 := hK.fs
  have k2 := hK.st
  have k3 := hK.mv
  have d1 := hD.fs
  have d2 := hD.st
  have d3 := hD.mv
  simp only at k1 k2 k3 d1 d2 d3 ⊢
  clear hK hD
  go_enter Tryd.func12, Tryd.ntmps12
  have bK := (Blk.new w 28 [.int .u32 v, .int .u32 f, .int .i64 e, .int .i64 s, .int .i64 o, .int .i64 n, .int .i64 i, .int .i64 u, .slice fA fn fc, .slice sA sn sc, .slice mA mn mc, .int .i64 x, .int .i64 y]).alloc (.cells #[.int .u32 v, .int .u32 f, .int .i64 e, .int .i64 s, .int .i64 o, .int .i64 n, .int .i64 i, .int .i64 u, .slice fA' fn' fc', .slice sA' sn' sc', .slice mA' mn' mc', .int .i64 x, .int .i64 y] 28)
  have bD := img_two2 w (.cells #[.int .u32 v, .int .u32 f, .int .i64 e, .int .i64 s, .int .i64 o, .int .i64 n, .int .i64 i, .int .i64 u, .slice fA fn fc, .slice sA sn sc, .slice mA mn mc, .int .i64 x, .int .i64 y] 28) [.int .u32 v, .int .u32 f, .int .i64 e, .int .i64 s, .int .i64 o, .int .i64 n, .int .i64 i, .int .i64 u, .slice fA' fn' fc', .slice sA' sn' sc', .slice mA' mn' mc', .int .i64 x, .int .i64 y]
  have hb := boxes_below w (.cells #[.int .u32 v, .int .u32 f, .int .i64 e, .int .i64 s, .int .i64 o, .int .i64 n, .int .i64 i, .int .i64 u, .slice fA fn fc, .slice sA sn sc, .slice mA mn mc, .int .i64 x, .int .i64 y] 28) (.cells #[.int .u32 v, .int .u32 f, .int .i64 e, .int .i64 s, .int .i64 o, .int .i64 n, .int .i64 i, .int .i64 u, .slice fA' fn' fc', .slice sA' sn' sc', .slice mA' mn' mc', .int .i64 x, .int .i64 y] 28)
  have k1 := k1.keep hb hB
  have k2 := k2.keep hb hB
  have k3 := k3.keep hb hB
  have d1 := d1.keep hb hB'
  have d2 := d2.keep hb hB'
  have d3 := d3.keep hb hB'
  have HB := hide hb
  clear hb
  have HBK := hide (And.intro bK bD)
  clear bK bD
  go_wp2_with fail
  generalize (w.alloc (.cells #[.int .u32 v, .int .u32 f, .int .i64 e, .int .i64 s, .int .i64 o, .int .i64 n, .int .i64 i, .int .i64 u, .slice fA fn fc, .slice sA sn sc, .slice mA mn mc, .int .i64 x, .int .i64 y] 28)).alloc (.cells #[.int .u32 v, .int .u32 f, .int .i64 e, .int .i64 s, .int .i64 o, .int .i64 n, .int .i64 i, .int .i64 u, .slice fA' fn' fc', .slice sA' sn' sc', .slice mA' mn' mc', .int .i64 x, .int .i64 y] 28) = w1 at HB HBK k1 k2 k3 d1 d2 d3 ⊢
  refine (Ints_same B B' fA fA' fn fc fn' fc' fs w1 k1 d1).mono ?_
  rintro e' w' ⟨kk, rfl, rfl⟩
  have q := below_drewN w1.heap.size w1 kk
  generalize w1.drewN kk = w2 at q ⊢
  have bK := HBK.out.1.keep q HBK.out.1.lt
  have bD := HBK.out.2.keep q HBK.out.2.lt
  have hb2 := HB.out.trans (q.mono HB.out.size)
  have k2 := k2.keep q (Nat.le_trans hB HB.out.size)
  have k3 := k3.keep q (Nat.le_trans hB HB.out.size)
  have d2 := d2.keep q (Nat.le_trans hB' HB.out.size)
  have d3 := d3.keep q (Nat.le_trans hB' HB.out.size)
  obtain ⟨k0_, k1_, k2_, k3_, k4_, k5_, k6_, k7_, k8_, k9_, k10_, k11_, k12_⟩ := cells13s bK
  obtain ⟨z0, z1, z2, z3, z4, z5, z6, z7, z8, z9, z10, z11, z12⟩ := cells13s bD
  have HB2 := hide (And.intro hb2 (And.intro bK bD))
  clear q bK bD hb2
  go_wp2_with fail
  clear k0_ k1_ k2_ k3_ k4_ k5_ k6_ k7_ k8_ k9_ k10_ k11_ k12_ z0 z1 z2 z3 z4 z5 z6 z7 z8 z9 z10 z11 z12
  refine (rSame_any B B' sA sA' sn sn' sc sc' st w2 k2 d2).mono ?_
  rintro e' w' ⟨kk2, rfl, rfl⟩
  have q := below_drewN w2.heap.size w2 kk2
  generalize w2.drewN kk2 = w3 at q ⊢
  have bK := HB2.out.2.1.keep q HB2.out.2.1.lt
  have bD := HB2.out.2.2.keep q HB2.out.2.2.lt
  have hb3 := HB2.out.1.trans (q.mono HB2.out.1.size)
  have k3 := k3.keep q (Nat.le_trans hB HB2.out.1.size)
  have d3 := d3.keep q (Nat.le_trans hB' HB2.out.1.size)
  obtain ⟨k0_, k1_, k2_, k3_, k4_, k5_, k6_, k7_, k8_, k9_, k10_, k11_, k12_⟩ := cells13s bK
  obtain ⟨z0, z1, z2, z3, z4, z5, z6, z7, z8, z9, z10, z11, z12⟩ := cells13s bD
  have HB3 := hide (And.intro hb3 (And.intro bK bD))
  clear q bK bD hb3
  go_wp2_with fail
  clear k0_ k1_ k2_ k3_ k4_ k5_ k6_ k7_ k8_ k9_ k10_ k11_ k12_ z0 z1 z2 z3 z4 z5 z6 z7 z8 z9 z10 z11 z12
  refine (rSame_any B B' mA mA' mn mn' mc mc' mv w3 k3 d3).mono ?_
  rintro e' w' ⟨kk3, rfl, rfl⟩
  have q := below_drewN w3.heap.size w3 kk3
  generalize w3.drewN kk3 = w4 at q ⊢
  have bK := HB3.out.2.1.keep q HB3.out.2.1.lt
  have bD := HB3.out.2.2.keep q HB3.out.2.2.lt
  obtain ⟨k0_, k1_, k2_, k3_, k4_, k5_, k6_, k7_, k8_, k9_, k10_, k11_, k12_⟩ := cells13s bK
  obtain ⟨z0, z1, z2, z3, z4, z5, z6, z7, z8, z9, z10, z11, z12⟩ := cells13s bD
  have HB4 := hide (HB3.out.1.trans (q.mono HB3.out.1.size))
  clear q bK bD
  go_wp2
  go_ret
  exact ⟨rfl, HB4.out⟩

end Go.Proofs.YtdikiabjkmigdaaDoor
namespace Go.Proofs.YtdikiabjkmigdaaDoor
open Go.RowKit
set_option maxRecDepth 20000
set_option maxHeartbeats 4000000

/-- The sealed bytes of an image. -/
def sgL (k : List UInt8) (m : Im) : List UInt8 := if enE m = 0 then sealT k (enL m) else []
noncomputable def opE (k l : List UInt8) : Int := if 2048 < l.length then 3 else if unE k l ≠ 0 then unE k l else parE (unL k l)
noncomputable def opM (k l : List UInt8) : Im := if 2048 < l.length ∨ unE k l ≠ 0 then zeroM else parM (unL k l)
theorem en_len {m : Im} (h : enE m = 0) : (enL m).length ≤ 2016 := by
  unfold enL
  rw [if_pos h]
  unfold enE at h
  split at h
  · contradiction
  · split at h
    · omega
    · omega
theorem Sign11_any (K : IV) (B : Nat) (Ak : Option Addr) (nk ck : Nat) (k : List UInt8) (w : World) (hK : Held w w.heap.size K) (hk : Row w B Ak nk ck (cs8 k)) (hB : B ≤ w.heap.size) (hT : KT B w) (hnk : nk ≤ 1073741824) :
    Calls Tryd.prog 8 #[.agg #[.int .u32 K.v, .int .u32 K.f, .int .i64 K.e, .int .i64 K.s, .int .i64 K.o, .int .i64 K.n, .int .i64 K.i, .int .i64 K.u, .slice K.fA K.fn K.fc, .slice K.sA K.sn K.sc, .slice K.mA K.mn K.mc, .int .i64 K.x, .int .i64 K.y], .slice Ak nk ck] w (GivesE w (sgL k K.m) (enE K.m)) := by
  obtain ⟨z, hz⟩ : ∃ z, enE K.m = z := ⟨_, rfl⟩
  have HZ := hide hz
  have hb0 := below_box w (.cells #[.int .u32 K.v, .int .u32 K.f, .int .i64 K.e, .int .i64 K.s, .int .i64 K.o, .int .i64 K.n, .int .i64 K.i, .int .i64 K.u, .slice K.fA K.fn K.fc, .slice K.sA K.sn K.sc, .slice K.mA K.mn K.mc, .int .i64 K.x, .int .i64 K.y] 28)
  have bQ := Blk.new w 28 [.int .u32 K.v, .int .u32 K.f, .int .i64 K.e, .int .i64 K.s, .int .i64 K.o, .int .i64 K.n, .int .i64 K.i, .int .i64 K.u, .slice K.fA K.fn K.fc, .slice K.sA K.sn K.sc, .slice K.mA K.mn K.mc, .int .i64 K.x, .int .i64 K.y]
  have hK0 := (hK.keep hb0 (Nat.le_refl _)).more hb0.size
  have H0 := hide (And.intro hb0 hK0)
  clear hb0 hK0 bQ
  by_cases h0 : z = 0
  · subst h0
    obtain ⟨L, hL⟩ : ∃ L, enL K.m = L := ⟨_, rfl⟩
    have hlen : L.length ≤ 2016 := by rw [← hL]; exact en_len hz
    have HS := hide (show sgL k K.m = sealT k L by unfold sgL; rw [if_pos hz, hL])
    have HL := hide hL
    clear hL hz
    go_enter Tryd.func8, Tryd.ntmps8
    go_wp2_with fail
    refine (Encode11_any K _ H0.out.2).mono ?_
    rw [HZ.out, HL.out]
    rintro e w2 ⟨A2, n2, c2, rfl, r2_, hb2⟩
    have hb02 := H0.out.1.trans (hb2.mono H0.out.1.size)
    have hn2 := r2_.len
    rw [cs8_len] at hn2
    have hn3 : n2 ≤ 2016 := by omega
    clear hn2 hb2
    have hk2 := (hk.keep hb02 hB).more (Nat.le_trans hB hb02.size)
    have hT2 := (hT.keep hb02 hB).more (Nat.le_trans hB hb02.size)
    go_wp2_with fail
    refine (Seal_any w2.heap.size Ak nk ck k A2 n2 c2 L w2 hk2 r2_ (Nat.le_refl _) hT2 hnk (by omega)).mono ?_
    rintro e w3 ⟨A3, n3, c3, rfl, o3, hb3⟩
    go_wp2
    go_ret2
    exact ⟨A3, n3, c3, by rw [HZ.out]; rfl, by rw [HS.out]; exact Row.of_own o3, hb02.trans (hb3.mono hb02.size)⟩
  · have HS := hide (show sgL k K.m = [] by unfold sgL; rw [if_neg (by rw [hz]; exact h0)])
    have g0 : (z == 0) = false := beq_eq_false_iff_ne.2 h0
    have g1 := bne_of g0
    clear hz h0
    go_enter Tryd.func8, Tryd.ntmps8
    go_wp2_with fail
    refine (Encode11_any K _ H0.out.2).mono ?_
    rw [HZ.out]
    rintro e w2 ⟨A2, n2, c2, rfl, r2_, hb2⟩
    have hb02 := H0.out.1.trans (hb2.mono H0.out.1.size)
    clear hb2
    go_wp2
    go_ret2
    exact GivesE.none_ HS.out HZ.out hb02
theorem Open11_any (B : Nat) (A : Option Addr) (n c : Nat) (l : List UInt8) (Ak : Option Addr) (nk ck : Nat) (k : List UInt8) (w : World) (hr : Row w B A n c (cs8 l)) (hk : Row w B Ak nk ck (cs8 k)) (hB : B ≤ w.heap.size) (hT : KT B w) (hnk : nk ≤ 1073741824) :
    Calls Tryd.prog 11 #[.slice A n c, .slice Ak nk ck] w (GivesM w (opM k l) (opE k l)) := by
  have hlen := hr.len
  rw [cs8_len] at hlen
  have hb0 := below_box w (.cells #[.int .u32 0, .int .u32 0, .int .i64 0, .int .i64 0, .int .i64 0, .int .i64 0, .int .i64 0, .int .i64 0, .slice none 0 0, .slice none 0 0, .slice none 0 0, .int .i64 0, .int .i64 0] 28)
  have bZ := Blk.new w 28 [.int .u32 0, .int .u32 0, .int .i64 0, .int .i64 0, .int .i64 0, .int .i64 0, .int .i64 0, .int .i64 0, .slice none 0 0, .slice none 0 0, .slice none 0 0, .int .i64 0, .int .i64 0]
  have H0 := hide (And.intro hb0 bZ)
  by_cases hbig : 2048 < n
  · have hd : decide ((2048 : Int) < (n : Int)) = true := by simp; omega
    have HE := hide (show opE k l = 3 by unfold opE; rw [if_pos (by omega)])
    have HM := hide (show opM k l = zeroM by unfold opM; rw [if_pos (.inl (by omega))])
    clear hlen hbig hb0 bZ
    go_enter Tryd.func11, Tryd.ntmps11
    go_wp2
    refine ret_im (g := w.heap.size) rfl rfl rfl (Blk.new w _ [.int .u32 0, .int .u32 0, .int .i64 0, .int .i64 0, .int .i64 0, .int .i64 0, .int .i64 0, .int .i64 0, .slice none 0 0, .slice none 0 0, .slice none 0 0, .int .i64 0, .int .i64 0]) rfl ?_
    exact GivesM.zero HM.out HE.out (below_box w _)
  · have hd : decide ((2048 : Int) < (n : Int)) = false := by simp; omega
    have hsm : ¬ 2048 < l.length := by omega
    have hn9 : n ≤ 2048 := by omega
    obtain ⟨z, hz⟩ : ∃ z, unE k l = z := ⟨_, rfl⟩
    have HU := hide hz
    have hr0 := (hr.keep hb0 hB).more (Nat.le_trans hB hb0.size)
    have hk0 := (hk.keep hb0 hB).more (Nat.le_trans hB hb0.size)
    have hT0 := (hT.keep hb0 hB).more (Nat.le_trans hB hb0.size)
    by_cases h0 : z = 0
    · subst h0
      obtain ⟨L, hL⟩ : ∃ L, unL k l = L := ⟨_, rfl⟩
      have HE := hide (show opE k l = parE L by unfold opE; rw [if_neg hsm, if_neg (fun hn => hn hz), hL])
      have HM := hide (show opM k l = parM L by unfold opM; rw [if_neg (fun hn => hn.elim hsm fun h => h hz), hL])
      have HL := hide hL
      clear hL hz hlen hbig hsm hr hk hb0 bZ
      go_enter Tryd.func11, Tryd.ntmps11
      go_wp2_with fail
      refine (Open_any _ Ak nk ck k A n c l _ hk0 hr0 (Nat.le_refl _) hT0 hnk (by omega)).mono ?_
      rw [HU.out, HL.out]
      rintro e w2 ⟨A2, n2, c2, rfl, o2, hb2⟩
      have hb02 := H0.out.1.trans (hb2.mono H0.out.1.size)
      have bZ2 := H0.out.2.keep hb2 H0.out.2.lt
      have r2_ := Row.of_own o2
      clear o2 hb2 hr0 hk0 hT0 hT
      go_wp2_with fail
      refine (Parse_any w2.heap.size A2 n2 c2 L w2 r2_ (Nat.le_refl _)).mono ?_
      rintro e w3 ⟨K, rfl, hm, o1, o2, o3, hb3⟩
      have bZ3 := bZ2.keep hb3 bZ2.lt
      have hb03 := hb02.trans (hb3.mono hb02.size)
      have lz2 := bZ2.lt
      have fZ := fun j => bZ3.frozen j
      obtain ⟨z0, z1, z2, z3, z4, z5, z6, z7, z8, z9, z10, z11, z12⟩ := cells13 bZ3
      have lZ := bZ3.lt
      have ALL := hide (And.intro bZ3 (And.intro hb03 (And.intro o1 (And.intro o2 o3))))
      clear bZ3 hb03 o1 o2 o3 bZ2 hb02 hb3 r2_
      have HK := hide hm
      clear hm
      go_wp2
      obtain ⟨bZ4, hb5, p1, p2, p3⟩ := ALL.out
      refine ret_im (g := w.heap.size) rfl rfl rfl (bZ4.put13 _ _ _ _ _ _ _ _ _ _ _ _ _) rfl ?_
      refine ⟨K, by rw [HE.out], by rw [HM.out]; exact HK.out, ?_, ?_, ?_, below13 hb5 (Nat.le_refl _) _ _ _ _ _ _ _ _ _ _ _ _ _⟩
      · exact own_lower (own13 p1 (fun k hk => by have := (p1.lt k hk).1; omega) _ _ _ _ _ _ _ _ _ _ _ _ _) (by omega)
      · exact own_lower (own13 p2 (fun k hk => by have := (p2.lt k hk).1; omega) _ _ _ _ _ _ _ _ _ _ _ _ _) (by omega)
      · exact own_lower (own13 p3 (fun k hk => by have := (p3.lt k hk).1; omega) _ _ _ _ _ _ _ _ _ _ _ _ _) (by omega)
    · have HE := hide (show opE k l = z by unfold opE; rw [if_neg hsm, if_pos (by rw [hz]; exact h0), hz])
      have HM := hide (show opM k l = zeroM by unfold opM; rw [if_pos (.inr (by rw [hz]; exact h0))])
      have g0 : (z == 0) = false := beq_eq_false_iff_ne.2 h0
      have g1 := bne_of g0
      clear hz h0 hlen hbig hsm hr hk hb0 bZ
      go_enter Tryd.func11, Tryd.ntmps11
      go_wp2_with fail
      refine (Open_any _ Ak nk ck k A n c l _ hk0 hr0 (Nat.le_refl _) hT0 hnk (by omega)).mono ?_
      rw [HU.out]
      rintro e w2 ⟨A2, n2, c2, rfl, o2, hb2⟩
      have hb02 := H0.out.1.trans (hb2.mono H0.out.1.size)
      have bZ2 := H0.out.2.keep hb2 H0.out.2.lt
      have fZ := fun j => bZ2.frozen j
      obtain ⟨z0, z1, z2, z3, z4, z5, z6, z7, z8, z9, z10, z11, z12⟩ := cells13 bZ2
      have lZ := bZ2.lt
      have ALL := hide (And.intro bZ2 hb02)
      clear o2 hb2 hr0 hk0 bZ2 hb02 hT0 hT
      go_wp2
      refine ret_im (g := w.heap.size) rfl rfl rfl (ALL.out.1.put13 _ _ _ _ _ _ _ _ _ _ _ _ _) rfl ?_
      exact GivesM.zero HM.out HE.out (below13 ALL.out.2 (Nat.le_refl _) _ _ _ _ _ _ _ _ _ _ _ _ _)

end Go.Proofs.YtdikiabjkmigdaaDoor
