/-
  Contract of midstreamref11.Same: of images that are alike.
-/
import Derived.Test.YtdikiabjkmigdaaYMem
import Derived.Test.YtdikiabjkmigdaaILent
import Derived.Deep.QuietTactic
import Derived.BigQuiet
namespace Go.Proofs.Ytdikiabjkmigdaa
open Go.RowKit
set_option maxRecDepth 20000
set_option maxHeartbeats 4000000

theorem Ints_same (B B' : Nat) (A A' : Option Addr) (n c n' c' : Nat) (l : List Int) (w : World) (hr : Row w B A n c (c32 l)) (hr' : Row w B' A' n' c' (c32 l)) :
    Calls Try.prog 27 #[.slice A n c, .slice A' n' c'] w (Drew true w) := by
  obtain rfl : n' = n := by have h1 := hr.len; have h2 := hr'.len; omega
  have hn := hr.len
  rw [c32_len] at hn
  subst hn
  have hm := hr.max
  have hcap := hr.cap
  unfold maxLen at hm
  go_enter Try.func27, Try.ntmps27
  go_wp2
  go_loopw [5] (fun i wr => ∃ j k : Nat, j ≤ l.length ∧ i = .int .i64 (j : Int) ∧ wr = w.drewN k) (fun i _ => l.length - (intOf i).toNat)
  case atStart => exact ⟨0, 0, Nat.zero_le _, rfl, rfl⟩
  case round =>
    obtain ⟨j, k, hj, rfl, rfl⟩ := hrel
    by_cases hlt : j < l.length
    · obtain ⟨b, o, u, rfl, _, hu, hc⟩ := hr.get hlt
      obtain ⟨b', o', u', rfl, _, hu', hc'⟩ := hr'.get hlt
      rw [c32_at hlt] at hu hu'
      obtain rfl := Option.some.inj hu
      obtain rfl := Option.some.inj hu'
      have hi1 : (j : Int) < (l.length : Int) := by omega
      clear hu hu' hr hr'
      go_wp2
      go_quiet (fail)
      go_wp2
      go_roundw
      case rel => exact ⟨j + 1, k + nq, by omega, by go_num, by first | rfl | exact World.drewN_drewN⟩
      case measure => simp [intOf]; omega
    · obtain rfl : j = l.length := by omega
      go_wp2
      go_ret
      exact ⟨k, rfl, rfl⟩
theorem img_two2 (w : World) (o : Obj) (cs : List Value) : Blk ((w.alloc o).alloc (.cells cs.toArray 28)) (w.heap.size + 1) 28 cs := Blk.at _ _ _ (by simp)
theorem cells13s {w : World} {g : Nat} {t : TypeId} {c0 c1 c2 c3 c4 c5 c6 c7 c8 c9 c10 c11 c12 : Value} (b : Blk w g t [c0, c1, c2, c3, c4, c5, c6, c7, c8, c9, c10, c11, c12]) :
    w.cell? ⟨g, 0, none⟩ = some c0 ∧ w.cell? ⟨g, 1, none⟩ = some c1 ∧ w.cell? ⟨g, 2, none⟩ = some c2 ∧ w.cell? ⟨g, 3, none⟩ = some c3 ∧ w.cell? ⟨g, 4, none⟩ = some c4 ∧ w.cell? ⟨g, 5, none⟩ = some c5 ∧ w.cell? ⟨g, 6, none⟩ = some c6 ∧ w.cell? ⟨g, 7, none⟩ = some c7 ∧ w.cell? ⟨g, 8, none⟩ = some c8 ∧ w.cell? ⟨g, 9, none⟩ = some c9 ∧ w.cell? ⟨g, 10, none⟩ = some c10 ∧ w.cell? ⟨g, 11, none⟩ = some c11 ∧ w.cell? ⟨g, 12, none⟩ = some c12 :=
  ⟨b.cell (j := 0) rfl, b.cell (j := 1) rfl, b.cell (j := 2) rfl, b.cell (j := 3) rfl, b.cell (j := 4) rfl, b.cell (j := 5) rfl, b.cell (j := 6) rfl, b.cell (j := 7) rfl, b.cell (j := 8) rfl, b.cell (j := 9) rfl, b.cell (j := 10) rfl, b.cell (j := 11) rfl, b.cell (j := 12) rfl⟩
theorem boxes_below (w : World) (a b : Obj) : Below w.heap.size w ((w.alloc a).alloc b) := ((Below.refl _ w).alloc (Nat.le_refl _) a).alloc (by simp) b
theorem Same11_any (K D : IV) (B B' : Nat) (w : World) (hK : Held w B K) (hD : Held w B' D) (hB : B ≤ w.heap.size) (hB' : B' ≤ w.heap.size) (h : K.m = D.m) :
    Calls Try.prog 15 #[.agg #[.int .u32 K.v, .int .u32 K.f, .int .i64 K.e, .int .i64 K.s, .int .i64 K.o, .int .i64 K.n, .int .i64 K.i, .int .i64 K.u, .slice K.fA K.fn K.fc, .slice K.sA K.sn K.sc, .slice K.mA K.mn K.mc, .int .i64 K.x, .int .i64 K.y], .agg #[.int .u32 D.v, .int .u32 D.f, .int .i64 D.e, .int .i64 D.s, .int .i64 D.o, .int .i64 D.n, .int .i64 D.i, .int .i64 D.u, .slice D.fA D.fn D.fc, .slice D.sA D.sn D.sc, .slice D.mA D.mn D.mc, .int .i64 D.x, .int .i64 D.y]] w (TellsB w true) := by
  obtain ⟨v, f, e, s, o, n, i, u, x, y, fs, st, mv, fA, fn, fc, sA, sn, sc, mA, mn, mc⟩ := K
  obtain ⟨v', f', e', s', o', n', i', u', x', y', fs', st', mv', fA', fn', fc', sA', sn', sc', mA', mn', mc'⟩ := D
  simp only [IV.m, Im.mk.injEq, Fr.mk.injEq] at h
  obtain ⟨rfl, rfl, rfl, ⟨rfl, rfl, rfl, rfl, rfl⟩, rfl, rfl, rfl, rfl, rfl⟩ := h
  have k1 := hK.fs
  have k2 := hK.st
  have k3 := hK.mv
  have d1 := hD.fs
  have d2 := hD.st
  have d3 := hD.mv
  simp only at k1 k2 k3 d1 d2 d3 ⊢
  clear hK hD
  go_enter Try.func15, Try.ntmps15
  have bK := (Blk.new w 28 [.int .u32 v, .int .u32 f, .int .i64 e, .int .i64 s, .int .i64 o, .int .i64 n, .int .i64 i, .int .i64 u, .slice fA fn fc, .slice sA sn sc, .slice mA mn mc, .int .i64 x, .int .i64 y]).alloc (.cells #[.int .u32 v, .int .u32 f, .int .i64 e, .int .i64 s, .int .i64 o, .int .i64 n, .int .i64 i, .int .i64 u, .slice fA' fn' fc', .slice sA' sn' sc', .slice mA' mn' mc', .int .i64 x, .int .i64 y] 28)
  have bD := img_two2 w (.cells #[.int .u32 v, .int .u32 f, .int .i64 e, .int .i64 s, .int .i64 o, .int .i64 n, .int .i64 i, .int .i64 u, .slice fA fn fc, .slice sA sn sc, .slice mA mn mc, .int .i64 x, .int .i64 y] 28) [.int .u32 v, .int .u32 f, .int .i64 e, .int .i64 s, .int .i64 o, .int .i64 n, .int .i64 i, .int .i64 u, .slice fA' fn' fc', .slice sA' sn' sc', .slice mA' mn' mc', .int .i64 x, .int .i64 y]
  have hb := boxes_below w (.cells #[.int .u32 v, .int .u32 f, .int .i64 e, .int .i64 s, .int .i64 o, .int .i64 n, .int .i64 i, .int .i64 u, .slice fA fn fc, .slice sA sn sc, .slice mA mn mc, .int .i64 x, .int .i64 y] 28) (.cells #[.int .u32 v, .int .u32 f, .int .i64 e, .int .i64 s, .int .i64 o, .int .i64 n, .int .i64 i, .int .i64 u, .slice fA' fn' fc', .slice sA' sn' sc', .slice mA' mn' mc', .int .i64 x, .int .i64 y] 28)
  have k1 := k1.keep hb hB
  have k2 := k2.keep hb hB
  have k3 := k3.keep hb hB
  have d1 := d1.keep hb hB'
  have d2 := d2.keep hb hB'
  have d3 := d3.keep hb hB'
  have HB := hide hb
  clear hb
  have HBK := hide (And.intro bK bD)
  clear bK bD
  go_wp2_with fail
  generalize (w.alloc (.cells #[.int .u32 v, .int .u32 f, .int .i64 e, .int .i64 s, .int .i64 o, .int .i64 n, .int .i64 i, .int .i64 u, .slice fA fn fc, .slice sA sn sc, .slice mA mn mc, .int .i64 x, .int .i64 y] 28)).alloc (.cells #[.int .u32 v, .int .u32 f, .int .i64 e, .int .i64 s, .int .i64 o, .int .i64 n, .int .i64 i, .int .i64 u, .slice fA' fn' fc', .slice sA' sn' sc', .slice mA' mn' mc', .int .i64 x, .int .i64 y] 28) = w1 at HB HBK k1 k2 k3 d1 d2 d3 ⊢
  refine (Ints_same B B' fA fA' fn fc fn' fc' fs w1 k1 d1).mono ?_
  rintro e' w' ⟨kk, rfl, rfl⟩
  have q := below_drewN w1.heap.size w1 kk
  generalize w1.drewN kk = w2 at q ⊢
  have bK := HBK.out.1.keep q HBK.out.1.lt
  have bD := HBK.out.2.keep q HBK.out.2.lt
  have hb2 := HB.out.trans (q.mono HB.out.size)
  have k2 := k2.keep q (Nat.le_trans hB HB.out.size)
  have k3 := k3.keep q (Nat.le_trans hB HB.out.size)
  have d2 := d2.keep q (Nat.le_trans hB' HB.out.size)
  have d3 := d3.keep q (Nat.le_trans hB' HB.out.size)
  obtain ⟨k0_, k1_, k2_, k3_, k4_, k5_, k6_, k7_, k8_, k9_, k10_, k11_, k12_⟩ := cells13s bK
  obtain ⟨z0, z1, z2, z3, z4, z5, z6, z7, z8, z9, z10, z11, z12⟩ := cells13s bD
  have HB2 := hide (And.intro hb2 (And.intro bK bD))
  clear q bK bD hb2
  go_wp2_with fail
  clear k0_ k1_ k2_ k3_ k4_ k5_ k6_ k7_ k8_ k9_ k10_ k11_ k12_ z0 z1 z2 z3 z4 z5 z6 z7 z8 z9 z10 z11 z12
  refine (rSame_any B B' sA sA' sn sn' sc sc' st w2 k2 d2).mono ?_
  rintro e' w' ⟨kk2, rfl, rfl⟩
  have q := below_drewN w2.heap.size w2 kk2
  generalize w2.drewN kk2 = w3 at q ⊢
  have bK := HB2.out.2.1.keep q HB2.out.2.1.lt
  have bD := HB2.out.2.2.keep q HB2.out.2.2.lt
  have hb3 := HB2.out.1.trans (q.mono HB2.out.1.size)
  have k3 := k3.keep q (Nat.le_trans hB HB2.out.1.size)
  have d3 := d3.keep q (Nat.le_trans hB' HB2.out.1.size)
  obtain ⟨k0_, k1_, k2_, k3_, k4_, k5_, k6_, k7_, k8_, k9_, k10_, k11_, k12_⟩ := cells13s bK
  obtain ⟨z0, z1, z2, z3, z4, z5, z6, z7, z8, z9, z10, z11, z12⟩ := cells13s bD
  have HB3 := hide (And.intro hb3 (And.intro bK bD))
  clear q bK bD hb3
  go_wp2_with fail
  clear k0_ k1_ k2_ k3_ k4_ k5_ k6_ k7_ k8_ k9_ k10_ k11_ k12_ z0 z1 z2 z3 z4 z5 z6 z7 z8 z9 z10 z11 z12
  refine (rSame_any B B' mA mA' mn mn' mc mc' mv w3 k3 d3).mono ?_
  rintro e' w' ⟨kk3, rfl, rfl⟩
  have q := below_drewN w3.heap.size w3 kk3
  generalize w3.drewN kk3 = w4 at q ⊢
  have bK := HB3.out.2.1.keep q HB3.out.2.1.lt
  have bD := HB3.out.2.2.keep q HB3.out.2.2.lt
  obtain ⟨k0_, k1_, k2_, k3_, k4_, k5_, k6_, k7_, k8_, k9_, k10_, k11_, k12_⟩ := cells13s bK
  obtain ⟨z0, z1, z2, z3, z4, z5, z6, z7, z8, z9, z10, z11, z12⟩ := cells13s bD
  have HB4 := hide (HB3.out.1.trans (q.mono HB3.out.1.size))
  clear q bK bD
  go_wp2
  go_ret
  exact ⟨rfl, HB4.out⟩

end Go.Proofs.Ytdikiabjkmigdaa
