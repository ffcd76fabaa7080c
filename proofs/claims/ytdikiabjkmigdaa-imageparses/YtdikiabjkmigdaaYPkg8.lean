/-
  Contract of image.withCodes.
-/
import Derived.Test.YtdikiabjkmigdaaYPkg7
namespace Go.Proofs.Ytdikiabjkmigdaa
open Go.RowKit
set_option maxRecDepth 20000
set_option maxHeartbeats 2000000

/-- All cells of an image are written. -/
theorem Blk.put13 {w : World} {g : Nat} {t : TypeId} {d0 d1 d2 d3 d4 d5 d6 d7 d8 d9 d10 d11 d12 : Value} (b : Blk w g t [d0, d1, d2, d3, d4, d5, d6, d7, d8, d9, d10, d11, d12]) (c0 c1 c2 c3 c4 c5 c6 c7 c8 c9 c10 c11 c12 : Value) : Blk (((((((((((((w.setCell ⟨g, 0, none⟩ c0).setCell ⟨g, 1, none⟩ c1).setCell ⟨g, 2, none⟩ c2).setCell ⟨g, 3, none⟩ c3).setCell ⟨g, 4, none⟩ c4).setCell ⟨g, 5, none⟩ c5).setCell ⟨g, 6, none⟩ c6).setCell ⟨g, 7, none⟩ c7).setCell ⟨g, 8, none⟩ c8).setCell ⟨g, 9, none⟩ c9).setCell ⟨g, 10, none⟩ c10).setCell ⟨g, 11, none⟩ c11).setCell ⟨g, 12, none⟩ c12) g t [c0, c1, c2, c3, c4, c5, c6, c7, c8, c9, c10, c11, c12] :=
  (((((((((((((b.set 0 c0).set 1 c1).set 2 c2).set 3 c3).set 4 c4).set 5 c5).set 6 c6).set 7 c7).set 8 c8).set 9 c9).set 10 c10).set 11 c11).set 12 c12)
theorem keeps13 (w : World) (g : Nat) (c0 c1 c2 c3 c4 c5 c6 c7 c8 c9 c10 c11 c12 : Value) : Keeps [g] w (((((((((((((w.setCell ⟨g, 0, none⟩ c0).setCell ⟨g, 1, none⟩ c1).setCell ⟨g, 2, none⟩ c2).setCell ⟨g, 3, none⟩ c3).setCell ⟨g, 4, none⟩ c4).setCell ⟨g, 5, none⟩ c5).setCell ⟨g, 6, none⟩ c6).setCell ⟨g, 7, none⟩ c7).setCell ⟨g, 8, none⟩ c8).setCell ⟨g, 9, none⟩ c9).setCell ⟨g, 10, none⟩ c10).setCell ⟨g, 11, none⟩ c11).setCell ⟨g, 12, none⟩ c12) :=
  ((((((((((((((Keeps.refl [g] w).set (.inl (by simp)) c0).set (.inl (by simp)) c1).set (.inl (by simp)) c2).set (.inl (by simp)) c3).set (.inl (by simp)) c4).set (.inl (by simp)) c5).set (.inl (by simp)) c6).set (.inl (by simp)) c7).set (.inl (by simp)) c8).set (.inl (by simp)) c9).set (.inl (by simp)) c10).set (.inl (by simp)) c11).set (.inl (by simp)) c12)
theorem img_two (w : World) (o : Obj) (cs : List Value) : Blk ((w.alloc o).alloc (.cells cs.toArray 28)) (w.heap.size + 1) 28 cs := Blk.at _ _ _ (by simp)
theorem own_offk {w : World} {base n q m : Nat} {e : TypeId} {v : Value} {xs : List Value} (h : w.ownsRow base e m v n xs) (hq : ∀ k, v.ownBlock = some k → k ≠ q) (j : Nat) (u : Value) : (w.setCell ⟨q, j, none⟩ u).ownsRow base e m v n xs := by
  refine ⟨h.1, ?_⟩
  rcases h.2 with h2 | ⟨g, cap, cur, rfl, hb, hg, r⟩
  · exact .inl h2
  · exact .inr ⟨g, cap, cur, rfl, hb, (heap_setCell_other w ⟨q, j, none⟩ g u (hq g rfl)).trans hg, r⟩
theorem own_lower {w : World} {base base' n m : Nat} {e : TypeId} {v : Value} {xs : List Value} (h : w.ownsRow base e m v n xs) (hb : base' ≤ base) : w.ownsRow base' e m v n xs := by
  refine ⟨h.1, ?_⟩
  rcases h.2 with h2 | ⟨g, cap, cur, hv, hb', r⟩
  · exact .inl h2
  · exact .inr ⟨g, cap, cur, hv, by omega, r⟩
theorem own13 {w : World} {base n g m : Nat} {e : TypeId} {v : Value} {xs : List Value} (h : w.ownsRow base e m v n xs) (hq : ∀ k, v.ownBlock = some k → k ≠ g) (c0 c1 c2 c3 c4 c5 c6 c7 c8 c9 c10 c11 c12 : Value) : ((((((((((((((w.setCell ⟨g, 0, none⟩ c0).setCell ⟨g, 1, none⟩ c1).setCell ⟨g, 2, none⟩ c2).setCell ⟨g, 3, none⟩ c3).setCell ⟨g, 4, none⟩ c4).setCell ⟨g, 5, none⟩ c5).setCell ⟨g, 6, none⟩ c6).setCell ⟨g, 7, none⟩ c7).setCell ⟨g, 8, none⟩ c8).setCell ⟨g, 9, none⟩ c9).setCell ⟨g, 10, none⟩ c10).setCell ⟨g, 11, none⟩ c11).setCell ⟨g, 12, none⟩ c12)).ownsRow base e m v n xs :=
  (own_offk (own_offk (own_offk (own_offk (own_offk (own_offk (own_offk (own_offk (own_offk (own_offk (own_offk (own_offk (own_offk h hq 0 c0) hq 1 c1) hq 2 c2) hq 3 c3) hq 4 c4) hq 5 c5) hq 6 c6) hq 7 c7) hq 8 c8) hq 9 c9) hq 10 c10) hq 11 c11) hq 12 c12)
theorem below13 {w w0 : World} {g : Nat} (h : Below w0.heap.size w0 w) (hg : w0.heap.size ≤ g) (c0 c1 c2 c3 c4 c5 c6 c7 c8 c9 c10 c11 c12 : Value) : Below w0.heap.size w0 (((((((((((((w.setCell ⟨g, 0, none⟩ c0).setCell ⟨g, 1, none⟩ c1).setCell ⟨g, 2, none⟩ c2).setCell ⟨g, 3, none⟩ c3).setCell ⟨g, 4, none⟩ c4).setCell ⟨g, 5, none⟩ c5).setCell ⟨g, 6, none⟩ c6).setCell ⟨g, 7, none⟩ c7).setCell ⟨g, 8, none⟩ c8).setCell ⟨g, 9, none⟩ c9).setCell ⟨g, 10, none⟩ c10).setCell ⟨g, 11, none⟩ c11).setCell ⟨g, 12, none⟩ c12) :=
  (keeps13 w g c0 c1 c2 c3 c4 c5 c6 c7 c8 c9 c10 c11 c12).below h (by simpa using hg) (Nat.le_refl _)
/-- An image with both of its codes in new memory. -/
def CodedR (w : World) (mk : Value → Value → Value) (l1 l2 : List (Int × Int)) (r : Ending) (w' : World) : Prop :=
  ∃ sA sn sc mA mn mc, r = .returned (.tuple #[mk (.slice sA sn sc) (.slice mA mn mc), .int .i64 0]) ∧ w'.ownsRow w.heap.size 54 2 (.slice sA sn sc) sn (csI l1) ∧ w'.ownsRow w.heap.size 54 2 (.slice mA mn mc) mn (csI l2) ∧ Below w.heap.size w w'
theorem withCodes_ok (v f e s o n i u x y : Int) (fA : Option Addr) (fn fc : Nat) (A1 A2 : Option Addr) (n1 c1 n2 c2 : Nat) (b1 b2 : List UInt8) (w : World) (hr1 : Row w w.heap.size A1 n1 c1 (cs8 b1)) (hr2 : Row w w.heap.size A2 n2 c2 (cs8 b2)) (h1 : n1 ≤ 1000000) (h2 : n2 ≤ 1000000)
    (D1 : Hid ((decA b1).2.1 = 0)) (D2 : Hid ((decA b2).2.1 = 0)) :
    Calls Try.prog 52 #[.agg #[.int .u32 v, .int .u32 f, .int .i64 e, .int .i64 s, .int .i64 o, .int .i64 n, .int .i64 i, .int .i64 u, .slice fA fn fc, .slice none 0 0, .slice none 0 0, .int .i64 x, .int .i64 y], .slice A1 n1 c1, .slice A2 n2 c2] w (CodedR w (fun a b => .agg #[.int .u32 v, .int .u32 f, .int .i64 e, .int .i64 s, .int .i64 o, .int .i64 n, .int .i64 i, .int .i64 u, .slice fA fn fc, a, b, .int .i64 x, .int .i64 y]) (decA b1).1 (decA b2).1) := by
  go_enter Try.func52, Try.ntmps52
  go_wp2_with fail
  have hb0 := two_below w (.cells #[.int .u32 v, .int .u32 f, .int .i64 e, .int .i64 s, .int .i64 o, .int .i64 n, .int .i64 i, .int .i64 u, .slice fA fn fc, .slice none 0 0, .slice none 0 0, .int .i64 x, .int .i64 y] 28) (.cells #[.int .u32 0, .int .u32 0, .int .i64 0, .int .i64 0, .int .i64 0, .int .i64 0, .int .i64 0, .int .i64 0, .slice none 0 0, .slice none 0 0, .slice none 0 0, .int .i64 0, .int .i64 0] 28)
  have bM := (Blk.new w 28 [.int .u32 v, .int .u32 f, .int .i64 e, .int .i64 s, .int .i64 o, .int .i64 n, .int .i64 i, .int .i64 u, .slice fA fn fc, .slice none 0 0, .slice none 0 0, .int .i64 x, .int .i64 y]).alloc (.cells #[.int .u32 0, .int .u32 0, .int .i64 0, .int .i64 0, .int .i64 0, .int .i64 0, .int .i64 0, .int .i64 0, .slice none 0 0, .slice none 0 0, .slice none 0 0, .int .i64 0, .int .i64 0] 28)
  have bZ := img_two w (.cells #[.int .u32 v, .int .u32 f, .int .i64 e, .int .i64 s, .int .i64 o, .int .i64 n, .int .i64 i, .int .i64 u, .slice fA fn fc, .slice none 0 0, .slice none 0 0, .int .i64 x, .int .i64 y] 28) [.int .u32 0, .int .u32 0, .int .i64 0, .int .i64 0, .int .i64 0, .int .i64 0, .int .i64 0, .int .i64 0, .slice none 0 0, .slice none 0 0, .slice none 0 0, .int .i64 0, .int .i64 0]
  generalize (w.alloc (.cells #[.int .u32 v, .int .u32 f, .int .i64 e, .int .i64 s, .int .i64 o, .int .i64 n, .int .i64 i, .int .i64 u, .slice fA fn fc, .slice none 0 0, .slice none 0 0, .int .i64 x, .int .i64 y] 28)).alloc (.cells #[.int .u32 0, .int .u32 0, .int .i64 0, .int .i64 0, .int .i64 0, .int .i64 0, .int .i64 0, .int .i64 0, .slice none 0 0, .slice none 0 0, .slice none 0 0, .int .i64 0, .int .i64 0] 28) = w0 at hb0 bM bZ ⊢
  have hs0 := hb0.size
  refine (Decode_any w.heap.size A1 n1 c1 b1 w0 (hr1.keep hb0 (Nat.le_refl _)) hs0 (by omega)).mono ?_
  rintro r w1 ⟨sA, sn, sc, rfl, o1, q1⟩
  have bM1 := bM.keep q1 bM.lt
  have bZ1 := bZ.keep q1 bZ.lt
  have fM := bM1.frozen 9
  have kM := bM1.cell (j := 9) rfl
  have lM := bM1.lt
  have hb1 := hb0.trans (q1.mono hs0)
  have lZ := bZ.lt
  rw [D1.out]
  have bM2 := bM1.set 9 (.slice sA sn sc)
  have bZ2 := bZ1.other (h := w.heap.size) (by omega) 9 (.slice sA sn sc)
  have p2 := own_offk o1 (q := w.heap.size) (fun k hk => by have := (o1.lt k hk).1; omega) 9 (.slice sA sn sc)
  have hb2 := below_set hb1 (Nat.le_refl _) (g := w.heap.size) (j := 9) (.slice sA sn sc)
  have hr3 := (hr2.keep hb2 (Nat.le_refl _)).more hb2.size
  go_wp2_with fail
  clear kM fM bM1 bZ1 o1 bM bZ hb1
  generalize w1.setCell ⟨w.heap.size, 9, none⟩ (.slice sA sn sc) = w2 at bM2 bZ2 p2 hb2 hr3 ⊢
  refine (Decode_any _ A2 n2 c2 b2 w2 hr3 (Nat.le_refl _) (by omega)).mono ?_
  rintro r w3 ⟨mA, mn, mc, rfl, o3, q3⟩
  have bM3 := bM2.keep q3 bM2.lt
  have bZ3 := bZ2.keep q3 bZ2.lt
  have p3 := ownI_keep p2 q3
  have lM3 := bM3.lt
  have lZ3 := bZ3.lt
  have hs2 := hb2.size
  have hb3 := hb2.trans (q3.mono hs2)
  have lM2 := bM2.lt
  have lZ2 := bZ2.lt
  have fM3 := fun j => bM3.frozen j
  have fZ3 := fun j => bZ3.frozen j
  obtain ⟨k0, k1, k2, k3, k4, k5, k6, k7, k8, k9, k10, k11, k12⟩ := cells13 bM3
  obtain ⟨z0, z1, z2, z3, z4, z5, z6, z7, z8, z9, z10, z11, z12⟩ := cells13 bZ3
  have bM4 := bM3.set 10 (.slice mA mn mc)
  have bZ4 := bZ3.other (h := w.heap.size) (by omega) 10 (.slice mA mn mc)
  have p4 := own_offk p3 (q := w.heap.size) (fun k hk => by have := (p3.lt k hk).1; omega) 10 (.slice mA mn mc)
  have o4 := own_offk o3 (q := w.heap.size) (fun k hk => by have := (o3.lt k hk).1; omega) 10 (.slice mA mn mc)
  have hb4 := below_set hb3 (Nat.le_refl _) (g := w.heap.size) (j := 10) (.slice mA mn mc)
  rw [D2.out]
  have LZ := hide (And.intro lZ lZ2)
  have B4 := hide (And.intro bZ4 (And.intro p4 (And.intro o4 hb4)))
  clear bM3 bZ3 bM4 bZ4 p3 p4 o3 o4 hb4 hb3 p2 bM2 bZ2 hr3 hb2 q3
  go_wp2
  obtain ⟨bZ4, p4, o4, hb4⟩ := B4.out
  refine ret_im (g := w.heap.size + 1) rfl rfl rfl (bZ4.put13 _ _ _ _ _ _ _ _ _ _ _ _ _) rfl ?_
  refine ⟨sA, sn, sc, mA, mn, mc, rfl, ?_, ?_, below13 hb4 (by omega) _ _ _ _ _ _ _ _ _ _ _ _ _⟩
  · exact own_lower (own13 p4 (fun k hk => by have := (p4.lt k hk).1; have := LZ.out.1; omega) _ _ _ _ _ _ _ _ _ _ _ _ _) (by omega)
  · exact own_lower (own13 o4 (fun k hk => by have := (o4.lt k hk).1; have := LZ.out.2; omega) _ _ _ _ _ _ _ _ _ _ _ _ _) (by omega)
theorem withCodes_bad2 (v f e s o n i u x y : Int) (fA : Option Addr) (fn fc : Nat) (A1 A2 : Option Addr) (n1 c1 n2 c2 : Nat) (b1 b2 : List UInt8) (w : World) (hr1 : Row w w.heap.size A1 n1 c1 (cs8 b1)) (hr2 : Row w w.heap.size A2 n2 c2 (cs8 b2)) (h1 : n1 ≤ 1000000) (h2 : n2 ≤ 1000000)
    (D1 : Hid ((decA b1).2.1 = 0)) (D2 : Hid ((decA b2).2.1 ≠ 0)) :
    Calls Try.prog 52 #[.agg #[.int .u32 v, .int .u32 f, .int .i64 e, .int .i64 s, .int .i64 o, .int .i64 n, .int .i64 i, .int .i64 u, .slice fA fn fc, .slice none 0 0, .slice none 0 0, .int .i64 x, .int .i64 y], .slice A1 n1 c1, .slice A2 n2 c2] w fun r w' => r = .returned (.tuple #[.agg #[.int .u32 0, .int .u32 0, .int .i64 0, .int .i64 0, .int .i64 0, .int .i64 0, .int .i64 0, .int .i64 0, .slice none 0 0, .slice none 0 0, .slice none 0 0, .int .i64 0, .int .i64 0], .int .i64 4]) ∧ Below w.heap.size w w' := by
  obtain ⟨z, hz⟩ : ∃ z, (decA b2).2.1 = z := ⟨_, rfl⟩
  have HZ := hide hz
  have g0 : (z == 0) = false := beq_eq_false_iff_ne.2 (by rw [← hz]; exact D2.out)
  have g1 := bne_of g0
  clear hz D2
  go_enter Try.func52, Try.ntmps52
  go_wp2_with fail
  have hb0 := two_below w (.cells #[.int .u32 v, .int .u32 f, .int .i64 e, .int .i64 s, .int .i64 o, .int .i64 n, .int .i64 i, .int .i64 u, .slice fA fn fc, .slice none 0 0, .slice none 0 0, .int .i64 x, .int .i64 y] 28) (.cells #[.int .u32 0, .int .u32 0, .int .i64 0, .int .i64 0, .int .i64 0, .int .i64 0, .int .i64 0, .int .i64 0, .slice none 0 0, .slice none 0 0, .slice none 0 0, .int .i64 0, .int .i64 0] 28)
  have bM := (Blk.new w 28 [.int .u32 v, .int .u32 f, .int .i64 e, .int .i64 s, .int .i64 o, .int .i64 n, .int .i64 i, .int .i64 u, .slice fA fn fc, .slice none 0 0, .slice none 0 0, .int .i64 x, .int .i64 y]).alloc (.cells #[.int .u32 0, .int .u32 0, .int .i64 0, .int .i64 0, .int .i64 0, .int .i64 0, .int .i64 0, .int .i64 0, .slice none 0 0, .slice none 0 0, .slice none 0 0, .int .i64 0, .int .i64 0] 28)
  have bZ := img_two w (.cells #[.int .u32 v, .int .u32 f, .int .i64 e, .int .i64 s, .int .i64 o, .int .i64 n, .int .i64 i, .int .i64 u, .slice fA fn fc, .slice none 0 0, .slice none 0 0, .int .i64 x, .int .i64 y] 28) [.int .u32 0, .int .u32 0, .int .i64 0, .int .i64 0, .int .i64 0, .int .i64 0, .int .i64 0, .int .i64 0, .slice none 0 0, .slice none 0 0, .slice none 0 0, .int .i64 0, .int .i64 0]
  generalize (w.alloc (.cells #[.int .u32 v, .int .u32 f, .int .i64 e, .int .i64 s, .int .i64 o, .int .i64 n, .int .i64 i, .int .i64 u, .slice fA fn fc, .slice none 0 0, .slice none 0 0, .int .i64 x, .int .i64 y] 28)).alloc (.cells #[.int .u32 0, .int .u32 0, .int .i64 0, .int .i64 0, .int .i64 0, .int .i64 0, .int .i64 0, .int .i64 0, .slice none 0 0, .slice none 0 0, .slice none 0 0, .int .i64 0, .int .i64 0] 28) = w0 at hb0 bM bZ ⊢
  have hs0 := hb0.size
  refine (Decode_any w.heap.size A1 n1 c1 b1 w0 (hr1.keep hb0 (Nat.le_refl _)) hs0 (by omega)).mono ?_
  rintro r w1 ⟨sA, sn, sc, rfl, o1, q1⟩
  have bM1 := bM.keep q1 bM.lt
  have bZ1 := bZ.keep q1 bZ.lt
  have fM := bM1.frozen 9
  have kM := bM1.cell (j := 9) rfl
  have lM := bM1.lt
  have hb1 := hb0.trans (q1.mono hs0)
  have lZ := bZ.lt
  rw [D1.out]
  have bM2 := bM1.set 9 (.slice sA sn sc)
  have bZ2 := bZ1.other (h := w.heap.size) (by omega) 9 (.slice sA sn sc)
  have p2 := own_offk o1 (q := w.heap.size) (fun k hk => by have := (o1.lt k hk).1; omega) 9 (.slice sA sn sc)
  have hb2 := below_set hb1 (Nat.le_refl _) (g := w.heap.size) (j := 9) (.slice sA sn sc)
  have hr3 := (hr2.keep hb2 (Nat.le_refl _)).more hb2.size
  go_wp2_with fail
  clear kM fM bM1 bZ1 o1 bM bZ hb1
  generalize w1.setCell ⟨w.heap.size, 9, none⟩ (.slice sA sn sc) = w2 at bM2 bZ2 p2 hb2 hr3 ⊢
  refine (Decode_any _ A2 n2 c2 b2 w2 hr3 (Nat.le_refl _) (by omega)).mono ?_
  rintro r w3 ⟨mA, mn, mc, rfl, o3, q3⟩
  have bM3 := bM2.keep q3 bM2.lt
  have bZ3 := bZ2.keep q3 bZ2.lt
  have p3 := ownI_keep p2 q3
  have lM3 := bM3.lt
  have lZ3 := bZ3.lt
  have hs2 := hb2.size
  have hb3 := hb2.trans (q3.mono hs2)
  have lM2 := bM2.lt
  have lZ2 := bZ2.lt
  have fM3 := fun j => bM3.frozen j
  have fZ3 := fun j => bZ3.frozen j
  obtain ⟨k0, k1, k2, k3, k4, k5, k6, k7, k8, k9, k10, k11, k12⟩ := cells13 bM3
  obtain ⟨z0, z1, z2, z3, z4, z5, z6, z7, z8, z9, z10, z11, z12⟩ := cells13 bZ3
  have bM4 := bM3.set 10 (.slice mA mn mc)
  have bZ4 := bZ3.other (h := w.heap.size) (by omega) 10 (.slice mA mn mc)
  have p4 := own_offk p3 (q := w.heap.size) (fun k hk => by have := (p3.lt k hk).1; omega) 10 (.slice mA mn mc)
  have o4 := own_offk o3 (q := w.heap.size) (fun k hk => by have := (o3.lt k hk).1; omega) 10 (.slice mA mn mc)
  have hb4 := below_set hb3 (Nat.le_refl _) (g := w.heap.size) (j := 10) (.slice mA mn mc)
  rw [HZ.out]
  have B4 := hide (And.intro bZ4 (And.intro p4 (And.intro o4 hb4)))
  clear bM3 bZ3 bM4 bZ4 p3 p4 o3 o4 hb4 hb3 p2 bM2 bZ2 hr3 hb2 q3
  go_wp2
  obtain ⟨bZ4, p4, o4, hb4⟩ := B4.out
  refine ret_im (g := w.heap.size + 1) rfl rfl rfl (bZ4.put13 _ _ _ _ _ _ _ _ _ _ _ _ _) rfl ?_
  exact ⟨rfl, below13 hb4 (by omega) _ _ _ _ _ _ _ _ _ _ _ _ _⟩
theorem withCodes_bad1 (v f e s o n i u x y : Int) (fA : Option Addr) (fn fc : Nat) (A1 A2 : Option Addr) (n1 c1 n2 c2 : Nat) (b1 b2 : List UInt8) (w : World) (hr1 : Row w w.heap.size A1 n1 c1 (cs8 b1)) (_hr2 : Row w w.heap.size A2 n2 c2 (cs8 b2)) (h1 : n1 ≤ 1000000) (_h2 : n2 ≤ 1000000)
    (D1 : Hid ((decA b1).2.1 ≠ 0)) :
    Calls Try.prog 52 #[.agg #[.int .u32 v, .int .u32 f, .int .i64 e, .int .i64 s, .int .i64 o, .int .i64 n, .int .i64 i, .int .i64 u, .slice fA fn fc, .slice none 0 0, .slice none 0 0, .int .i64 x, .int .i64 y], .slice A1 n1 c1, .slice A2 n2 c2] w fun r w' => r = .returned (.tuple #[.agg #[.int .u32 0, .int .u32 0, .int .i64 0, .int .i64 0, .int .i64 0, .int .i64 0, .int .i64 0, .int .i64 0, .slice none 0 0, .slice none 0 0, .slice none 0 0, .int .i64 0, .int .i64 0], .int .i64 4]) ∧ Below w.heap.size w w' := by
  obtain ⟨z, hz⟩ : ∃ z, (decA b1).2.1 = z := ⟨_, rfl⟩
  have HZ := hide hz
  have g0 : (z == 0) = false := beq_eq_false_iff_ne.2 (by rw [← hz]; exact D1.out)
  have g1 := bne_of g0
  clear hz D1
  go_enter Try.func52, Try.ntmps52
  go_wp2_with fail
  have hb0 := two_below w (.cells #[.int .u32 v, .int .u32 f, .int .i64 e, .int .i64 s, .int .i64 o, .int .i64 n, .int .i64 i, .int .i64 u, .slice fA fn fc, .slice none 0 0, .slice none 0 0, .int .i64 x, .int .i64 y] 28) (.cells #[.int .u32 0, .int .u32 0, .int .i64 0, .int .i64 0, .int .i64 0, .int .i64 0, .int .i64 0, .int .i64 0, .slice none 0 0, .slice none 0 0, .slice none 0 0, .int .i64 0, .int .i64 0] 28)
  have bM := (Blk.new w 28 [.int .u32 v, .int .u32 f, .int .i64 e, .int .i64 s, .int .i64 o, .int .i64 n, .int .i64 i, .int .i64 u, .slice fA fn fc, .slice none 0 0, .slice none 0 0, .int .i64 x, .int .i64 y]).alloc (.cells #[.int .u32 0, .int .u32 0, .int .i64 0, .int .i64 0, .int .i64 0, .int .i64 0, .int .i64 0, .int .i64 0, .slice none 0 0, .slice none 0 0, .slice none 0 0, .int .i64 0, .int .i64 0] 28)
  have bZ := img_two w (.cells #[.int .u32 v, .int .u32 f, .int .i64 e, .int .i64 s, .int .i64 o, .int .i64 n, .int .i64 i, .int .i64 u, .slice fA fn fc, .slice none 0 0, .slice none 0 0, .int .i64 x, .int .i64 y] 28) [.int .u32 0, .int .u32 0, .int .i64 0, .int .i64 0, .int .i64 0, .int .i64 0, .int .i64 0, .int .i64 0, .slice none 0 0, .slice none 0 0, .slice none 0 0, .int .i64 0, .int .i64 0]
  generalize (w.alloc (.cells #[.int .u32 v, .int .u32 f, .int .i64 e, .int .i64 s, .int .i64 o, .int .i64 n, .int .i64 i, .int .i64 u, .slice fA fn fc, .slice none 0 0, .slice none 0 0, .int .i64 x, .int .i64 y] 28)).alloc (.cells #[.int .u32 0, .int .u32 0, .int .i64 0, .int .i64 0, .int .i64 0, .int .i64 0, .int .i64 0, .int .i64 0, .slice none 0 0, .slice none 0 0, .slice none 0 0, .int .i64 0, .int .i64 0] 28) = w0 at hb0 bM bZ ⊢
  have hs0 := hb0.size
  refine (Decode_any w.heap.size A1 n1 c1 b1 w0 (hr1.keep hb0 (Nat.le_refl _)) hs0 (by omega)).mono ?_
  rintro r w1 ⟨sA, sn, sc, rfl, o1, q1⟩
  have bM1 := bM.keep q1 bM.lt
  have bZ1 := bZ.keep q1 bZ.lt
  have fM := bM1.frozen 9
  have kM := bM1.cell (j := 9) rfl
  have lM := bM1.lt
  have hb1 := hb0.trans (q1.mono hs0)
  have lZ := bZ.lt
  rw [HZ.out]
  have fZ1 := fun j => bZ1.frozen j
  obtain ⟨z0, z1, z2, z3, z4, z5, z6, z7, z8, z9, z10, z11, z12⟩ := cells13 bZ1
  have B1 := hide (And.intro bZ1 hb1)
  clear hb1 bM1 o1 q1
  have lz := bZ1.lt
  clear bZ1
  go_wp2
  obtain ⟨bZ1, hb1⟩ := B1.out
  refine ret_im (g := w.heap.size + 1) rfl rfl rfl ((bZ1.other (h := w.heap.size) (by omega) 9 _).put13 _ _ _ _ _ _ _ _ _ _ _ _ _) rfl ?_
  exact ⟨rfl, below13 (below_set hb1 (Nat.le_refl _) _) (by omega) _ _ _ _ _ _ _ _ _ _ _ _ _⟩

end Go.Proofs.Ytdikiabjkmigdaa
