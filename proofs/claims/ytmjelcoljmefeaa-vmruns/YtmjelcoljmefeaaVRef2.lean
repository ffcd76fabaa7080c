/-
  Contract of the reference of layer 10: fault. (Printed by tools/vref.py.)
-/
import Derived.Test.YtmjelcoljmefeaaVRef
import Derived.Test.YtmjelcoljmefeaaVPkg4
import Derived.Test.YtmjelcoljmefeaaVMath2
import Derived.IntWalk
namespace Go.Proofs.Ytmjelcoljmefeaa
open Go.RowKit
set_option maxRecDepth 20000
set_option maxHeartbeats 2000000

theorem calm_tak (y p : Int) (w : World) (H : Hid (tak y = p)) : Calls Try.prog 38 #[.int .i64 y] w fun e w' => e = .returned (.int .i64 p) ∧ w' = w := by
  rw [← H.out]; exact (rTakes_any y w).mono fun _ _ ⟨h, h'⟩ => ⟨h, h'.symm⟩
theorem calm_giv (y p : Int) (w : World) (H : Hid (giv y = p)) : Calls Try.prog 39 #[.int .i64 y] w fun e w' => e = .returned (.int .i64 p) ∧ w' = w := by
  rw [← H.out]; exact (rGives_any y w).mono fun _ _ ⟨h, h'⟩ => ⟨h, h'.symm⟩
/-- The three boxes of fault. -/
structure FB (w0 : World) (cI cS cF : List Value) (w : World) : Prop where
  b4 : Blk w w0.heap.size 52 cI
  b5 : Blk w (w0.heap.size + 1) 66 cS
  b6 : Blk w (w0.heap.size + 1 + 1) 24 cF
  bl : Below w0.heap.size w0 w
section
variable {w0 w w' : World} {cI cS cF : List Value}
theorem FB.start (w : World) (cI cS cF : List Value) : FB w cI cS cF (((w.alloc (.cells cI.toArray 52)).alloc (.cells cS.toArray 66)).alloc (.cells cF.toArray 24)) :=
  ⟨((Blk.new w _ cI).alloc _).alloc _, (Blk.at (w.alloc _) _ cS (by simp)).alloc _, Blk.at ((w.alloc _).alloc _) _ cF (by simp), (((Below.refl _ w).alloc (Nat.le_refl _) _).alloc (by simp) _).alloc (by simp; omega) _⟩
theorem FB.keep (h : FB w0 cI cS cF w) (hb : Below w.heap.size w w') : FB w0 cI cS cF w' := ⟨h.b4.keep hb h.b4.lt, h.b5.keep hb h.b5.lt, h.b6.keep hb h.b6.lt, h.bl.trans (hb.mono h.bl.size)⟩
theorem FB.drewN (h : FB w0 cI cS cF w) (k : Nat) : FB w0 cI cS cF (w.drewN k) := h.keep ⟨rfl, rfl, rfl, Nat.le_refl _, fun _ _ => rfl⟩
end
theorem rf_right (f : Fr) (o : Int) (x : Int) (p n : Nat) (tA sA cA uA : Option Addr) (tn tc sn sc cn cc un uc : Nat) (w : World) (er rm : Int) (HE : Hid (rgtE o x = er)) (HM : Hid (roomV ⟨f.s, f.o, f.n, f.i, f.u⟩ o = rm)) (e1 : (er != 0) = true) :
    Calls Try.prog 26 #[.agg #[.int .i64 o, .int .i32 x], .agg #[.int .i64 (p : Int), .slice tA tn tc, .slice sA sn sc, .slice cA cn cc, .slice uA un uc], .agg #[.int .i64 f.s, .int .i64 f.o, .int .i64 f.n, .int .i64 f.i, .int .i64 f.u], .int .i64 (n : Int)] w (Tells w er) := by
  go_enter Try.func26, Try.ntmps26
  go_wp2_with fail
  have K := hide (FB.start w [.int .i64 o, .int .i32 x] [.int .i64 (p : Int), .slice tA tn tc, .slice sA sn sc, .slice cA cn cc, .slice uA un uc] [.int .i64 f.s, .int .i64 f.o, .int .i64 f.n, .int .i64 f.i, .int .i64 f.u])
  generalize ((w.alloc (.cells #[.int .i64 o, .int .i32 x] 52)).alloc (.cells #[.int .i64 (p : Int), .slice tA tn tc, .slice sA sn sc, .slice cA cn cc, .slice uA un uc] 66)).alloc (.cells #[.int .i64 f.s, .int .i64 f.o, .int .i64 f.n, .int .i64 f.i, .int .i64 f.u] 24) = w1 at K ⊢
  refine (rRight_any _ _ w1).mono ?_
  rw [HE.out]
  rintro e w2 ⟨rfl, hb2⟩
  have K2 := hide (K.out.keep hb2)
  clear K hb2
  have i0 := K2.out.b4.cell (j := 0) rfl
  have f0 := K2.out.b6.cell (j := 0) rfl
  have f1 := K2.out.b6.cell (j := 1) rfl
  have f2 := K2.out.b6.cell (j := 2) rfl
  have f3 := K2.out.b6.cell (j := 3) rfl
  have f4 := K2.out.b6.cell (j := 4) rfl
  go_wp2_with fail
  refine (rRoom_any _ _ _ _ _ _ w2).mono ?_
  rw [HM.out]
  rintro e w3 ⟨rfl, hb3⟩
  have K3 := hide (K2.out.keep hb3)
  clear K2 hb3 i0 f0 f1 f2 f3 f4
  have i0 := K3.out.b4.cell (j := 0) rfl
  have i1 := K3.out.b4.cell (j := 1) rfl
  have s0 := K3.out.b5.cell (j := 0) rfl
  have s1 := K3.out.b5.cell (j := 1) rfl
  go_wp2
  go_ret
  exact ⟨rfl, K3.out.bl⟩
theorem rf_range (f : Fr) (o : Int) (x : Int) (p n : Nat) (tA sA cA uA : Option Addr) (tn tc sn sc cn cc un uc : Nat) (w : World) (rm : Int) (hx : -2147483648 ≤ x ∧ x ≤ 2147483647) (HE : Hid (rgtE o x = 0)) (HM : Hid (roomV ⟨f.s, f.o, f.n, f.i, f.u⟩ o = rm)) (d1 : decide (0 ≤ rm) = true) (d2 : decide (rm ≤ x) = true) :
    Calls Try.prog 26 #[.agg #[.int .i64 o, .int .i32 x], .agg #[.int .i64 (p : Int), .slice tA tn tc, .slice sA sn sc, .slice cA cn cc, .slice uA un uc], .agg #[.int .i64 f.s, .int .i64 f.o, .int .i64 f.n, .int .i64 f.i, .int .i64 f.u], .int .i64 (n : Int)] w (Tells w 10) := by
  go_enter Try.func26, Try.ntmps26
  go_wp2_with fail
  have K := hide (FB.start w [.int .i64 o, .int .i32 x] [.int .i64 (p : Int), .slice tA tn tc, .slice sA sn sc, .slice cA cn cc, .slice uA un uc] [.int .i64 f.s, .int .i64 f.o, .int .i64 f.n, .int .i64 f.i, .int .i64 f.u])
  generalize ((w.alloc (.cells #[.int .i64 o, .int .i32 x] 52)).alloc (.cells #[.int .i64 (p : Int), .slice tA tn tc, .slice sA sn sc, .slice cA cn cc, .slice uA un uc] 66)).alloc (.cells #[.int .i64 f.s, .int .i64 f.o, .int .i64 f.n, .int .i64 f.i, .int .i64 f.u] 24) = w1 at K ⊢
  refine (rRight_any _ _ w1).mono ?_
  rw [HE.out]
  rintro e w2 ⟨rfl, hb2⟩
  have K2 := hide (K.out.keep hb2)
  clear K hb2
  have i0 := K2.out.b4.cell (j := 0) rfl
  have f0 := K2.out.b6.cell (j := 0) rfl
  have f1 := K2.out.b6.cell (j := 1) rfl
  have f2 := K2.out.b6.cell (j := 2) rfl
  have f3 := K2.out.b6.cell (j := 3) rfl
  have f4 := K2.out.b6.cell (j := 4) rfl
  go_wp2_with fail
  refine (rRoom_any _ _ _ _ _ _ w2).mono ?_
  rw [HM.out]
  rintro e w3 ⟨rfl, hb3⟩
  have K3 := hide (K2.out.keep hb3)
  clear K2 hb3 i0 f0 f1 f2 f3 f4
  have i0 := K3.out.b4.cell (j := 0) rfl
  have i1 := K3.out.b4.cell (j := 1) rfl
  have s0 := K3.out.b5.cell (j := 0) rfl
  have s1 := K3.out.b5.cell (j := 1) rfl
  go_wp2
  go_ret
  exact ⟨rfl, K3.out.bl⟩
theorem rf_low (f : Fr) (o : Int) (x : Int) (p n : Nat) (tA sA cA uA : Option Addr) (tn tc sn sc cn cc un uc : Nat) (w : World) (rm pp qq : Int) (hx : -2147483648 ≤ x ∧ x ≤ 2147483647) (HE : Hid (rgtE o x = 0)) (HM : Hid (roomV ⟨f.s, f.o, f.n, f.i, f.u⟩ o = rm)) (hrm : rm < 0 ∨ (0 ≤ rm ∧ x < rm)) (HP : Hid (tak o = pp)) (_HQ : Hid (giv o = qq)) (hpp : 0 ≤ pp ∧ pp ≤ 2) (hqq : 0 ≤ qq ∧ qq ≤ 1) (ht : tn ≤ 16) (d3 : decide ((tn : Int) < pp) = true) :
    Calls Try.prog 26 #[.agg #[.int .i64 o, .int .i32 x], .agg #[.int .i64 (p : Int), .slice tA tn tc, .slice sA sn sc, .slice cA cn cc, .slice uA un uc], .agg #[.int .i64 f.s, .int .i64 f.o, .int .i64 f.n, .int .i64 f.i, .int .i64 f.u], .int .i64 (n : Int)] w (Tells w 12) := by
  go_enter Try.func26, Try.ntmps26
  go_wp2_with fail
  have K := hide (FB.start w [.int .i64 o, .int .i32 x] [.int .i64 (p : Int), .slice tA tn tc, .slice sA sn sc, .slice cA cn cc, .slice uA un uc] [.int .i64 f.s, .int .i64 f.o, .int .i64 f.n, .int .i64 f.i, .int .i64 f.u])
  generalize ((w.alloc (.cells #[.int .i64 o, .int .i32 x] 52)).alloc (.cells #[.int .i64 (p : Int), .slice tA tn tc, .slice sA sn sc, .slice cA cn cc, .slice uA un uc] 66)).alloc (.cells #[.int .i64 f.s, .int .i64 f.o, .int .i64 f.n, .int .i64 f.i, .int .i64 f.u] 24) = w1 at K ⊢
  refine (rRight_any _ _ w1).mono ?_
  rw [HE.out]
  rintro e w2 ⟨rfl, hb2⟩
  have K2 := hide (K.out.keep hb2)
  clear K hb2
  have i0 := K2.out.b4.cell (j := 0) rfl
  have f0 := K2.out.b6.cell (j := 0) rfl
  have f1 := K2.out.b6.cell (j := 1) rfl
  have f2 := K2.out.b6.cell (j := 2) rfl
  have f3 := K2.out.b6.cell (j := 3) rfl
  have f4 := K2.out.b6.cell (j := 4) rfl
  go_wp2_with fail
  refine (rRoom_any _ _ _ _ _ _ w2).mono ?_
  rw [HM.out]
  rintro e w3 ⟨rfl, hb3⟩
  have K3 := hide (K2.out.keep hb3)
  clear K2 hb3 i0 f0 f1 f2 f3 f4
  have i0 := K3.out.b4.cell (j := 0) rfl
  have i1 := K3.out.b4.cell (j := 1) rfl
  have s0 := K3.out.b5.cell (j := 0) rfl
  have s1 := K3.out.b5.cell (j := 1) rfl
  rcases hrm with h1 | ⟨h1, h2⟩
  · have d1 : decide (0 ≤ rm) = false := by simpa using h1
    clear h1
    go_upto_region 8 with (fail)
    have w1' : IntKind.i64.wrap ((tn : Int) - pp) = (tn : Int) - pp := IntWalk.i64_in _ (by omega)
    have w2' : IntKind.i64.wrap ((tn : Int) - pp + qq) = (tn : Int) - pp + qq := IntWalk.i64_in _ (by omega)
    go_quiet (first | (go_at_call 38; exact Calls.quiet_of_same (calm_tak _ pp _ HP)))
    clear w1' w2' i0 i1 s0 s1
    replace K3 := hide (K3.out.drewN nq)
    generalize w3.drewN nq = w4 at K3 ⊢
    have i0 := K3.out.b4.cell (j := 0) rfl
    have i1 := K3.out.b4.cell (j := 1) rfl
    have s0 := K3.out.b5.cell (j := 0) rfl
    have s1 := K3.out.b5.cell (j := 1) rfl
    go_wp2
    go_ret
    exact ⟨rfl, K3.out.bl⟩
  · have d1 : decide (0 ≤ rm) = true := by simpa using h1
    have d2 : decide (rm ≤ x) = false := by simpa using h2
    clear h1 h2
    go_upto_region 8 with (fail)
    have w1' : IntKind.i64.wrap ((tn : Int) - pp) = (tn : Int) - pp := IntWalk.i64_in _ (by omega)
    have w2' : IntKind.i64.wrap ((tn : Int) - pp + qq) = (tn : Int) - pp + qq := IntWalk.i64_in _ (by omega)
    go_quiet (first | (go_at_call 38; exact Calls.quiet_of_same (calm_tak _ pp _ HP)))
    clear w1' w2' i0 i1 s0 s1
    replace K3 := hide (K3.out.drewN nq)
    generalize w3.drewN nq = w4 at K3 ⊢
    have i0 := K3.out.b4.cell (j := 0) rfl
    have i1 := K3.out.b4.cell (j := 1) rfl
    have s0 := K3.out.b5.cell (j := 0) rfl
    have s1 := K3.out.b5.cell (j := 1) rfl
    go_wp2
    go_ret
    exact ⟨rfl, K3.out.bl⟩
theorem rf_high (f : Fr) (o : Int) (x : Int) (p n : Nat) (tA sA cA uA : Option Addr) (tn tc sn sc cn cc un uc : Nat) (w : World) (rm pp qq : Int) (hx : -2147483648 ≤ x ∧ x ≤ 2147483647) (HE : Hid (rgtE o x = 0)) (HM : Hid (roomV ⟨f.s, f.o, f.n, f.i, f.u⟩ o = rm)) (hrm : rm < 0 ∨ (0 ≤ rm ∧ x < rm)) (HP : Hid (tak o = pp)) (HQ : Hid (giv o = qq)) (hpp : 0 ≤ pp ∧ pp ≤ 2) (hqq : 0 ≤ qq ∧ qq ≤ 1) (ht : tn ≤ 16) (d3 : decide ((tn : Int) < pp) = false) (d4 : decide (16 < (tn : Int) - pp + qq) = true) :
    Calls Try.prog 26 #[.agg #[.int .i64 o, .int .i32 x], .agg #[.int .i64 (p : Int), .slice tA tn tc, .slice sA sn sc, .slice cA cn cc, .slice uA un uc], .agg #[.int .i64 f.s, .int .i64 f.o, .int .i64 f.n, .int .i64 f.i, .int .i64 f.u], .int .i64 (n : Int)] w (Tells w 12) := by
  go_enter Try.func26, Try.ntmps26
  go_wp2_with fail
  have K := hide (FB.start w [.int .i64 o, .int .i32 x] [.int .i64 (p : Int), .slice tA tn tc, .slice sA sn sc, .slice cA cn cc, .slice uA un uc] [.int .i64 f.s, .int .i64 f.o, .int .i64 f.n, .int .i64 f.i, .int .i64 f.u])
  generalize ((w.alloc (.cells #[.int .i64 o, .int .i32 x] 52)).alloc (.cells #[.int .i64 (p : Int), .slice tA tn tc, .slice sA sn sc, .slice cA cn cc, .slice uA un uc] 66)).alloc (.cells #[.int .i64 f.s, .int .i64 f.o, .int .i64 f.n, .int .i64 f.i, .int .i64 f.u] 24) = w1 at K ⊢
  refine (rRight_any _ _ w1).mono ?_
  rw [HE.out]
  rintro e w2 ⟨rfl, hb2⟩
  have K2 := hide (K.out.keep hb2)
  clear K hb2
  have i0 := K2.out.b4.cell (j := 0) rfl
  have f0 := K2.out.b6.cell (j := 0) rfl
  have f1 := K2.out.b6.cell (j := 1) rfl
  have f2 := K2.out.b6.cell (j := 2) rfl
  have f3 := K2.out.b6.cell (j := 3) rfl
  have f4 := K2.out.b6.cell (j := 4) rfl
  go_wp2_with fail
  refine (rRoom_any _ _ _ _ _ _ w2).mono ?_
  rw [HM.out]
  rintro e w3 ⟨rfl, hb3⟩
  have K3 := hide (K2.out.keep hb3)
  clear K2 hb3 i0 f0 f1 f2 f3 f4
  have i0 := K3.out.b4.cell (j := 0) rfl
  have i1 := K3.out.b4.cell (j := 1) rfl
  have s0 := K3.out.b5.cell (j := 0) rfl
  have s1 := K3.out.b5.cell (j := 1) rfl
  rcases hrm with h1 | ⟨h1, h2⟩
  · have d1 : decide (0 ≤ rm) = false := by simpa using h1
    clear h1
    go_upto_region 8 with (fail)
    have w1' : IntKind.i64.wrap ((tn : Int) - pp) = (tn : Int) - pp := IntWalk.i64_in _ (by omega)
    have w2' : IntKind.i64.wrap ((tn : Int) - pp + qq) = (tn : Int) - pp + qq := IntWalk.i64_in _ (by omega)
    go_quiet (first | (go_at_call 38; exact Calls.quiet_of_same (calm_tak _ pp _ HP)) | (go_at_call 39; exact Calls.quiet_of_same (calm_giv _ qq _ HQ)))
    clear w1' w2' i0 i1 s0 s1
    replace K3 := hide (K3.out.drewN nq)
    generalize w3.drewN nq = w4 at K3 ⊢
    have i0 := K3.out.b4.cell (j := 0) rfl
    have i1 := K3.out.b4.cell (j := 1) rfl
    have s0 := K3.out.b5.cell (j := 0) rfl
    have s1 := K3.out.b5.cell (j := 1) rfl
    go_wp2
    go_ret
    exact ⟨rfl, K3.out.bl⟩
  · have d1 : decide (0 ≤ rm) = true := by simpa using h1
    have d2 : decide (rm ≤ x) = false := by simpa using h2
    clear h1 h2
    go_upto_region 8 with (fail)
    have w1' : IntKind.i64.wrap ((tn : Int) - pp) = (tn : Int) - pp := IntWalk.i64_in _ (by omega)
    have w2' : IntKind.i64.wrap ((tn : Int) - pp + qq) = (tn : Int) - pp + qq := IntWalk.i64_in _ (by omega)
    go_quiet (first | (go_at_call 38; exact Calls.quiet_of_same (calm_tak _ pp _ HP)) | (go_at_call 39; exact Calls.quiet_of_same (calm_giv _ qq _ HQ)))
    clear w1' w2' i0 i1 s0 s1
    replace K3 := hide (K3.out.drewN nq)
    generalize w3.drewN nq = w4 at K3 ⊢
    have i0 := K3.out.b4.cell (j := 0) rfl
    have i1 := K3.out.b4.cell (j := 1) rfl
    have s0 := K3.out.b5.cell (j := 0) rfl
    have s1 := K3.out.b5.cell (j := 1) rfl
    go_wp2
    go_ret
    exact ⟨rfl, K3.out.bl⟩
theorem rf_none (f : Fr) (o : Int) (x : Int) (p n : Nat) (tA sA cA uA : Option Addr) (tn tc sn sc cn cc un uc : Nat) (w : World) (rm pp qq : Int) (hx : -2147483648 ≤ x ∧ x ≤ 2147483647) (HE : Hid (rgtE o x = 0)) (HM : Hid (roomV ⟨f.s, f.o, f.n, f.i, f.u⟩ o = rm)) (hrm : rm < 0 ∨ (0 ≤ rm ∧ x < rm)) (HP : Hid (tak o = pp)) (HQ : Hid (giv o = qq)) (hpp : 0 ≤ pp ∧ pp ≤ 2) (hqq : 0 ≤ qq ∧ qq ≤ 1) (ht : tn ≤ 16) (d3 : decide ((tn : Int) < pp) = false) (d4 : decide (16 < (tn : Int) - pp + qq) = false) (e10 : (o == 10) = false) (e11 : (o == 11) = false) :
    Calls Try.prog 26 #[.agg #[.int .i64 o, .int .i32 x], .agg #[.int .i64 (p : Int), .slice tA tn tc, .slice sA sn sc, .slice cA cn cc, .slice uA un uc], .agg #[.int .i64 f.s, .int .i64 f.o, .int .i64 f.n, .int .i64 f.i, .int .i64 f.u], .int .i64 (n : Int)] w (Tells w 0) := by
  go_enter Try.func26, Try.ntmps26
  go_wp2_with fail
  have K := hide (FB.start w [.int .i64 o, .int .i32 x] [.int .i64 (p : Int), .slice tA tn tc, .slice sA sn sc, .slice cA cn cc, .slice uA un uc] [.int .i64 f.s, .int .i64 f.o, .int .i64 f.n, .int .i64 f.i, .int .i64 f.u])
  generalize ((w.alloc (.cells #[.int .i64 o, .int .i32 x] 52)).alloc (.cells #[.int .i64 (p : Int), .slice tA tn tc, .slice sA sn sc, .slice cA cn cc, .slice uA un uc] 66)).alloc (.cells #[.int .i64 f.s, .int .i64 f.o, .int .i64 f.n, .int .i64 f.i, .int .i64 f.u] 24) = w1 at K ⊢
  refine (rRight_any _ _ w1).mono ?_
  rw [HE.out]
  rintro e w2 ⟨rfl, hb2⟩
  have K2 := hide (K.out.keep hb2)
  clear K hb2
  have i0 := K2.out.b4.cell (j := 0) rfl
  have f0 := K2.out.b6.cell (j := 0) rfl
  have f1 := K2.out.b6.cell (j := 1) rfl
  have f2 := K2.out.b6.cell (j := 2) rfl
  have f3 := K2.out.b6.cell (j := 3) rfl
  have f4 := K2.out.b6.cell (j := 4) rfl
  go_wp2_with fail
  refine (rRoom_any _ _ _ _ _ _ w2).mono ?_
  rw [HM.out]
  rintro e w3 ⟨rfl, hb3⟩
  have K3 := hide (K2.out.keep hb3)
  clear K2 hb3 i0 f0 f1 f2 f3 f4
  have i0 := K3.out.b4.cell (j := 0) rfl
  have i1 := K3.out.b4.cell (j := 1) rfl
  have s0 := K3.out.b5.cell (j := 0) rfl
  have s1 := K3.out.b5.cell (j := 1) rfl
  rcases hrm with h1 | ⟨h1, h2⟩
  · have d1 : decide (0 ≤ rm) = false := by simpa using h1
    clear h1
    go_upto_region 8 with (fail)
    have w1' : IntKind.i64.wrap ((tn : Int) - pp) = (tn : Int) - pp := IntWalk.i64_in _ (by omega)
    have w2' : IntKind.i64.wrap ((tn : Int) - pp + qq) = (tn : Int) - pp + qq := IntWalk.i64_in _ (by omega)
    go_quiet (first | (go_at_call 38; exact Calls.quiet_of_same (calm_tak _ pp _ HP)) | (go_at_call 39; exact Calls.quiet_of_same (calm_giv _ qq _ HQ)))
    clear w1' w2' i0 i1 s0 s1
    replace K3 := hide (K3.out.drewN nq)
    generalize w3.drewN nq = w4 at K3 ⊢
    have i0 := K3.out.b4.cell (j := 0) rfl
    have i1 := K3.out.b4.cell (j := 1) rfl
    have s0 := K3.out.b5.cell (j := 0) rfl
    have s1 := K3.out.b5.cell (j := 1) rfl
    go_wp2
    go_ret
    exact ⟨rfl, K3.out.bl⟩
  · have d1 : decide (0 ≤ rm) = true := by simpa using h1
    have d2 : decide (rm ≤ x) = false := by simpa using h2
    clear h1 h2
    go_upto_region 8 with (fail)
    have w1' : IntKind.i64.wrap ((tn : Int) - pp) = (tn : Int) - pp := IntWalk.i64_in _ (by omega)
    have w2' : IntKind.i64.wrap ((tn : Int) - pp + qq) = (tn : Int) - pp + qq := IntWalk.i64_in _ (by omega)
    go_quiet (first | (go_at_call 38; exact Calls.quiet_of_same (calm_tak _ pp _ HP)) | (go_at_call 39; exact Calls.quiet_of_same (calm_giv _ qq _ HQ)))
    clear w1' w2' i0 i1 s0 s1
    replace K3 := hide (K3.out.drewN nq)
    generalize w3.drewN nq = w4 at K3 ⊢
    have i0 := K3.out.b4.cell (j := 0) rfl
    have i1 := K3.out.b4.cell (j := 1) rfl
    have s0 := K3.out.b5.cell (j := 0) rfl
    have s1 := K3.out.b5.cell (j := 1) rfl
    go_wp2
    go_ret
    exact ⟨rfl, K3.out.bl⟩
theorem rf_jump (f : Fr) (k : Nat) (p n : Nat) (tA sA cA uA : Option Addr) (tn tc sn sc cn cc un uc : Nat) (w : World) (rm pp qq : Int) (hx : -2147483648 ≤ (k : Int) ∧ (k : Int) ≤ 2147483647) (HE : Hid (rgtE 10 (k : Int) = 0)) (HM : Hid (roomV ⟨f.s, f.o, f.n, f.i, f.u⟩ 10 = rm)) (hrm : rm < 0 ∨ (0 ≤ rm ∧ (k : Int) < rm)) (HP : Hid (tak 10 = pp)) (HQ : Hid (giv 10 = qq)) (hpp : 0 ≤ pp ∧ pp ≤ 2) (hqq : 0 ≤ qq ∧ qq ≤ 1) (ht : tn ≤ 16) (d3 : decide ((tn : Int) < pp) = false) (d4 : decide (16 < (tn : Int) - pp + qq) = false) (hp : p ≤ 600) (_hn : n ≤ 600) (hk : k ≤ 65535) (d5 : decide ((n : Int) < (p : Int) + 1 + (k : Int)) = true) :
    Calls Try.prog 26 #[.agg #[.int .i64 10, .int .i32 (k : Int)], .agg #[.int .i64 (p : Int), .slice tA tn tc, .slice sA sn sc, .slice cA cn cc, .slice uA un uc], .agg #[.int .i64 f.s, .int .i64 f.o, .int .i64 f.n, .int .i64 f.i, .int .i64 f.u], .int .i64 (n : Int)] w (Tells w 11) := by
  go_enter Try.func26, Try.ntmps26
  go_wp2_with fail
  have K := hide (FB.start w [.int .i64 10, .int .i32 (k : Int)] [.int .i64 (p : Int), .slice tA tn tc, .slice sA sn sc, .slice cA cn cc, .slice uA un uc] [.int .i64 f.s, .int .i64 f.o, .int .i64 f.n, .int .i64 f.i, .int .i64 f.u])
  generalize ((w.alloc (.cells #[.int .i64 10, .int .i32 (k : Int)] 52)).alloc (.cells #[.int .i64 (p : Int), .slice tA tn tc, .slice sA sn sc, .slice cA cn cc, .slice uA un uc] 66)).alloc (.cells #[.int .i64 f.s, .int .i64 f.o, .int .i64 f.n, .int .i64 f.i, .int .i64 f.u] 24) = w1 at K ⊢
  refine (rRight_any _ _ w1).mono ?_
  rw [HE.out]
  rintro e w2 ⟨rfl, hb2⟩
  have K2 := hide (K.out.keep hb2)
  clear K hb2
  have i0 := K2.out.b4.cell (j := 0) rfl
  have f0 := K2.out.b6.cell (j := 0) rfl
  have f1 := K2.out.b6.cell (j := 1) rfl
  have f2 := K2.out.b6.cell (j := 2) rfl
  have f3 := K2.out.b6.cell (j := 3) rfl
  have f4 := K2.out.b6.cell (j := 4) rfl
  go_wp2_with fail
  refine (rRoom_any _ _ _ _ _ _ w2).mono ?_
  rw [HM.out]
  rintro e w3 ⟨rfl, hb3⟩
  have K3 := hide (K2.out.keep hb3)
  clear K2 hb3 i0 f0 f1 f2 f3 f4
  have i0 := K3.out.b4.cell (j := 0) rfl
  have i1 := K3.out.b4.cell (j := 1) rfl
  have s0 := K3.out.b5.cell (j := 0) rfl
  have s1 := K3.out.b5.cell (j := 1) rfl
  rcases hrm with h1 | ⟨h1, h2⟩
  · have d1 : decide (0 ≤ rm) = false := by simpa using h1
    clear h1
    go_upto_region 8 with (fail)
    have w1' : IntKind.i64.wrap ((tn : Int) - pp) = (tn : Int) - pp := IntWalk.i64_in _ (by omega)
    have w2' : IntKind.i64.wrap ((tn : Int) - pp + qq) = (tn : Int) - pp + qq := IntWalk.i64_in _ (by omega)
    go_quiet (first | (go_at_call 38; exact Calls.quiet_of_same (calm_tak _ pp _ HP)) | (go_at_call 39; exact Calls.quiet_of_same (calm_giv _ qq _ HQ)))
    clear w1' w2' i0 i1 s0 s1
    replace K3 := hide (K3.out.drewN nq)
    generalize w3.drewN nq = w4 at K3 ⊢
    have i0 := K3.out.b4.cell (j := 0) rfl
    have i1 := K3.out.b4.cell (j := 1) rfl
    have s0 := K3.out.b5.cell (j := 0) rfl
    have s1 := K3.out.b5.cell (j := 1) rfl
    go_wp2
    go_ret
    exact ⟨rfl, K3.out.bl⟩
  · have d1 : decide (0 ≤ rm) = true := by simpa using h1
    have d2 : decide (rm ≤ (k : Int)) = false := by simpa using h2
    clear h1 h2
    go_upto_region 8 with (fail)
    have w1' : IntKind.i64.wrap ((tn : Int) - pp) = (tn : Int) - pp := IntWalk.i64_in _ (by omega)
    have w2' : IntKind.i64.wrap ((tn : Int) - pp + qq) = (tn : Int) - pp + qq := IntWalk.i64_in _ (by omega)
    go_quiet (first | (go_at_call 38; exact Calls.quiet_of_same (calm_tak _ pp _ HP)) | (go_at_call 39; exact Calls.quiet_of_same (calm_giv _ qq _ HQ)))
    clear w1' w2' i0 i1 s0 s1
    replace K3 := hide (K3.out.drewN nq)
    generalize w3.drewN nq = w4 at K3 ⊢
    have i0 := K3.out.b4.cell (j := 0) rfl
    have i1 := K3.out.b4.cell (j := 1) rfl
    have s0 := K3.out.b5.cell (j := 0) rfl
    have s1 := K3.out.b5.cell (j := 1) rfl
    go_wp2
    go_ret
    exact ⟨rfl, K3.out.bl⟩
theorem rf_jump_ok (f : Fr) (k : Nat) (p n : Nat) (tA sA cA uA : Option Addr) (tn tc sn sc cn cc un uc : Nat) (w : World) (rm pp qq : Int) (hx : -2147483648 ≤ (k : Int) ∧ (k : Int) ≤ 2147483647) (HE : Hid (rgtE 10 (k : Int) = 0)) (HM : Hid (roomV ⟨f.s, f.o, f.n, f.i, f.u⟩ 10 = rm)) (hrm : rm < 0 ∨ (0 ≤ rm ∧ (k : Int) < rm)) (HP : Hid (tak 10 = pp)) (HQ : Hid (giv 10 = qq)) (hpp : 0 ≤ pp ∧ pp ≤ 2) (hqq : 0 ≤ qq ∧ qq ≤ 1) (ht : tn ≤ 16) (d3 : decide ((tn : Int) < pp) = false) (d4 : decide (16 < (tn : Int) - pp + qq) = false) (hp : p ≤ 600) (_hn : n ≤ 600) (hk : k ≤ 65535) (d5 : decide ((n : Int) < (p : Int) + 1 + (k : Int)) = false) :
    Calls Try.prog 26 #[.agg #[.int .i64 10, .int .i32 (k : Int)], .agg #[.int .i64 (p : Int), .slice tA tn tc, .slice sA sn sc, .slice cA cn cc, .slice uA un uc], .agg #[.int .i64 f.s, .int .i64 f.o, .int .i64 f.n, .int .i64 f.i, .int .i64 f.u], .int .i64 (n : Int)] w (Tells w 0) := by
  go_enter Try.func26, Try.ntmps26
  go_wp2_with fail
  have K := hide (FB.start w [.int .i64 10, .int .i32 (k : Int)] [.int .i64 (p : Int), .slice tA tn tc, .slice sA sn sc, .slice cA cn cc, .slice uA un uc] [.int .i64 f.s, .int .i64 f.o, .int .i64 f.n, .int .i64 f.i, .int .i64 f.u])
  generalize ((w.alloc (.cells #[.int .i64 10, .int .i32 (k : Int)] 52)).alloc (.cells #[.int .i64 (p : Int), .slice tA tn tc, .slice sA sn sc, .slice cA cn cc, .slice uA un uc] 66)).alloc (.cells #[.int .i64 f.s, .int .i64 f.o, .int .i64 f.n, .int .i64 f.i, .int .i64 f.u] 24) = w1 at K ⊢
  refine (rRight_any _ _ w1).mono ?_
  rw [HE.out]
  rintro e w2 ⟨rfl, hb2⟩
  have K2 := hide (K.out.keep hb2)
  clear K hb2
  have i0 := K2.out.b4.cell (j := 0) rfl
  have f0 := K2.out.b6.cell (j := 0) rfl
  have f1 := K2.out.b6.cell (j := 1) rfl
  have f2 := K2.out.b6.cell (j := 2) rfl
  have f3 := K2.out.b6.cell (j := 3) rfl
  have f4 := K2.out.b6.cell (j := 4) rfl
  go_wp2_with fail
  refine (rRoom_any _ _ _ _ _ _ w2).mono ?_
  rw [HM.out]
  rintro e w3 ⟨rfl, hb3⟩
  have K3 := hide (K2.out.keep hb3)
  clear K2 hb3 i0 f0 f1 f2 f3 f4
  have i0 := K3.out.b4.cell (j := 0) rfl
  have i1 := K3.out.b4.cell (j := 1) rfl
  have s0 := K3.out.b5.cell (j := 0) rfl
  have s1 := K3.out.b5.cell (j := 1) rfl
  rcases hrm with h1 | ⟨h1, h2⟩
  · have d1 : decide (0 ≤ rm) = false := by simpa using h1
    clear h1
    go_upto_region 8 with (fail)
    have w1' : IntKind.i64.wrap ((tn : Int) - pp) = (tn : Int) - pp := IntWalk.i64_in _ (by omega)
    have w2' : IntKind.i64.wrap ((tn : Int) - pp + qq) = (tn : Int) - pp + qq := IntWalk.i64_in _ (by omega)
    go_quiet (first | (go_at_call 38; exact Calls.quiet_of_same (calm_tak _ pp _ HP)) | (go_at_call 39; exact Calls.quiet_of_same (calm_giv _ qq _ HQ)))
    clear w1' w2' i0 i1 s0 s1
    replace K3 := hide (K3.out.drewN nq)
    generalize w3.drewN nq = w4 at K3 ⊢
    have i0 := K3.out.b4.cell (j := 0) rfl
    have i1 := K3.out.b4.cell (j := 1) rfl
    have s0 := K3.out.b5.cell (j := 0) rfl
    have s1 := K3.out.b5.cell (j := 1) rfl
    go_wp2
    go_ret
    exact ⟨rfl, K3.out.bl⟩
  · have d1 : decide (0 ≤ rm) = true := by simpa using h1
    have d2 : decide (rm ≤ (k : Int)) = false := by simpa using h2
    clear h1 h2
    go_upto_region 8 with (fail)
    have w1' : IntKind.i64.wrap ((tn : Int) - pp) = (tn : Int) - pp := IntWalk.i64_in _ (by omega)
    have w2' : IntKind.i64.wrap ((tn : Int) - pp + qq) = (tn : Int) - pp + qq := IntWalk.i64_in _ (by omega)
    go_quiet (first | (go_at_call 38; exact Calls.quiet_of_same (calm_tak _ pp _ HP)) | (go_at_call 39; exact Calls.quiet_of_same (calm_giv _ qq _ HQ)))
    clear w1' w2' i0 i1 s0 s1
    replace K3 := hide (K3.out.drewN nq)
    generalize w3.drewN nq = w4 at K3 ⊢
    have i0 := K3.out.b4.cell (j := 0) rfl
    have i1 := K3.out.b4.cell (j := 1) rfl
    have s0 := K3.out.b5.cell (j := 0) rfl
    have s1 := K3.out.b5.cell (j := 1) rfl
    go_wp2
    go_ret
    exact ⟨rfl, K3.out.bl⟩
theorem rf_zero_no (f : Fr) (k : Nat) (m : Nat) (p n : Nat) (tA sA cA uA : Option Addr) (tc sn sc cn cc un uc : Nat) (w : World) (rm pp qq : Int) (hx : -2147483648 ≤ (k : Int) ∧ (k : Int) ≤ 2147483647) (HE : Hid (rgtE 11 (k : Int) = 0)) (HM : Hid (roomV ⟨f.s, f.o, f.n, f.i, f.u⟩ 11 = rm)) (hrm : rm < 0 ∨ (0 ≤ rm ∧ (k : Int) < rm)) (HP : Hid (tak 11 = pp)) (HQ : Hid (giv 11 = qq)) (hpp : 0 ≤ pp ∧ pp ≤ 2) (hqq : 0 ≤ qq ∧ qq ≤ 1) (ht : m ≤ 15) (d3 : decide (((m : Int) + 1) < pp) = false) (d4 : decide (16 < ((m : Int) + 1) - pp + qq) = false) (B : Nat) (st : List Int) (v : Int) (hB : B ≤ w.heap.size) (hr : Row w B tA (m + 1) tc (c32 st)) (HV : Hid (st.length = m + 1 ∧ gd st m = v)) (_hp : p ≤ 600) (_hn : n ≤ 600) (hk : k ≤ 65535) (d6 : (v == 0) = false) :
    Calls Try.prog 26 #[.agg #[.int .i64 11, .int .i32 (k : Int)], .agg #[.int .i64 (p : Int), .slice tA (m + 1) tc, .slice sA sn sc, .slice cA cn cc, .slice uA un uc], .agg #[.int .i64 f.s, .int .i64 f.o, .int .i64 f.n, .int .i64 f.i, .int .i64 f.u], .int .i64 (n : Int)] w (Tells w 0) := by
  go_enter Try.func26, Try.ntmps26
  go_wp2_with fail
  have K := hide (FB.start w [.int .i64 11, .int .i32 (k : Int)] [.int .i64 (p : Int), .slice tA (m + 1) tc, .slice sA sn sc, .slice cA cn cc, .slice uA un uc] [.int .i64 f.s, .int .i64 f.o, .int .i64 f.n, .int .i64 f.i, .int .i64 f.u])
  generalize ((w.alloc (.cells #[.int .i64 11, .int .i32 (k : Int)] 52)).alloc (.cells #[.int .i64 (p : Int), .slice tA (m + 1) tc, .slice sA sn sc, .slice cA cn cc, .slice uA un uc] 66)).alloc (.cells #[.int .i64 f.s, .int .i64 f.o, .int .i64 f.n, .int .i64 f.i, .int .i64 f.u] 24) = w1 at K ⊢
  refine (rRight_any _ _ w1).mono ?_
  rw [HE.out]
  rintro e w2 ⟨rfl, hb2⟩
  have K2 := hide (K.out.keep hb2)
  clear K hb2
  have i0 := K2.out.b4.cell (j := 0) rfl
  have f0 := K2.out.b6.cell (j := 0) rfl
  have f1 := K2.out.b6.cell (j := 1) rfl
  have f2 := K2.out.b6.cell (j := 2) rfl
  have f3 := K2.out.b6.cell (j := 3) rfl
  have f4 := K2.out.b6.cell (j := 4) rfl
  go_wp2_with fail
  refine (rRoom_any _ _ _ _ _ _ w2).mono ?_
  rw [HM.out]
  rintro e w3 ⟨rfl, hb3⟩
  have K3 := hide (K2.out.keep hb3)
  clear K2 hb3 i0 f0 f1 f2 f3 f4
  have i0 := K3.out.b4.cell (j := 0) rfl
  have i1 := K3.out.b4.cell (j := 1) rfl
  have s0 := K3.out.b5.cell (j := 0) rfl
  have s1 := K3.out.b5.cell (j := 1) rfl
  rcases hrm with h1 | ⟨h1, h2⟩
  · have d1 : decide (0 ≤ rm) = false := by simpa using h1
    clear h1
    go_upto_region 8 with (fail)
    have w1' : IntKind.i64.wrap (((m : Int) + 1) - pp) = ((m : Int) + 1) - pp := IntWalk.i64_in _ (by omega)
    have w2' : IntKind.i64.wrap (((m : Int) + 1) - pp + qq) = ((m : Int) + 1) - pp + qq := IntWalk.i64_in _ (by omega)
    go_quiet (first | (go_at_call 38; exact Calls.quiet_of_same (calm_tak _ pp _ HP)) | (go_at_call 39; exact Calls.quiet_of_same (calm_giv _ qq _ HQ)))
    clear w1' w2' i0 i1 s0 s1
    replace K3 := hide (K3.out.drewN nq)
    generalize w3.drewN nq = w4 at K3 ⊢
    have i0 := K3.out.b4.cell (j := 0) rfl
    have i1 := K3.out.b4.cell (j := 1) rfl
    have s0 := K3.out.b5.cell (j := 0) rfl
    have s1 := K3.out.b5.cell (j := 1) rfl
    obtain ⟨tb, toff, tu, hA, _, htu, tcell⟩ := (hr.keep K3.out.bl hB).get (j := m) (by omega)
    rw [c32_at (by have := HV.out.1; omega), HV.out.2] at htu
    obtain rfl := Option.some.inj htu
    have hcap := hr.cap
    rw [hA] at s1
    clear htu hA hr
    go_wp2
    go_ret
    exact ⟨rfl, K3.out.bl⟩
  · have d1 : decide (0 ≤ rm) = true := by simpa using h1
    have d2 : decide (rm ≤ (k : Int)) = false := by simpa using h2
    clear h1 h2
    go_upto_region 8 with (fail)
    have w1' : IntKind.i64.wrap (((m : Int) + 1) - pp) = ((m : Int) + 1) - pp := IntWalk.i64_in _ (by omega)
    have w2' : IntKind.i64.wrap (((m : Int) + 1) - pp + qq) = ((m : Int) + 1) - pp + qq := IntWalk.i64_in _ (by omega)
    go_quiet (first | (go_at_call 38; exact Calls.quiet_of_same (calm_tak _ pp _ HP)) | (go_at_call 39; exact Calls.quiet_of_same (calm_giv _ qq _ HQ)))
    clear w1' w2' i0 i1 s0 s1
    replace K3 := hide (K3.out.drewN nq)
    generalize w3.drewN nq = w4 at K3 ⊢
    have i0 := K3.out.b4.cell (j := 0) rfl
    have i1 := K3.out.b4.cell (j := 1) rfl
    have s0 := K3.out.b5.cell (j := 0) rfl
    have s1 := K3.out.b5.cell (j := 1) rfl
    obtain ⟨tb, toff, tu, hA, _, htu, tcell⟩ := (hr.keep K3.out.bl hB).get (j := m) (by omega)
    rw [c32_at (by have := HV.out.1; omega), HV.out.2] at htu
    obtain rfl := Option.some.inj htu
    have hcap := hr.cap
    rw [hA] at s1
    clear htu hA hr
    go_wp2
    go_ret
    exact ⟨rfl, K3.out.bl⟩
theorem rf_zero_bad (f : Fr) (k : Nat) (m : Nat) (p n : Nat) (tA sA cA uA : Option Addr) (tc sn sc cn cc un uc : Nat) (w : World) (rm pp qq : Int) (hx : -2147483648 ≤ (k : Int) ∧ (k : Int) ≤ 2147483647) (HE : Hid (rgtE 11 (k : Int) = 0)) (HM : Hid (roomV ⟨f.s, f.o, f.n, f.i, f.u⟩ 11 = rm)) (hrm : rm < 0 ∨ (0 ≤ rm ∧ (k : Int) < rm)) (HP : Hid (tak 11 = pp)) (HQ : Hid (giv 11 = qq)) (hpp : 0 ≤ pp ∧ pp ≤ 2) (hqq : 0 ≤ qq ∧ qq ≤ 1) (ht : m ≤ 15) (d3 : decide (((m : Int) + 1) < pp) = false) (d4 : decide (16 < ((m : Int) + 1) - pp + qq) = false) (B : Nat) (st : List Int) (v : Int) (hB : B ≤ w.heap.size) (hr : Row w B tA (m + 1) tc (c32 st)) (HV : Hid (st.length = m + 1 ∧ gd st m = v)) (hp : p ≤ 600) (_hn : n ≤ 600) (hk : k ≤ 65535) (d6 : (v == 0) = true) (d5 : decide ((n : Int) < (p : Int) + 1 + (k : Int)) = true) :
    Calls Try.prog 26 #[.agg #[.int .i64 11, .int .i32 (k : Int)], .agg #[.int .i64 (p : Int), .slice tA (m + 1) tc, .slice sA sn sc, .slice cA cn cc, .slice uA un uc], .agg #[.int .i64 f.s, .int .i64 f.o, .int .i64 f.n, .int .i64 f.i, .int .i64 f.u], .int .i64 (n : Int)] w (Tells w 11) := by
  go_enter Try.func26, Try.ntmps26
  go_wp2_with fail
  have K := hide (FB.start w [.int .i64 11, .int .i32 (k : Int)] [.int .i64 (p : Int), .slice tA (m + 1) tc, .slice sA sn sc, .slice cA cn cc, .slice uA un uc] [.int .i64 f.s, .int .i64 f.o, .int .i64 f.n, .int .i64 f.i, .int .i64 f.u])
  generalize ((w.alloc (.cells #[.int .i64 11, .int .i32 (k : Int)] 52)).alloc (.cells #[.int .i64 (p : Int), .slice tA (m + 1) tc, .slice sA sn sc, .slice cA cn cc, .slice uA un uc] 66)).alloc (.cells #[.int .i64 f.s, .int .i64 f.o, .int .i64 f.n, .int .i64 f.i, .int .i64 f.u] 24) = w1 at K ⊢
  refine (rRight_any _ _ w1).mono ?_
  rw [HE.out]
  rintro e w2 ⟨rfl, hb2⟩
  have K2 := hide (K.out.keep hb2)
  clear K hb2
  have i0 := K2.out.b4.cell (j := 0) rfl
  have f0 := K2.out.b6.cell (j := 0) rfl
  have f1 := K2.out.b6.cell (j := 1) rfl
  have f2 := K2.out.b6.cell (j := 2) rfl
  have f3 := K2.out.b6.cell (j := 3) rfl
  have f4 := K2.out.b6.cell (j := 4) rfl
  go_wp2_with fail
  refine (rRoom_any _ _ _ _ _ _ w2).mono ?_
  rw [HM.out]
  rintro e w3 ⟨rfl, hb3⟩
  have K3 := hide (K2.out.keep hb3)
  clear K2 hb3 i0 f0 f1 f2 f3 f4
  have i0 := K3.out.b4.cell (j := 0) rfl
  have i1 := K3.out.b4.cell (j := 1) rfl
  have s0 := K3.out.b5.cell (j := 0) rfl
  have s1 := K3.out.b5.cell (j := 1) rfl
  rcases hrm with h1 | ⟨h1, h2⟩
  · have d1 : decide (0 ≤ rm) = false := by simpa using h1
    clear h1
    go_upto_region 8 with (fail)
    have w1' : IntKind.i64.wrap (((m : Int) + 1) - pp) = ((m : Int) + 1) - pp := IntWalk.i64_in _ (by omega)
    have w2' : IntKind.i64.wrap (((m : Int) + 1) - pp + qq) = ((m : Int) + 1) - pp + qq := IntWalk.i64_in _ (by omega)
    go_quiet (first | (go_at_call 38; exact Calls.quiet_of_same (calm_tak _ pp _ HP)) | (go_at_call 39; exact Calls.quiet_of_same (calm_giv _ qq _ HQ)))
    clear w1' w2' i0 i1 s0 s1
    replace K3 := hide (K3.out.drewN nq)
    generalize w3.drewN nq = w4 at K3 ⊢
    have i0 := K3.out.b4.cell (j := 0) rfl
    have i1 := K3.out.b4.cell (j := 1) rfl
    have s0 := K3.out.b5.cell (j := 0) rfl
    have s1 := K3.out.b5.cell (j := 1) rfl
    obtain ⟨tb, toff, tu, hA, _, htu, tcell⟩ := (hr.keep K3.out.bl hB).get (j := m) (by omega)
    rw [c32_at (by have := HV.out.1; omega), HV.out.2] at htu
    obtain rfl := Option.some.inj htu
    have hcap := hr.cap
    rw [hA] at s1
    clear htu hA hr
    go_wp2
    go_ret
    exact ⟨rfl, K3.out.bl⟩
  · have d1 : decide (0 ≤ rm) = true := by simpa using h1
    have d2 : decide (rm ≤ (k : Int)) = false := by simpa using h2
    clear h1 h2
    go_upto_region 8 with (fail)
    have w1' : IntKind.i64.wrap (((m : Int) + 1) - pp) = ((m : Int) + 1) - pp := IntWalk.i64_in _ (by omega)
    have w2' : IntKind.i64.wrap (((m : Int) + 1) - pp + qq) = ((m : Int) + 1) - pp + qq := IntWalk.i64_in _ (by omega)
    go_quiet (first | (go_at_call 38; exact Calls.quiet_of_same (calm_tak _ pp _ HP)) | (go_at_call 39; exact Calls.quiet_of_same (calm_giv _ qq _ HQ)))
    clear w1' w2' i0 i1 s0 s1
    replace K3 := hide (K3.out.drewN nq)
    generalize w3.drewN nq = w4 at K3 ⊢
    have i0 := K3.out.b4.cell (j := 0) rfl
    have i1 := K3.out.b4.cell (j := 1) rfl
    have s0 := K3.out.b5.cell (j := 0) rfl
    have s1 := K3.out.b5.cell (j := 1) rfl
    obtain ⟨tb, toff, tu, hA, _, htu, tcell⟩ := (hr.keep K3.out.bl hB).get (j := m) (by omega)
    rw [c32_at (by have := HV.out.1; omega), HV.out.2] at htu
    obtain rfl := Option.some.inj htu
    have hcap := hr.cap
    rw [hA] at s1
    clear htu hA hr
    go_wp2
    go_ret
    exact ⟨rfl, K3.out.bl⟩
theorem rf_zero_ok (f : Fr) (k : Nat) (m : Nat) (p n : Nat) (tA sA cA uA : Option Addr) (tc sn sc cn cc un uc : Nat) (w : World) (rm pp qq : Int) (hx : -2147483648 ≤ (k : Int) ∧ (k : Int) ≤ 2147483647) (HE : Hid (rgtE 11 (k : Int) = 0)) (HM : Hid (roomV ⟨f.s, f.o, f.n, f.i, f.u⟩ 11 = rm)) (hrm : rm < 0 ∨ (0 ≤ rm ∧ (k : Int) < rm)) (HP : Hid (tak 11 = pp)) (HQ : Hid (giv 11 = qq)) (hpp : 0 ≤ pp ∧ pp ≤ 2) (hqq : 0 ≤ qq ∧ qq ≤ 1) (ht : m ≤ 15) (d3 : decide (((m : Int) + 1) < pp) = false) (d4 : decide (16 < ((m : Int) + 1) - pp + qq) = false) (B : Nat) (st : List Int) (v : Int) (hB : B ≤ w.heap.size) (hr : Row w B tA (m + 1) tc (c32 st)) (HV : Hid (st.length = m + 1 ∧ gd st m = v)) (hp : p ≤ 600) (_hn : n ≤ 600) (hk : k ≤ 65535) (d6 : (v == 0) = true) (d5 : decide ((n : Int) < (p : Int) + 1 + (k : Int)) = false) :
    Calls Try.prog 26 #[.agg #[.int .i64 11, .int .i32 (k : Int)], .agg #[.int .i64 (p : Int), .slice tA (m + 1) tc, .slice sA sn sc, .slice cA cn cc, .slice uA un uc], .agg #[.int .i64 f.s, .int .i64 f.o, .int .i64 f.n, .int .i64 f.i, .int .i64 f.u], .int .i64 (n : Int)] w (Tells w 0) := by
  go_enter Try.func26, Try.ntmps26
  go_wp2_with fail
  have K := hide (FB.start w [.int .i64 11, .int .i32 (k : Int)] [.int .i64 (p : Int), .slice tA (m + 1) tc, .slice sA sn sc, .slice cA cn cc, .slice uA un uc] [.int .i64 f.s, .int .i64 f.o, .int .i64 f.n, .int .i64 f.i, .int .i64 f.u])
  generalize ((w.alloc (.cells #[.int .i64 11, .int .i32 (k : Int)] 52)).alloc (.cells #[.int .i64 (p : Int), .slice tA (m + 1) tc, .slice sA sn sc, .slice cA cn cc, .slice uA un uc] 66)).alloc (.cells #[.int .i64 f.s, .int .i64 f.o, .int .i64 f.n, .int .i64 f.i, .int .i64 f.u] 24) = w1 at K ⊢
  refine (rRight_any _ _ w1).mono ?_
  rw [HE.out]
  rintro e w2 ⟨rfl, hb2⟩
  have K2 := hide (K.out.keep hb2)
  clear K hb2
  have i0 := K2.out.b4.cell (j := 0) rfl
  have f0 := K2.out.b6.cell (j := 0) rfl
  have f1 := K2.out.b6.cell (j := 1) rfl
  have f2 := K2.out.b6.cell (j := 2) rfl
  have f3 := K2.out.b6.cell (j := 3) rfl
  have f4 := K2.out.b6.cell (j := 4) rfl
  go_wp2_with fail
  refine (rRoom_any _ _ _ _ _ _ w2).mono ?_
  rw [HM.out]
  rintro e w3 ⟨rfl, hb3⟩
  have K3 := hide (K2.out.keep hb3)
  clear K2 hb3 i0 f0 f1 f2 f3 f4
  have i0 := K3.out.b4.cell (j := 0) rfl
  have i1 := K3.out.b4.cell (j := 1) rfl
  have s0 := K3.out.b5.cell (j := 0) rfl
  have s1 := K3.out.b5.cell (j := 1) rfl
  rcases hrm with h1 | ⟨h1, h2⟩
  · have d1 : decide (0 ≤ rm) = false := by simpa using h1
    clear h1
    go_upto_region 8 with (fail)
    have w1' : IntKind.i64.wrap (((m : Int) + 1) - pp) = ((m : Int) + 1) - pp := IntWalk.i64_in _ (by omega)
    have w2' : IntKind.i64.wrap (((m : Int) + 1) - pp + qq) = ((m : Int) + 1) - pp + qq := IntWalk.i64_in _ (by omega)
    go_quiet (first | (go_at_call 38; exact Calls.quiet_of_same (calm_tak _ pp _ HP)) | (go_at_call 39; exact Calls.quiet_of_same (calm_giv _ qq _ HQ)))
    clear w1' w2' i0 i1 s0 s1
    replace K3 := hide (K3.out.drewN nq)
    generalize w3.drewN nq = w4 at K3 ⊢
    have i0 := K3.out.b4.cell (j := 0) rfl
    have i1 := K3.out.b4.cell (j := 1) rfl
    have s0 := K3.out.b5.cell (j := 0) rfl
    have s1 := K3.out.b5.cell (j := 1) rfl
    obtain ⟨tb, toff, tu, hA, _, htu, tcell⟩ := (hr.keep K3.out.bl hB).get (j := m) (by omega)
    rw [c32_at (by have := HV.out.1; omega), HV.out.2] at htu
    obtain rfl := Option.some.inj htu
    have hcap := hr.cap
    rw [hA] at s1
    clear htu hA hr
    go_wp2
    go_ret
    exact ⟨rfl, K3.out.bl⟩
  · have d1 : decide (0 ≤ rm) = true := by simpa using h1
    have d2 : decide (rm ≤ (k : Int)) = false := by simpa using h2
    clear h1 h2
    go_upto_region 8 with (fail)
    have w1' : IntKind.i64.wrap (((m : Int) + 1) - pp) = ((m : Int) + 1) - pp := IntWalk.i64_in _ (by omega)
    have w2' : IntKind.i64.wrap (((m : Int) + 1) - pp + qq) = ((m : Int) + 1) - pp + qq := IntWalk.i64_in _ (by omega)
    go_quiet (first | (go_at_call 38; exact Calls.quiet_of_same (calm_tak _ pp _ HP)) | (go_at_call 39; exact Calls.quiet_of_same (calm_giv _ qq _ HQ)))
    clear w1' w2' i0 i1 s0 s1
    replace K3 := hide (K3.out.drewN nq)
    generalize w3.drewN nq = w4 at K3 ⊢
    have i0 := K3.out.b4.cell (j := 0) rfl
    have i1 := K3.out.b4.cell (j := 1) rfl
    have s0 := K3.out.b5.cell (j := 0) rfl
    have s1 := K3.out.b5.cell (j := 1) rfl
    obtain ⟨tb, toff, tu, hA, _, htu, tcell⟩ := (hr.keep K3.out.bl hB).get (j := m) (by omega)
    rw [c32_at (by have := HV.out.1; omega), HV.out.2] at htu
    obtain rfl := Option.some.inj htu
    have hcap := hr.cap
    rw [hA] at s1
    clear htu hA hr
    go_wp2
    go_ret
    exact ⟨rfl, K3.out.bl⟩
theorem tell_eq {w w' : World} {a b : Int} {e : Ending} (h : Tells w a e w') (hab : b = a) : Tells w b e w' := hab ▸ h
theorem rfault_any (f : Fr) (o x : Int) (n : Nat) (s : VS) (tA sA cA uA : Option Addr) (tn tc sn sc cn cc un uc B : Nat) (w : World) (hB : B ≤ w.heap.size) (hr : Row w B tA tn tc (c32 s.st)) (hx : -2147483648 ≤ x ∧ x ≤ 2147483647) (ht : tn ≤ 16) (hp : s.p ≤ 600) (hn : n ≤ 600) :
    Calls Try.prog 26 #[.agg #[.int .i64 o, .int .i32 x], .agg #[.int .i64 (s.p : Int), .slice tA tn tc, .slice sA sn sc, .slice cA cn cc, .slice uA un uc], .agg #[.int .i64 f.s, .int .i64 f.o, .int .i64 f.n, .int .i64 f.i, .int .i64 f.u], .int .i64 (n : Int)] w (Tells w (vfault f n o x s)) := by
  have htn : s.st.length = tn := by have := hr.len; rwa [c32_len] at this
  have hpp := tak_range o
  have hqq := giv_range o
  by_cases h0 : rgtE o x = 0
  · by_cases hi : insd f o x
    · have hrm : roomV f o < 0 ∨ (0 ≤ roomV f o ∧ x < roomV f o) := by rcases hi with h | h; exact .inl h; by_cases h9 : roomV f o < 0; exact .inl h9; exact .inr ⟨by omega, h⟩
      by_cases hl : (tn : Int) < tak o
      · exact (rf_low f o x s.p n tA sA cA uA tn tc sn sc cn cc un uc w _ _ _ hx h0 rfl hrm rfl rfl hpp hqq ht (decide_eq_true hl)).mono fun _ _ q => tell_eq q (vf_stack h0 hi (.inl (by rw [htn]; exact hl)))
      · by_cases hh : 16 < (tn : Int) - tak o + giv o
        · exact (rf_high f o x s.p n tA sA cA uA tn tc sn sc cn cc un uc w _ _ _ hx h0 rfl hrm rfl rfl hpp hqq ht (decide_eq_false hl) (decide_eq_true hh)).mono fun _ _ q => tell_eq q (vf_stack h0 hi (.inr (by rw [htn]; exact hh)))
        · have d3 : decide ((tn : Int) < tak o) = false := decide_eq_false hl
          have d4 : decide (16 < (tn : Int) - tak o + giv o) = false := decide_eq_false hh
          have low : tak o ≤ (s.st.length : Int) := by rw [htn]; omega
          have high : (s.st.length : Int) - tak o + giv o ≤ 16 := by rw [htn]; omega
          by_cases h10 : o = 10
          · subst h10
            have hx0 := nonneg_of h0 (by omega) (by omega) (by omega)
            have hx6 : x ≤ 65535 := by
              unfold rgtE at h0; by_cases h5 : 0 ≤ x ∧ x ≤ 65535
              · exact h5.2
              · simp [h5] at h0
            obtain ⟨k, rfl⟩ : ∃ k : Nat, x = (k : Int) := ⟨x.toNat, by omega⟩
            by_cases hj : (n : Int) < (s.p : Int) + 1 + (k : Int)
            · exact (rf_jump f k s.p n tA sA cA uA tn tc sn sc cn cc un uc w _ _ _ hx h0 rfl hrm rfl rfl hpp hqq ht d3 d4 hp hn (by omega) (decide_eq_true hj)).mono fun _ _ q => tell_eq q (vf_jump h0 hi (by omega) (.inl rfl) (by simp; omega))
            · exact (rf_jump_ok f k s.p n tA sA cA uA tn tc sn sc cn cc un uc w _ _ _ hx h0 rfl hrm rfl rfl hpp hqq ht d3 d4 hp hn (by omega) (decide_eq_false hj)).mono fun _ _ q => tell_eq q (vfault_mk h0 hi low high (by simp; omega))
          · by_cases h11 : o = 11
            · subst h11
              have hx0 := nonneg_of h0 (by omega) (by omega) (by omega)
              have hx6 : x ≤ 65535 := by
                unfold rgtE at h0; by_cases h5 : 0 ≤ x ∧ x ≤ 65535
                · exact h5.2
                · simp [h5] at h0
              obtain ⟨k, rfl⟩ : ∃ k : Nat, x = (k : Int) := ⟨x.toNat, by omega⟩
              have ht1 : tak 11 = 1 := rfl
              obtain ⟨m, rfl⟩ : ∃ m, tn = m + 1 := ⟨tn - 1, by omega⟩
              have htop : topV s.st = gd s.st m := by unfold topV; rw [htn]; rfl
              have d3' : decide ((m : Int) + 1 < tak 11) = false := by rw [← d3]; congr 1
              have d4' : decide (16 < (m : Int) + 1 - tak 11 + giv 11) = false := by rw [← d4]; congr 1
              by_cases hv : gd s.st m = 0
              · by_cases hj : (n : Int) < (s.p : Int) + 1 + (k : Int)
                · exact (rf_zero_bad f k m s.p n tA sA cA uA tc sn sc cn cc un uc w _ _ _ hx h0 rfl hrm rfl rfl hpp hqq (by omega) d3' d4' B s.st 0 hB hr ⟨htn, hv⟩ hp hn (by omega) rfl (decide_eq_true hj)).mono fun _ _ q => tell_eq q (vf_jump h0 hi (by omega) (.inr ⟨rfl, htop.trans hv⟩) (by simp; omega))
                · exact (rf_zero_ok f k m s.p n tA sA cA uA tc sn sc cn cc un uc w _ _ _ hx h0 rfl hrm rfl rfl hpp hqq (by omega) d3' d4' B s.st 0 hB hr ⟨htn, hv⟩ hp hn (by omega) rfl (decide_eq_false hj)).mono fun _ _ q => tell_eq q (vfault_mk h0 hi low high (by simp; omega))
              · exact (rf_zero_no f k m s.p n tA sA cA uA tc sn sc cn cc un uc w _ _ _ hx h0 rfl hrm rfl rfl hpp hqq (by omega) d3' d4' B s.st _ hB hr ⟨htn, rfl⟩ hp hn (by omega) (by simpa using hv)).mono fun _ _ q => tell_eq q (vfault_mk h0 hi low high (by rintro (h9 | ⟨_, h9⟩); omega; exact absurd (htop.symm.trans h9) hv))
            · exact (rf_none f o x s.p n tA sA cA uA tn tc sn sc cn cc un uc w _ _ _ hx h0 rfl hrm rfl rfl hpp hqq ht d3 d4 (by simpa using h10) (by simpa using h11)).mono fun _ _ q => tell_eq q (vfault_mk h0 hi low high (by rintro (h | ⟨h, _⟩); exact absurd h h10; exact absurd h h11))
    · have h1 : 0 ≤ roomV f o ∧ roomV f o ≤ x := by unfold insd at hi; omega
      exact (rf_range f o x s.p n tA sA cA uA tn tc sn sc cn cc un uc w _ hx h0 rfl (decide_eq_true h1.1) (decide_eq_true h1.2)).mono fun _ _ q => tell_eq q (vf_range h0 hi)
  · exact (rf_right f o x s.p n tA sA cA uA tn tc sn sc cn cc un uc w _ _ rfl rfl (by simpa using h0)).mono fun _ _ q => tell_eq q (vf_right h0)
end Go.Proofs.Ytmjelcoljmefeaa
