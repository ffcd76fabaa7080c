/-
  The walk of VmSafe.
-/
import Derived.Test.YtmjelcoljmefeaaVLaw1
import Derived.Test.YtmjelcoljmefeaaUPkg5
namespace Go.Proofs.Ytmjelcoljmefeaa
open Go.RowKit
set_option maxRecDepth 20000
set_option maxHeartbeats 2000000

theorem fitted_int (B : Nat) (A : Option Addr) (n c : Nat) (x : Int) (l : List Int) (w : World) (hr : Row w B A n c (c32 l)) (hB : B ≤ w.heap.size) (h0 : 0 ≤ x) (hk : x ≤ 100) :
    Calls Try.prog 11 #[.slice A n c, .int .i64 x] w (Rowed (fitV l x.toNat) w) := by
  obtain ⟨k, rfl⟩ : ∃ k : Nat, x = (k : Int) := ⟨x.toNat, by omega⟩
  rw [Int.toNat_natCast]
  exact fitted_any B A n c k l w hr hB (by omega)
theorem below_box1 (w : World) (o : Obj) : Below w.heap.size w (w.alloc o) := (Below.refl _ w).alloc (Nat.le_refl _) o
/-- The case in its box, the report in its variable. -/
structure TS (w0 : World) (q g : Nat) (cs : List Value) (D F : Int) (w : World) : Prop where
  b : Blk w q 27 cs
  rp : Blk w g 43 [.int .i64 D, .int .i64 F]
  bl : Below w0.heap.size w0 w
  q0 : w0.heap.size ≤ q
  qg : q < g
section
variable {w0 w w' : World} {q g : Nat} {cs : List Value} {D F : Int}
theorem TS.keep (t : TS w0 q g cs D F w) (hb : Below w.heap.size w w') : TS w0 q g cs D F w' := ⟨t.b.keep hb t.b.lt, t.rp.keep hb t.rp.lt, t.bl.trans (hb.mono t.bl.size), t.q0, t.qg⟩
theorem TS.set (t : TS w0 q g cs D F w) (j : Nat) (v : Value) : TS w0 q g (cs.set j v) D F (w.setCell ⟨q, j, none⟩ v) := ⟨t.b.set j v, t.rp.other (by have := t.qg; omega) j v, below_set t.bl t.q0 v, t.q0, t.qg⟩
end
theorem safe_big (K : CD) (w : World) (hn : 600 < K.n) :
    Calls Try.prog 4 #[.agg #[.slice K.A K.n K.c, .int .i64 K.f.s, .int .i64 K.f.o, .int .i64 K.f.n, .int .i64 K.f.i, .int .i64 K.f.u, .slice K.oA K.no K.oc, .slice K.fA K.nf K.fc, .slice K.iA K.ni K.ic, .int .i64 K.fu]] w (TrueP w) := by
  have hd : decide ((600 : Int) < (K.n : Int)) = true := by simp; omega
  go_enter Try.func4, Try.ntmps4
  go_wp2_with fail
  refine (known_any _).mono ?_
  rintro e w2 ⟨rfl, hb2⟩
  go_wp2
  go_ret
  exact ⟨rfl, (below_box1 w _).trans (hb2.mono (by simp))⟩
theorem safe_refused (K : CD) (B : Nat) (l : List (Int × Int)) (old first ins : List Int) (w : World) (h : CR w B K l old first ins) (hB : B ≤ w.heap.size) (hn : K.n ≤ 600) (D Fu er at_ : Int) (HR : Hid (checkM K.f l = (D, Fu, er, at_))) (he : er ≠ 0) :
    Calls Try.prog 4 #[.agg #[.slice K.A K.n K.c, .int .i64 K.f.s, .int .i64 K.f.o, .int .i64 K.f.n, .int .i64 K.f.i, .int .i64 K.f.u, .slice K.oA K.no K.oc, .slice K.fA K.nf K.fc, .slice K.iA K.ni K.ic, .int .i64 K.fu]] w (TrueP w) := by
  have hd : decide ((600 : Int) < (K.n : Int)) = false := by simp; omega
  have e1 : (er != 0) = true := by simpa using he
  have HC := hide (fun W (hW : CR W B K l old first ins) (hs : B ≤ W.heap.size) => Check_any K.f B K.A K.n K.c l W hW.cl hs)
  have T0 := hide (TCs.start h hB)
  clear h
  go_enter Try.func4, Try.ntmps4
  go_wp2_with fail
  generalize w.alloc (.cells #[.slice K.A K.n K.c, .int .i64 K.f.s, .int .i64 K.f.o, .int .i64 K.f.n, .int .i64 K.f.i, .int .i64 K.f.u, .slice K.oA K.no K.oc, .slice K.fA K.nf K.fc, .slice K.iA K.ni K.ic, .int .i64 K.fu] 27) = w1 at T0 ⊢
  have hc := HC.out w1 T0.out.r T0.out.le
  rw [HR.out] at hc
  refine hc.mono ?_
  clear hc
  rintro e w2 ⟨rfl, hb2⟩
  have T2 := hide ((T0.out.keep hb2).alloc (.cells #[.int .i64 D, .int .i64 Fu] 43))
  clear T0 hb2
  go_wp2_with fail
  refine (known_any _).mono ?_
  rintro e w3 ⟨rfl, hb3⟩
  have HB := hide (T2.out.bl.trans (hb3.mono T2.out.bl.size))
  clear hb3 T2
  go_wp2
  go_ret
  exact ⟨rfl, HB.out⟩
theorem safe_walk (K : CD) (B : Nat) (l : List (Int × Int)) (old first ins : List Int) (w : World) (h : CR w B K l old first ins) (hB : B ≤ w.heap.size) (hn : K.n ≤ 600) (D Fu at_ : Int) (HR : Hid (checkM K.f l = (D, Fu, 0, at_))) :
    Calls Try.prog 4 #[.agg #[.slice K.A K.n K.c, .int .i64 K.f.s, .int .i64 K.f.o, .int .i64 K.f.n, .int .i64 K.f.i, .int .i64 K.f.u, .slice K.oA K.no K.oc, .slice K.fA K.nf K.fc, .slice K.iA K.ni K.ic, .int .i64 K.fu]] w (TrueP w) := by
  have hd : decide ((600 : Int) < (K.n : Int)) = false := by simp; omega
  have HC := hide (fun W (hW : CR W B K l old first ins) (hs : B ≤ W.heap.size) => Check_any K.f B K.A K.n K.c l W hW.cl hs)
  have hch : (checkM K.f l).2.2.1 = 0 := by rw [HR.out]
  obtain ⟨hok, _⟩ := check_fin hch
  obtain ⟨ok1, ok2, ok3, ok4, ok5⟩ := id hok
  have hl := h.lens
  have sv := safe_vm (old := fitV old K.f.o.toNat) (first := fitV first K.f.n.toNat) (ins := fitV ins K.f.i.toNat) hch (by rw [fitV_len]; omega) (by rw [fitV_len]; omega) (by rw [fitV_len]; omega)
  have r1 := fitV_rng h.ro K.f.o.toNat (by omega)
  have r2 := fitV_rng h.rf K.f.n.toNat (by omega)
  have r3 := fitV_rng h.ri K.f.i.toNat (by omega)
  have sl := vm_lens sv r1 r3 r2 h.cl.oks
  rw [HR.out] at sv sl
  simp only at sv sl
  obtain ⟨er, ce, ou, us, hV⟩ : ∃ er ce ou us, vmV K.f l (fitV old K.f.o.toNat) (fitV first K.f.n.toNat) (fitV ins K.f.i.toNat) Fu = (er, ce, ou, us) := ⟨_, _, _, _, rfl⟩
  rw [hV] at sv sl
  simp only at sv sl
  subst sv
  obtain ⟨sl1, sl2, sl3⟩ := sl
  have b1 : ((ce.length : Int) == K.f.n) = true := by rw [beq_iff_eq]; exact sl1
  have b2 : ((ou.length : Int) == K.f.u) = true := by rw [beq_iff_eq]; exact sl2
  have b3 : decide ((us : Int) ≤ Fu) = true := decide_eq_true sl3
  have HV := hide hV
  have HG := hide (And.intro r1 (And.intro r2 (And.intro r3 hok)))
  have T0 := hide (TCs.start h hB)
  clear h hch hok ok1 ok2 ok3 ok4 ok5 hl r1 r2 r3 sl1 sl2 sl3 hV
  go_enter Try.func4, Try.ntmps4
  go_wp2_with fail
  generalize w.alloc (.cells #[.slice K.A K.n K.c, .int .i64 K.f.s, .int .i64 K.f.o, .int .i64 K.f.n, .int .i64 K.f.i, .int .i64 K.f.u, .slice K.oA K.no K.oc, .slice K.fA K.nf K.fc, .slice K.iA K.ni K.ic, .int .i64 K.fu] 27) = w1 at T0 ⊢
  have hc := HC.out w1 T0.out.r T0.out.le
  rw [HR.out] at hc
  refine hc.mono ?_
  clear hc
  rintro e w2 ⟨rfl, hb2⟩
  have T2 := hide ((T0.out.keep hb2).alloc (.cells #[.int .i64 D, .int .i64 Fu] 43))
  have bg := Blk.new w2 43 [.int .i64 D, .int .i64 Fu]
  have hqg : w.heap.size < w2.heap.size := (T0.out.keep hb2).b.lt
  have S2 : Hid (TS w w.heap.size w2.heap.size (caseC K) D Fu (w2.alloc (.cells #[.int .i64 D, .int .i64 Fu] 43))) := ⟨T2.out.b, bg, T2.out.bl, Nat.le_refl _, hqg⟩
  have R2 := hide T2.out.r
  clear T0 hb2 bg T2
  go_upto_region 4 with (fail)
  generalize w2.alloc (.cells #[.int .i64 D, .int .i64 Fu] 43) = w3 at S2 R2 ⊢
  generalize w2.heap.size = g at S2 hqg ⊢
  have hq : B ≤ w.heap.size := hB
  generalize hqq : w.heap.size = q at S2 hqg hq ⊢
  have HQ := hide hqq
  clear hqq
  have c2 := S2.out.b.cell (j := 2) rfl
  have c6 := S2.out.b.cell (j := 6) rfl
  go_wp2_with fail
  have s3 : B ≤ w3.heap.size := by have := S2.out.b.lt; omega
  refine (fitted_int B K.oA K.no K.oc K.f.o old w3 R2.out.ol s3 HG.out.2.2.2.2.1.1 (by have := HG.out.2.2.2.2.1.2; omega)).mono ?_
  rintro e w4 ⟨A1, c1, rfl, o1, hb4⟩
  have S4 := hide ((S2.out.keep hb4).set 6 (.slice A1 (fitV old K.f.o.toNat).length c1))
  have R4 := hide (R2.out.keep ((hb4.mono s3).trans (below_set (Below.refl B w4) (g := q) (j := 6) hq (.slice A1 (fitV old K.f.o.toNat).length c1))) (Nat.le_refl _))
  have lq : q < w3.heap.size := S2.out.b.lt
  have O4 := hide (own_other (q := q) o1 (fun k hk => by have := (o1.lt k hk).1; omega) 6 (.slice A1 (fitV old K.f.o.toNat).length c1))
  have f6 := (S2.out.keep hb4).b.frozen 6
  have c6 := (S2.out.keep hb4).b.cell (j := 6) rfl
  clear c2 S2 R2 o1 hb4
  go_upto_region 7 with (fail)
  generalize w4.setCell ⟨q, 6, none⟩ (.slice A1 (fitV old K.f.o.toNat).length c1) = w5 at S4 R4 O4 ⊢
  clear f6 c6
  have c3 := S4.out.b.cell (j := 3) rfl
  have c7 := S4.out.b.cell (j := 7) rfl
  go_wp2_with fail
  have s5 : B ≤ w5.heap.size := by have := S4.out.b.lt; omega
  refine (fitted_int B K.fA K.nf K.fc K.f.n first w5 R4.out.fl s5 HG.out.2.2.2.2.2.1.1 (by have := HG.out.2.2.2.2.2.1.2; omega)).mono ?_
  rintro e w6 ⟨A2, c2, rfl, o2, hb6⟩
  have S6 := hide ((S4.out.keep hb6).set 7 (.slice A2 (fitV first K.f.n.toNat).length c2))
  have R6 := hide (R4.out.keep ((hb6.mono s5).trans (below_set (Below.refl B w6) (g := q) (j := 7) hq (.slice A2 (fitV first K.f.n.toNat).length c2))) (Nat.le_refl _))
  have lq5 : q < w5.heap.size := S4.out.b.lt
  have O6 := hide (And.intro (own_other (q := q) (own_below O4.out hb6 (Nat.le_refl _)) (fun k hk => by have := (O4.out.lt k hk).1; omega) 7 (.slice A2 (fitV first K.f.n.toNat).length c2)) (own_other (q := q) o2 (fun k hk => by have := (o2.lt k hk).1; omega) 7 (.slice A2 (fitV first K.f.n.toNat).length c2)))
  have f7 := (S4.out.keep hb6).b.frozen 7
  have c7 := (S4.out.keep hb6).b.cell (j := 7) rfl
  clear c3 S4 R4 O4 o2 hb6
  go_upto_region 8 with (fail)
  generalize w6.setCell ⟨q, 7, none⟩ (.slice A2 (fitV first K.f.n.toNat).length c2) = w7 at S6 R6 O6 ⊢
  clear f7 c7
  have c4 := S6.out.b.cell (j := 4) rfl
  have c8 := S6.out.b.cell (j := 8) rfl
  go_wp2_with fail
  have s7 : B ≤ w7.heap.size := by have := S6.out.b.lt; omega
  refine (fitted_int B K.iA K.ni K.ic K.f.i ins w7 R6.out.il s7 HG.out.2.2.2.2.2.2.1.1 (by have := HG.out.2.2.2.2.2.2.1.2; omega)).mono ?_
  rintro e w8 ⟨A3, c3, rfl, o3, hb8⟩
  have S8 := hide ((S6.out.keep hb8).set 8 (.slice A3 (fitV ins K.f.i.toNat).length c3))
  have R8 := hide (R6.out.keep ((hb8.mono s7).trans (below_set (Below.refl B w8) (g := q) (j := 8) hq (.slice A3 (fitV ins K.f.i.toNat).length c3))) (Nat.le_refl _))
  have lq7 : q < w7.heap.size := S6.out.b.lt
  have O8 := hide (And.intro (own_other (q := q) (own_below O6.out.1 hb8 (Nat.le_refl _)) (fun k hk => by have := (O6.out.1.lt k hk).1; omega) 8 (.slice A3 (fitV ins K.f.i.toNat).length c3)) (And.intro (own_other (q := q) (own_below O6.out.2 hb8 (Nat.le_refl _)) (fun k hk => by have := (O6.out.2.lt k hk).1; omega) 8 (.slice A3 (fitV ins K.f.i.toNat).length c3)) (own_other (q := q) o3 (fun k hk => by have := (o3.lt k hk).1; omega) 8 (.slice A3 (fitV ins K.f.i.toNat).length c3))))
  have f8 := (S6.out.keep hb8).b.frozen 8
  have c8 := (S6.out.keep hb8).b.cell (j := 8) rfl
  clear c4 S6 R6 O6 o3 hb8
  go_upto_region 9 with (fail)
  generalize w8.setCell ⟨q, 8, none⟩ (.slice A3 (fitV ins K.f.i.toNat).length c3) = w9 at S8 R8 O8 ⊢
  clear f8 c8
  have hcr : CR w9 w9.heap.size ⟨K.A, K.n, K.c, K.f, A1, (fitV old K.f.o.toNat).length, c1, A2, (fitV first K.f.n.toNat).length, c2, A3, (fitV ins K.f.i.toNat).length, c3, K.fu⟩ l (fitV old K.f.o.toNat) (fitV first K.f.n.toNat) (fitV ins K.f.i.toNat) :=
    ⟨R8.out.cl.more (by have := S8.out.b.lt; omega), Row.of_own O8.out.1, Row.of_own O8.out.2.1, Row.of_own O8.out.2.2, HG.out.1, HG.out.2.1, HG.out.2.2.1⟩
  have HCR := hide hcr
  clear hcr
  obtain ⟨n1, hn1⟩ : ∃ n1, (fitV old K.f.o.toNat).length = n1 := ⟨_, rfl⟩
  obtain ⟨n2, hn2⟩ : ∃ n2, (fitV first K.f.n.toNat).length = n2 := ⟨_, rfl⟩
  obtain ⟨n3, hn3⟩ : ∃ n3, (fitV ins K.f.i.toNat).length = n3 := ⟨_, rfl⟩
  rw [hn1, hn2, hn3] at HCR
  rw [hn1, hn2, hn3] at S8
  clear hn1 hn2 hn3 O8 R8
  have k0 := S8.out.b.cell (j := 0) rfl
  have k1 := S8.out.b.cell (j := 1) rfl
  have k2 := S8.out.b.cell (j := 2) rfl
  have k3 := S8.out.b.cell (j := 3) rfl
  have k4 := S8.out.b.cell (j := 4) rfl
  have k5 := S8.out.b.cell (j := 5) rfl
  have k6 := S8.out.b.cell (j := 6) rfl
  have k7 := S8.out.b.cell (j := 7) rfl
  have k8 := S8.out.b.cell (j := 8) rfl
  have k9 := S8.out.b.cell (j := 9) rfl
  have g1 := S8.out.rp.cell (j := 1) rfl
  go_wp2_with fail
  refine (lrun_any (K := ⟨K.A, K.n, K.c, K.f, A1, n1, c1, A2, n2, c2, A3, n3, c3, K.fu⟩) Fu w9 HCR.out (Nat.le_refl _)).mono ?_
  intro e w10 hp
  obtain ⟨X, x, X', x', rfl, _, _, hb10⟩ := runP_is (er := 0) (us := (us : Int)) hp (by rw [HV.out]) (by rw [HV.out]) (by rw [HV.out]) (by rw [HV.out]) _ _ rfl rfl
  clear hp k0 k1 k2 k3 k4 k5 k6 k7 k8 k9 g1
  have S10 := hide ((S8.out.keep hb10).keep (below_box1 w10 (.cells #[.slice X ce.length x, .slice X' ou.length x', .int .i64 (us : Int)] 33)))
  have bX := Blk.new w10 33 [.slice X ce.length x, .slice X' ou.length x', .int .i64 (us : Int)]
  clear S8 hb10
  go_upto_region 10 with (fail)
  generalize w10.alloc (.cells #[.slice X ce.length x, .slice X' ou.length x', .int .i64 (us : Int)] 33) = w11 at S10 bX ⊢
  generalize w10.heap.size = gx at bX ⊢
  have x0 := bX.cell (j := 0) rfl
  have x1 := bX.cell (j := 1) rfl
  have x2 := bX.cell (j := 2) rfl
  have k3 := S10.out.b.cell (j := 3) rfl
  have k5 := S10.out.b.cell (j := 5) rfl
  have g1 := S10.out.rp.cell (j := 1) rfl
  go_wp2_with fail
  refine (known_any w11).mono ?_
  rintro e w12 ⟨rfl, hb12⟩
  have HB := hide (S10.out.bl.trans (hb12.mono S10.out.bl.size))
  clear hb12 S10 bX x0 x1 x2 k3 k5 g1
  go_wp2
  go_ret
  exact ⟨rfl, HB.out⟩
end Go.Proofs.Ytmjelcoljmefeaa
