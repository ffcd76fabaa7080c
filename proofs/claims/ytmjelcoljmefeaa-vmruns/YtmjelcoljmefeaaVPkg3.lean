/-
  Contract of package vm: step, one theorem for each instruction and each way. (Printed by tools/vstep.py.)
-/
import Derived.Test.YtmjelcoljmefeaaVPkg2
import Derived.Deep.Cut
namespace Go.Proofs.Ytmjelcoljmefeaa
open Go.RowKit
set_option maxRecDepth 20000
set_option maxHeartbeats 2000000

section
variable {B : Nat} {P : MP} {l : List (Int × Int)} {old ins : List Int} {tA : Option Addr} {tn tc : Nat} {s : VS} {u : Nat}
theorem Mac.below {w w' : World} (h : Mac w B P l old ins tA tn tc s u) (hb : Below w.heap.size w w') : Mac w' B P l old ins tA tn tc s u :=
  have hB := hb.mono h.size
  ⟨h.m.keep hb h.m.lt, h.cl.keep hB (Nat.le_refl _), h.ol.keep hB (Nat.le_refl _), h.il.keep hB (Nat.le_refl _), h.sa.keep hb h.sa.lt, h.sb.keep hb h.sb.lt, h.sc.keep hb h.sc.lt, h.la, h.lb, h.lc, h.lt, own_below h.tk hb (Nat.le_refl _), h.ne, h.nt, h.lo⟩
/-- A step behind its first two statements: the instruction in its box, the position one on. -/
structure Pre (w0 : World) (B : Nat) (P : MP) (l : List (Int × Int)) (old ins : List Int) (tA : Option Addr) (tn tc : Nat) (o x : Int) (s : VS) (u q : Nat) (w : World) : Prop where
  mac : Mac w B P l old ins tA tn tc ⟨s.p + 1, s.st, s.sl, s.ce, s.ou⟩ u
  box : Blk w q 52 [.int .i64 o, .int .i32 x]
  bl : Below B w0 w
  qg : q ≠ P.g
theorem Pre.drew {w0 w : World} {o x : Int} {q : Nat} (h : Pre w0 B P l old ins tA tn tc o x s u q w) : Pre w0 B P l old ins tA tn tc o x s u q w.drew := ⟨h.mac.drewN 1, h.box.drew, below_dn h.bl 1, h.qg⟩
theorem pre_mk {w w1 : World} {o x : Int} (h : Mac w B P l old ins tA tn tc s u) (hb : Below (w.alloc (.cells #[.int .i64 o, .int .i32 x] 52)).heap.size (w.alloc (.cells #[.int .i64 o, .int .i32 x] 52)) w1) :
    w1.cell? ⟨P.g, 7, none⟩ = some (.int .i64 (s.p : Int)) ∧ w1.frozen? ⟨P.g, 7, none⟩ = false ∧ Pre w B P l old ins tA tn tc o x s u w.heap.size (w1.setCell ⟨P.g, 7, none⟩ (.int .i64 ((s.p : Int) + 1))) := by
  have hm := (h.alloc (.cells #[.int .i64 o, .int .i32 x] 52)).below hb
  have hbox := (Blk.new w 52 [.int .i64 o, .int .i32 x]).keep hb (by simp)
  have hB := h.size
  have hl := h.m.lt
  refine ⟨hm.m.cell (j := 7) rfl, hm.m.frozen 7, ?_, hbox.other (by omega) 7 _, below_set (((Below.refl _ _).alloc hB _).trans (hb.mono (by simp; omega))) hm.lo.1 _, by omega⟩
  have := hm.at_ (s.p + 1)
  rwa [show ((s.p + 1 : Nat) : Int) = (s.p : Int) + 1 by omega] at this
theorem step_right (w : World) (o x : Int) (h : Mac w B P l old ins tA tn tc s u) (hr : rgtE o x ≠ 0) :
    Calls Try.prog 35 #[.pointer (some ⟨P.g, 0, none⟩), .agg #[.int .i64 o, .int .i32 x]] w (Fails B (rgtE o x) w) := by
  have hB := h.size
  clear h
  obtain ⟨er, he⟩ : ∃ er, rgtE o x = er := ⟨_, rfl⟩
  have HE := hide he
  rw [he] at hr ⊢
  have e1 : (er != 0) = true := by simpa using hr
  have e2 : (er == 0) = false := by simpa using hr
  clear he hr
  go_enter Try.func35, Try.ntmps35
  go_wp2_with fail
  refine (Right_any _ _ _).mono ?_
  rw [HE.out]
  rintro e w1 ⟨rfl, hb1⟩
  go_wp2
  exact post_raise rfl ⟨rfl, ((Below.refl _ _).alloc hB _).trans (hb1.mono (by simp; omega))⟩
theorem step1_ok (w : World) (x : Int) (h : Mac w B P l old ins tA tn tc s u) (hr : rgtE 1 x = 0) (hp : s.p < 600) (hn : s.st.length < 16) :
    Calls Try.prog 35 #[.pointer (some ⟨P.g, 0, none⟩), .agg #[.int .i64 1, .int .i32 x]] w (Goes B P l old ins ⟨s.p + 1, s.st ++ [x], s.sl, s.ce, s.ou⟩ u w) := by
  have HN := hide hn
  clear hn
  have H0 := hide h
  have HE := hide hr
  clear h hr
  go_enter Try.func35, Try.ntmps35
  go_wp2_with fail
  refine (Right_any _ _ _).mono ?_
  rw [HE.out]
  rintro e w1 ⟨rfl, hb1⟩
  obtain ⟨c7, f7, HP⟩ := pre_mk H0.out hb1
  replace HP := hide HP
  clear H0 hb1
  go_upto_region 5 with (fail)
  generalize w1.setCell ⟨P.g, 7, none⟩ (.int .i64 ((s.p : Int) + 1)) = w2 at HP ⊢
  clear c7 f7 HE
  generalize w.heap.size = q at HP ⊢
  have b0 := HP.out.box.cell (j := 0) rfl
  have b1 := HP.out.box.cell (j := 1) rfl
  go_wp2_with fail
  refine (push_ok w2 x HP.out.mac HN.out).mono ?_
  rintro e w4 ⟨rfl, hg, hb⟩
  have HH := hide (And.intro hg (HP.out.bl.trans hb))
  clear hg hb
  go_wp2
  go_end0
  exact ⟨rfl, HH.out.1, HH.out.2⟩
theorem step1_bad (w : World) (x : Int) (h : Mac w B P l old ins tA tn tc s u) (hr : rgtE 1 x = 0) (hp : s.p < 600) (hn : s.st.length = 16) :
    Calls Try.prog 35 #[.pointer (some ⟨P.g, 0, none⟩), .agg #[.int .i64 1, .int .i32 x]] w (Fails B 12 w) := by
  have HN := hide hn
  clear hn
  have H0 := hide h
  have HE := hide hr
  clear h hr
  go_enter Try.func35, Try.ntmps35
  go_wp2_with fail
  refine (Right_any _ _ _).mono ?_
  rw [HE.out]
  rintro e w1 ⟨rfl, hb1⟩
  obtain ⟨c7, f7, HP⟩ := pre_mk H0.out hb1
  replace HP := hide HP
  clear H0 hb1
  go_upto_region 5 with (fail)
  generalize w1.setCell ⟨P.g, 7, none⟩ (.int .i64 ((s.p : Int) + 1)) = w2 at HP ⊢
  clear c7 f7 HE
  generalize w.heap.size = q at HP ⊢
  have b0 := HP.out.box.cell (j := 0) rfl
  have b1 := HP.out.box.cell (j := 1) rfl
  go_wp2_with fail
  refine (push_bad w2 x HP.out.mac HN.out).mono ?_
  rintro e w4 ⟨rfl, hb⟩
  exact post_raise rfl ⟨rfl, HP.out.bl.trans hb⟩
theorem step8_ok (w : World) (x : Int) (hx1 : -2147483648 ≤ x) (hx2 : x ≤ 2147483647) (h : Mac w B P l old ins tA tn tc s u) (hr : rgtE 8 x = 0) (hp : s.p < 600) (m : Nat) (hn : s.st.length = m + 1) (hm : m ≤ 15) :
    Calls Try.prog 35 #[.pointer (some ⟨P.g, 0, none⟩), .agg #[.int .i64 8, .int .i32 x]] w (Goes B P l old ins ⟨s.p + 1, s.st.take m ++ [unV x (gd s.st m)], s.sl, s.ce, s.ou⟩ u w) := by
  have HN := hide hn
  clear hn
  have H0 := hide h
  have HE := hide hr
  clear h hr
  go_enter Try.func35, Try.ntmps35
  go_wp2_with fail
  refine (Right_any _ _ _).mono ?_
  rw [HE.out]
  rintro e w1 ⟨rfl, hb1⟩
  obtain ⟨c7, f7, HP⟩ := pre_mk H0.out hb1
  replace HP := hide HP
  clear H0 hb1
  go_upto_region 5 with (fail)
  generalize w1.setCell ⟨P.g, 7, none⟩ (.int .i64 ((s.p : Int) + 1)) = w2 at HP ⊢
  clear c7 f7 HE
  generalize w.heap.size = q at HP ⊢
  have b0 := HP.out.box.cell (j := 0) rfl
  have b1 := HP.out.box.cell (j := 1) rfl
  go_wp2_with fail
  refine (unary_ok w2 x HP.out.mac m HN.out hm).mono ?_
  rintro e w4 ⟨rfl, hg, hb⟩
  have HH := hide (And.intro hg (HP.out.bl.trans hb))
  clear hg hb
  go_wp2
  go_end0
  exact ⟨rfl, HH.out.1, HH.out.2⟩
theorem step8_bad (w : World) (x : Int) (hx1 : -2147483648 ≤ x) (hx2 : x ≤ 2147483647) (h : Mac w B P l old ins tA tn tc s u) (hr : rgtE 8 x = 0) (hp : s.p < 600) (hn : s.st.length = 0) :
    Calls Try.prog 35 #[.pointer (some ⟨P.g, 0, none⟩), .agg #[.int .i64 8, .int .i32 x]] w (Fails B 12 w) := by
  have HN := hide hn
  clear hn
  have H0 := hide h
  have HE := hide hr
  clear h hr
  go_enter Try.func35, Try.ntmps35
  go_wp2_with fail
  refine (Right_any _ _ _).mono ?_
  rw [HE.out]
  rintro e w1 ⟨rfl, hb1⟩
  obtain ⟨c7, f7, HP⟩ := pre_mk H0.out hb1
  replace HP := hide HP
  clear H0 hb1
  go_upto_region 5 with (fail)
  generalize w1.setCell ⟨P.g, 7, none⟩ (.int .i64 ((s.p : Int) + 1)) = w2 at HP ⊢
  clear c7 f7 HE
  generalize w.heap.size = q at HP ⊢
  have b0 := HP.out.box.cell (j := 0) rfl
  have b1 := HP.out.box.cell (j := 1) rfl
  go_wp2_with fail
  refine (unary_bad w2 x HP.out.mac HN.out).mono ?_
  rintro e w4 ⟨rfl, hb⟩
  exact post_raise rfl ⟨rfl, HP.out.bl.trans hb⟩
theorem step9_ok (w : World) (x : Int) (hx1 : -2147483648 ≤ x) (hx2 : x ≤ 2147483647) (h : Mac w B P l old ins tA tn tc s u) (hr : rgtE 9 x = 0) (hp : s.p < 600) (m : Nat) (hn : s.st.length = m + 2) (hm : m ≤ 14) :
    Calls Try.prog 35 #[.pointer (some ⟨P.g, 0, none⟩), .agg #[.int .i64 9, .int .i32 x]] w (Goes B P l old ins ⟨s.p + 1, s.st.take m ++ [binV x (gd s.st m) (gd s.st (m + 1))], s.sl, s.ce, s.ou⟩ u w) := by
  have HN := hide hn
  clear hn
  have H0 := hide h
  have HE := hide hr
  clear h hr
  go_enter Try.func35, Try.ntmps35
  go_wp2_with fail
  refine (Right_any _ _ _).mono ?_
  rw [HE.out]
  rintro e w1 ⟨rfl, hb1⟩
  obtain ⟨c7, f7, HP⟩ := pre_mk H0.out hb1
  replace HP := hide HP
  clear H0 hb1
  go_upto_region 5 with (fail)
  generalize w1.setCell ⟨P.g, 7, none⟩ (.int .i64 ((s.p : Int) + 1)) = w2 at HP ⊢
  clear c7 f7 HE
  generalize w.heap.size = q at HP ⊢
  have b0 := HP.out.box.cell (j := 0) rfl
  have b1 := HP.out.box.cell (j := 1) rfl
  go_wp2_with fail
  refine (binary_ok w2 x HP.out.mac m HN.out hm).mono ?_
  rintro e w4 ⟨rfl, hg, hb⟩
  have HH := hide (And.intro hg (HP.out.bl.trans hb))
  clear hg hb
  go_wp2
  go_end0
  exact ⟨rfl, HH.out.1, HH.out.2⟩
theorem step9_bad0 (w : World) (x : Int) (hx1 : -2147483648 ≤ x) (hx2 : x ≤ 2147483647) (h : Mac w B P l old ins tA tn tc s u) (hr : rgtE 9 x = 0) (hp : s.p < 600) (hn : s.st.length = 0) :
    Calls Try.prog 35 #[.pointer (some ⟨P.g, 0, none⟩), .agg #[.int .i64 9, .int .i32 x]] w (Fails B 12 w) := by
  have HN := hide hn
  clear hn
  have H0 := hide h
  have HE := hide hr
  clear h hr
  go_enter Try.func35, Try.ntmps35
  go_wp2_with fail
  refine (Right_any _ _ _).mono ?_
  rw [HE.out]
  rintro e w1 ⟨rfl, hb1⟩
  obtain ⟨c7, f7, HP⟩ := pre_mk H0.out hb1
  replace HP := hide HP
  clear H0 hb1
  go_upto_region 5 with (fail)
  generalize w1.setCell ⟨P.g, 7, none⟩ (.int .i64 ((s.p : Int) + 1)) = w2 at HP ⊢
  clear c7 f7 HE
  generalize w.heap.size = q at HP ⊢
  have b0 := HP.out.box.cell (j := 0) rfl
  have b1 := HP.out.box.cell (j := 1) rfl
  go_wp2_with fail
  refine (binary_bad0 w2 x HP.out.mac HN.out).mono ?_
  rintro e w4 ⟨rfl, hb⟩
  exact post_raise rfl ⟨rfl, HP.out.bl.trans hb⟩
theorem step9_bad1 (w : World) (x : Int) (hx1 : -2147483648 ≤ x) (hx2 : x ≤ 2147483647) (h : Mac w B P l old ins tA tn tc s u) (hr : rgtE 9 x = 0) (hp : s.p < 600) (hn : s.st.length = 1) :
    Calls Try.prog 35 #[.pointer (some ⟨P.g, 0, none⟩), .agg #[.int .i64 9, .int .i32 x]] w (Fails B 12 w) := by
  have HN := hide hn
  clear hn
  have H0 := hide h
  have HE := hide hr
  clear h hr
  go_enter Try.func35, Try.ntmps35
  go_wp2_with fail
  refine (Right_any _ _ _).mono ?_
  rw [HE.out]
  rintro e w1 ⟨rfl, hb1⟩
  obtain ⟨c7, f7, HP⟩ := pre_mk H0.out hb1
  replace HP := hide HP
  clear H0 hb1
  go_upto_region 5 with (fail)
  generalize w1.setCell ⟨P.g, 7, none⟩ (.int .i64 ((s.p : Int) + 1)) = w2 at HP ⊢
  clear c7 f7 HE
  generalize w.heap.size = q at HP ⊢
  have b0 := HP.out.box.cell (j := 0) rfl
  have b1 := HP.out.box.cell (j := 1) rfl
  go_wp2_with fail
  refine (binary_bad1 w2 x HP.out.mac HN.out).mono ?_
  rintro e w4 ⟨rfl, hb⟩
  exact post_raise rfl ⟨rfl, HP.out.bl.trans hb⟩
theorem step10_ok (w : World) (k : Nat) (h : Mac w B P l old ins tA tn tc s u) (hr : rgtE 10 (k : Int) = 0) (hp : s.p < 600) (hc : P.cn ≤ 600) (h1 : s.p + 1 ≤ P.cn) (h2 : s.p + 1 + k ≤ P.cn) :
    Calls Try.prog 35 #[.pointer (some ⟨P.g, 0, none⟩), .agg #[.int .i64 10, .int .i32 (k : Int)]] w (Goes B P l old ins ⟨s.p + 1 + k, s.st, s.sl, s.ce, s.ou⟩ u w) := by
  have HN := hide (And.intro hc (And.intro h1 h2))
  clear hc h1 h2
  have H0 := hide h
  have HE := hide hr
  clear h hr
  go_enter Try.func35, Try.ntmps35
  go_wp2_with fail
  refine (Right_any _ _ _).mono ?_
  rw [HE.out]
  rintro e w1 ⟨rfl, hb1⟩
  obtain ⟨c7, f7, HP⟩ := pre_mk H0.out hb1
  replace HP := hide HP
  clear H0 hb1
  go_upto_region 5 with (fail)
  generalize w1.setCell ⟨P.g, 7, none⟩ (.int .i64 ((s.p : Int) + 1)) = w2 at HP ⊢
  clear c7 f7 HE
  generalize w.heap.size = q at HP ⊢
  have b0 := HP.out.box.cell (j := 0) rfl
  have b1 := HP.out.box.cell (j := 1) rfl
  go_wp2_with fail
  refine (pass_ok w2 k HP.out.mac HN.out.1 HN.out.2.1 HN.out.2.2).mono ?_
  rintro e w4 ⟨rfl, hg, hb⟩
  have HH := hide (And.intro hg (HP.out.bl.trans hb))
  clear hg hb
  go_wp2
  go_end0
  exact ⟨rfl, HH.out.1, HH.out.2⟩
theorem step10_bad (w : World) (k : Nat) (hk2 : k ≤ 2147483647) (h : Mac w B P l old ins tA tn tc s u) (hr : rgtE 10 (k : Int) = 0) (hp : s.p < 600) (hc : P.cn ≤ 600) (h1 : s.p + 1 ≤ P.cn) (h2 : P.cn < s.p + 1 + k)  :
    Calls Try.prog 35 #[.pointer (some ⟨P.g, 0, none⟩), .agg #[.int .i64 10, .int .i32 (k : Int)]] w (Fails B 11 w) := by
  have HN := hide (And.intro hc (And.intro h1 h2))
  clear hc h1 h2
  have H0 := hide h
  have HE := hide hr
  clear h hr
  go_enter Try.func35, Try.ntmps35
  go_wp2_with fail
  refine (Right_any _ _ _).mono ?_
  rw [HE.out]
  rintro e w1 ⟨rfl, hb1⟩
  obtain ⟨c7, f7, HP⟩ := pre_mk H0.out hb1
  replace HP := hide HP
  clear H0 hb1
  go_upto_region 5 with (fail)
  generalize w1.setCell ⟨P.g, 7, none⟩ (.int .i64 ((s.p : Int) + 1)) = w2 at HP ⊢
  clear c7 f7 HE
  generalize w.heap.size = q at HP ⊢
  have b0 := HP.out.box.cell (j := 0) rfl
  have b1 := HP.out.box.cell (j := 1) rfl
  go_wp2_with fail
  refine (pass_bad w2 k HP.out.mac HN.out.1 HN.out.2.1 HN.out.2.2 hk2).mono ?_
  rintro e w4 ⟨rfl, hb⟩
  exact post_raise rfl ⟨rfl, HP.out.bl.trans hb⟩
theorem step11_next (w : World) (k : Nat) (h : Mac w B P l old ins tA tn tc s u) (hr : rgtE 11 (k : Int) = 0) (hp : s.p < 600) (m : Nat) (hn : s.st.length = m + 1) (hm : m ≤ 15) (hc : P.cn ≤ 600) (h1 : s.p + 1 ≤ P.cn) (hv : (gd s.st m == 0) = false) :
    Calls Try.prog 35 #[.pointer (some ⟨P.g, 0, none⟩), .agg #[.int .i64 11, .int .i32 (k : Int)]] w (Goes B P l old ins ⟨s.p + 1, s.st.take m, s.sl, s.ce, s.ou⟩ u w) := by
  have HN := hide (And.intro hc (And.intro h1 hn))
  have HV := hide hv
  clear hc h1 hn
  clear hv
  have H0 := hide h
  have HE := hide hr
  clear h hr
  go_enter Try.func35, Try.ntmps35
  go_wp2_with fail
  refine (Right_any _ _ _).mono ?_
  rw [HE.out]
  rintro e w1 ⟨rfl, hb1⟩
  obtain ⟨c7, f7, HP⟩ := pre_mk H0.out hb1
  replace HP := hide HP
  clear H0 hb1
  go_upto_region 5 with (fail)
  generalize w1.setCell ⟨P.g, 7, none⟩ (.int .i64 ((s.p : Int) + 1)) = w2 at HP ⊢
  clear c7 f7 HE
  generalize w.heap.size = q at HP ⊢
  have b0 := HP.out.box.cell (j := 0) rfl
  have b1 := HP.out.box.cell (j := 1) rfl
  go_wp2_with fail
  refine (pop_ok w2 HP.out.mac m HN.out.2.2 hm).mono ?_
  rintro e w3 ⟨rfl, ⟨tA3, tc3, h3, hkp⟩, hb3⟩
  have hbx := hkp.blk HP.out.box (by simpa using HP.out.qg)
  have d1 := hbx.cell (j := 1) rfl
  replace HP := hide (HP.out.bl.trans hb3)
  obtain ⟨v, hv⟩ : ∃ v, gd s.st m = v := ⟨_, rfl⟩
  rw [hv] at HV ⊢
  clear hkp hb3 hbx hv b0 b1
  have hv := HV.out
  have H3 := hide h3
  clear h3
  go_wp2
  go_end0
  exact ⟨rfl, ⟨_, _, H3.out⟩, HP.out⟩
theorem step11_ok (w : World) (k : Nat) (h : Mac w B P l old ins tA tn tc s u) (hr : rgtE 11 (k : Int) = 0) (hp : s.p < 600) (m : Nat) (hn : s.st.length = m + 1) (hm : m ≤ 15) (hc : P.cn ≤ 600) (h1 : s.p + 1 ≤ P.cn) (hv : (gd s.st m == 0) = true) (h2 : s.p + 1 + k ≤ P.cn) :
    Calls Try.prog 35 #[.pointer (some ⟨P.g, 0, none⟩), .agg #[.int .i64 11, .int .i32 (k : Int)]] w (Goes B P l old ins ⟨s.p + 1 + k, s.st.take m, s.sl, s.ce, s.ou⟩ u w) := by
  have HN := hide (And.intro hc (And.intro h1 hn))
  have HV := hide hv
  clear hc h1 hn
  clear hv
  have H0 := hide h
  have HE := hide hr
  clear h hr
  go_enter Try.func35, Try.ntmps35
  go_wp2_with fail
  refine (Right_any _ _ _).mono ?_
  rw [HE.out]
  rintro e w1 ⟨rfl, hb1⟩
  obtain ⟨c7, f7, HP⟩ := pre_mk H0.out hb1
  replace HP := hide HP
  clear H0 hb1
  go_upto_region 5 with (fail)
  generalize w1.setCell ⟨P.g, 7, none⟩ (.int .i64 ((s.p : Int) + 1)) = w2 at HP ⊢
  clear c7 f7 HE
  generalize w.heap.size = q at HP ⊢
  have b0 := HP.out.box.cell (j := 0) rfl
  have b1 := HP.out.box.cell (j := 1) rfl
  go_wp2_with fail
  refine (pop_ok w2 HP.out.mac m HN.out.2.2 hm).mono ?_
  rintro e w3 ⟨rfl, ⟨tA3, tc3, h3, hkp⟩, hb3⟩
  have hbx := hkp.blk HP.out.box (by simpa using HP.out.qg)
  have d1 := hbx.cell (j := 1) rfl
  replace HP := hide (HP.out.bl.trans hb3)
  obtain ⟨v, hv⟩ : ∃ v, gd s.st m = v := ⟨_, rfl⟩
  rw [hv] at HV ⊢
  clear hkp hb3 hbx hv b0 b1
  have hv := HV.out
  have H3 := hide h3
  clear h3
  go_wp2_with fail
  refine (pass_ok w3 k H3.out HN.out.1 HN.out.2.1 h2).mono ?_
  rintro e w4 ⟨rfl, hg, hb⟩
  have HH := hide (And.intro hg (HP.out.trans hb))
  clear hg hb
  go_wp2
  go_end0
  exact ⟨rfl, HH.out.1, HH.out.2⟩
theorem step11_bad (w : World) (k : Nat) (hk2 : k ≤ 2147483647) (h : Mac w B P l old ins tA tn tc s u) (hr : rgtE 11 (k : Int) = 0) (hp : s.p < 600) (m : Nat) (hn : s.st.length = m + 1) (hm : m ≤ 15) (hc : P.cn ≤ 600) (h1 : s.p + 1 ≤ P.cn) (hv : (gd s.st m == 0) = true) (h2 : P.cn < s.p + 1 + k) :
    Calls Try.prog 35 #[.pointer (some ⟨P.g, 0, none⟩), .agg #[.int .i64 11, .int .i32 (k : Int)]] w (Fails B 11 w) := by
  have HN := hide (And.intro hc (And.intro h1 hn))
  have HV := hide hv
  clear hc h1 hn
  clear hv
  have H0 := hide h
  have HE := hide hr
  clear h hr
  go_enter Try.func35, Try.ntmps35
  go_wp2_with fail
  refine (Right_any _ _ _).mono ?_
  rw [HE.out]
  rintro e w1 ⟨rfl, hb1⟩
  obtain ⟨c7, f7, HP⟩ := pre_mk H0.out hb1
  replace HP := hide HP
  clear H0 hb1
  go_upto_region 5 with (fail)
  generalize w1.setCell ⟨P.g, 7, none⟩ (.int .i64 ((s.p : Int) + 1)) = w2 at HP ⊢
  clear c7 f7 HE
  generalize w.heap.size = q at HP ⊢
  have b0 := HP.out.box.cell (j := 0) rfl
  have b1 := HP.out.box.cell (j := 1) rfl
  go_wp2_with fail
  refine (pop_ok w2 HP.out.mac m HN.out.2.2 hm).mono ?_
  rintro e w3 ⟨rfl, ⟨tA3, tc3, h3, hkp⟩, hb3⟩
  have hbx := hkp.blk HP.out.box (by simpa using HP.out.qg)
  have d1 := hbx.cell (j := 1) rfl
  replace HP := hide (HP.out.bl.trans hb3)
  obtain ⟨v, hv⟩ : ∃ v, gd s.st m = v := ⟨_, rfl⟩
  rw [hv] at HV ⊢
  clear hkp hb3 hbx hv b0 b1
  have hv := HV.out
  have H3 := hide h3
  clear h3
  go_wp2_with fail
  refine (pass_bad w3 k H3.out HN.out.1 HN.out.2.1 h2 hk2).mono ?_
  rintro e w4 ⟨rfl, hb⟩
  exact post_raise rfl ⟨rfl, HP.out.trans hb⟩
theorem step11_empty (w : World) (k : Nat) (h : Mac w B P l old ins tA tn tc s u) (hr : rgtE 11 (k : Int) = 0) (hp : s.p < 600) (hn : s.st.length = 0) :
    Calls Try.prog 35 #[.pointer (some ⟨P.g, 0, none⟩), .agg #[.int .i64 11, .int .i32 (k : Int)]] w (Fails B 12 w) := by
  have HN := hide hn
  clear hn
  have H0 := hide h
  have HE := hide hr
  clear h hr
  go_enter Try.func35, Try.ntmps35
  go_wp2_with fail
  refine (Right_any _ _ _).mono ?_
  rw [HE.out]
  rintro e w1 ⟨rfl, hb1⟩
  obtain ⟨c7, f7, HP⟩ := pre_mk H0.out hb1
  replace HP := hide HP
  clear H0 hb1
  go_upto_region 5 with (fail)
  generalize w1.setCell ⟨P.g, 7, none⟩ (.int .i64 ((s.p : Int) + 1)) = w2 at HP ⊢
  clear c7 f7 HE
  generalize w.heap.size = q at HP ⊢
  have b0 := HP.out.box.cell (j := 0) rfl
  have b1 := HP.out.box.cell (j := 1) rfl
  go_wp2_with fail
  refine (pop_bad w2 HP.out.mac HN.out).mono ?_
  rintro e w4 ⟨rfl, hb⟩
  exact post_raise rfl ⟨rfl, HP.out.bl.trans hb⟩
theorem step2_ok (w : World) (k : Nat) (h : Mac w B P l old ins tA tn tc s u) (hr : rgtE 2 (k : Int) = 0) (hp : s.p < 600) (hk : k < s.sl.length) (hz : P.na ≤ 1000) (hn : s.st.length < 16) :
    Calls Try.prog 35 #[.pointer (some ⟨P.g, 0, none⟩), .agg #[.int .i64 2, .int .i32 (k : Int)]] w (Goes B P l old ins ⟨s.p + 1, s.st ++ [gd s.sl k], s.sl, s.ce, s.ou⟩ u w) := by
  have HN := hide (And.intro hk hn)
  clear hk hn
  have H0 := hide h
  have HE := hide hr
  clear h hr
  go_enter Try.func35, Try.ntmps35
  go_wp2_with fail
  refine (Right_any _ _ _).mono ?_
  rw [HE.out]
  rintro e w1 ⟨rfl, hb1⟩
  obtain ⟨c7, f7, HP⟩ := pre_mk H0.out hb1
  replace HP := hide HP
  clear H0 hb1
  go_upto_region 5 with (fail)
  generalize w1.setCell ⟨P.g, 7, none⟩ (.int .i64 ((s.p : Int) + 1)) = w2 at HP ⊢
  clear c7 f7 HE
  generalize w.heap.size = q at HP ⊢
  have b0 := HP.out.box.cell (j := 0) rfl
  have b1 := HP.out.box.cell (j := 1) rfl
  go_upto_region 9 with (fail)
  refine wp_region_still_tail 10 (by kernel_rfl) (by kernel_rfl) ?_
  simp only [List.take_succ_cons, List.take_zero, List.drop_succ_cons, List.drop_zero]
  clear b0 b1
  replace HP := hide HP.out.drew
  rw [show ({ heap := w2.heap, tape := w2.tape, drawn := w2.drawn + 1, os := w2.os, output := w2.output } : World) = w2.drew from rfl]
  generalize w2.drew = w3 at HP ⊢
  have b1 := HP.out.box.cell (j := 1) rfl
  have cm := HP.out.mac.m.cell (j := 3) rfl
  have cv := HP.out.mac.sa.cell (c32_at HN.out.1)
  have hk := HN.out.1
  rw [HP.out.mac.la] at hk
  have CP := place_at P.a P.na P.na k w3 hk hz
  repeat still_step
  still_call CP
  clear CP
  repeat still_step
  refine wpStill_nil ?_
  go_wp2_with fail
  refine (push_ok w3 (gd s.sl k) HP.out.mac HN.out.2).mono ?_
  rintro e w4 ⟨rfl, hg, hb⟩
  have HH := hide (And.intro hg (HP.out.bl.trans hb))
  clear hg hb
  go_wp2
  go_end0
  exact ⟨rfl, HH.out.1, HH.out.2⟩
theorem step2_full (w : World) (k : Nat) (h : Mac w B P l old ins tA tn tc s u) (hr : rgtE 2 (k : Int) = 0) (hp : s.p < 600) (hk : k < s.sl.length) (hz : P.na ≤ 1000) (hn : s.st.length = 16) :
    Calls Try.prog 35 #[.pointer (some ⟨P.g, 0, none⟩), .agg #[.int .i64 2, .int .i32 (k : Int)]] w (Fails B 12 w) := by
  have HN := hide (And.intro hk hn)
  clear hk hn
  have H0 := hide h
  have HE := hide hr
  clear h hr
  go_enter Try.func35, Try.ntmps35
  go_wp2_with fail
  refine (Right_any _ _ _).mono ?_
  rw [HE.out]
  rintro e w1 ⟨rfl, hb1⟩
  obtain ⟨c7, f7, HP⟩ := pre_mk H0.out hb1
  replace HP := hide HP
  clear H0 hb1
  go_upto_region 5 with (fail)
  generalize w1.setCell ⟨P.g, 7, none⟩ (.int .i64 ((s.p : Int) + 1)) = w2 at HP ⊢
  clear c7 f7 HE
  generalize w.heap.size = q at HP ⊢
  have b0 := HP.out.box.cell (j := 0) rfl
  have b1 := HP.out.box.cell (j := 1) rfl
  go_upto_region 9 with (fail)
  refine wp_region_still_tail 10 (by kernel_rfl) (by kernel_rfl) ?_
  simp only [List.take_succ_cons, List.take_zero, List.drop_succ_cons, List.drop_zero]
  clear b0 b1
  replace HP := hide HP.out.drew
  rw [show ({ heap := w2.heap, tape := w2.tape, drawn := w2.drawn + 1, os := w2.os, output := w2.output } : World) = w2.drew from rfl]
  generalize w2.drew = w3 at HP ⊢
  have b1 := HP.out.box.cell (j := 1) rfl
  have cm := HP.out.mac.m.cell (j := 3) rfl
  have cv := HP.out.mac.sa.cell (c32_at HN.out.1)
  have hk := HN.out.1
  rw [HP.out.mac.la] at hk
  have CP := place_at P.a P.na P.na k w3 hk hz
  repeat still_step
  still_call CP
  clear CP
  repeat still_step
  refine wpStill_nil ?_
  go_wp2_with fail
  refine (push_bad w3 (gd s.sl k) HP.out.mac HN.out.2).mono ?_
  rintro e w4 ⟨rfl, hb⟩
  exact post_raise rfl ⟨rfl, HP.out.bl.trans hb⟩
theorem step4_ok (w : World) (k : Nat) (h : Mac w B P l old ins tA tn tc s u) (hr : rgtE 4 (k : Int) = 0) (hp : s.p < 600) (hk : k < old.length) (hz : P.on ≤ 1000) (hn : s.st.length < 16) :
    Calls Try.prog 35 #[.pointer (some ⟨P.g, 0, none⟩), .agg #[.int .i64 4, .int .i32 (k : Int)]] w (Goes B P l old ins ⟨s.p + 1, s.st ++ [gd old k], s.sl, s.ce, s.ou⟩ u w) := by
  have HN := hide (And.intro hk hn)
  clear hk hn
  have H0 := hide h
  have HE := hide hr
  clear h hr
  go_enter Try.func35, Try.ntmps35
  go_wp2_with fail
  refine (Right_any _ _ _).mono ?_
  rw [HE.out]
  rintro e w1 ⟨rfl, hb1⟩
  obtain ⟨c7, f7, HP⟩ := pre_mk H0.out hb1
  replace HP := hide HP
  clear H0 hb1
  go_upto_region 5 with (fail)
  generalize w1.setCell ⟨P.g, 7, none⟩ (.int .i64 ((s.p : Int) + 1)) = w2 at HP ⊢
  clear c7 f7 HE
  generalize w.heap.size = q at HP ⊢
  have b0 := HP.out.box.cell (j := 0) rfl
  have b1 := HP.out.box.cell (j := 1) rfl
  go_upto_region 11 with (fail)
  refine wp_region_still_tail 10 (by kernel_rfl) (by kernel_rfl) ?_
  simp only [List.take_succ_cons, List.take_zero, List.drop_succ_cons, List.drop_zero]
  clear b0 b1
  replace HP := hide HP.out.drew
  rw [show ({ heap := w2.heap, tape := w2.tape, drawn := w2.drawn + 1, os := w2.os, output := w2.output } : World) = w2.drew from rfl]
  generalize w2.drew = w3 at HP ⊢
  have b1 := HP.out.box.cell (j := 1) rfl
  have cm := HP.out.mac.m.cell (j := 1) rfl
  have hk := HN.out.1
  have hk2 : k < P.on := by have := HP.out.mac.ol.len; rw [c32_len] at this; omega
  obtain ⟨bo, oo, uo, hA, _, huo, cv⟩ := HP.out.mac.ol.get hk2
  rw [c32_at hk] at huo
  obtain rfl := Option.some.inj huo
  rw [hA] at cm
  clear huo hA
  have CP := place_in bo oo P.on P.oc k w3 hk2 hz
  repeat still_step
  still_call CP
  clear CP
  repeat still_step
  refine wpStill_nil ?_
  go_wp2_with fail
  refine (push_ok w3 (gd old k) HP.out.mac HN.out.2).mono ?_
  rintro e w4 ⟨rfl, hg, hb⟩
  have HH := hide (And.intro hg (HP.out.bl.trans hb))
  clear hg hb
  go_wp2
  go_end0
  exact ⟨rfl, HH.out.1, HH.out.2⟩
theorem step4_full (w : World) (k : Nat) (h : Mac w B P l old ins tA tn tc s u) (hr : rgtE 4 (k : Int) = 0) (hp : s.p < 600) (hk : k < old.length) (hz : P.on ≤ 1000) (hn : s.st.length = 16) :
    Calls Try.prog 35 #[.pointer (some ⟨P.g, 0, none⟩), .agg #[.int .i64 4, .int .i32 (k : Int)]] w (Fails B 12 w) := by
  have HN := hide (And.intro hk hn)
  clear hk hn
  have H0 := hide h
  have HE := hide hr
  clear h hr
  go_enter Try.func35, Try.ntmps35
  go_wp2_with fail
  refine (Right_any _ _ _).mono ?_
  rw [HE.out]
  rintro e w1 ⟨rfl, hb1⟩
  obtain ⟨c7, f7, HP⟩ := pre_mk H0.out hb1
  replace HP := hide HP
  clear H0 hb1
  go_upto_region 5 with (fail)
  generalize w1.setCell ⟨P.g, 7, none⟩ (.int .i64 ((s.p : Int) + 1)) = w2 at HP ⊢
  clear c7 f7 HE
  generalize w.heap.size = q at HP ⊢
  have b0 := HP.out.box.cell (j := 0) rfl
  have b1 := HP.out.box.cell (j := 1) rfl
  go_upto_region 11 with (fail)
  refine wp_region_still_tail 10 (by kernel_rfl) (by kernel_rfl) ?_
  simp only [List.take_succ_cons, List.take_zero, List.drop_succ_cons, List.drop_zero]
  clear b0 b1
  replace HP := hide HP.out.drew
  rw [show ({ heap := w2.heap, tape := w2.tape, drawn := w2.drawn + 1, os := w2.os, output := w2.output } : World) = w2.drew from rfl]
  generalize w2.drew = w3 at HP ⊢
  have b1 := HP.out.box.cell (j := 1) rfl
  have cm := HP.out.mac.m.cell (j := 1) rfl
  have hk := HN.out.1
  have hk2 : k < P.on := by have := HP.out.mac.ol.len; rw [c32_len] at this; omega
  obtain ⟨bo, oo, uo, hA, _, huo, cv⟩ := HP.out.mac.ol.get hk2
  rw [c32_at hk] at huo
  obtain rfl := Option.some.inj huo
  rw [hA] at cm
  clear huo hA
  have CP := place_in bo oo P.on P.oc k w3 hk2 hz
  repeat still_step
  still_call CP
  clear CP
  repeat still_step
  refine wpStill_nil ?_
  go_wp2_with fail
  refine (push_bad w3 (gd old k) HP.out.mac HN.out.2).mono ?_
  rintro e w4 ⟨rfl, hb⟩
  exact post_raise rfl ⟨rfl, HP.out.bl.trans hb⟩
theorem step6_ok (w : World) (k : Nat) (h : Mac w B P l old ins tA tn tc s u) (hr : rgtE 6 (k : Int) = 0) (hp : s.p < 600) (hk : k < ins.length) (hz : P.ik ≤ 1000) (hn : s.st.length < 16) :
    Calls Try.prog 35 #[.pointer (some ⟨P.g, 0, none⟩), .agg #[.int .i64 6, .int .i32 (k : Int)]] w (Goes B P l old ins ⟨s.p + 1, s.st ++ [gd ins k], s.sl, s.ce, s.ou⟩ u w) := by
  have HN := hide (And.intro hk hn)
  clear hk hn
  have H0 := hide h
  have HE := hide hr
  clear h hr
  go_enter Try.func35, Try.ntmps35
  go_wp2_with fail
  refine (Right_any _ _ _).mono ?_
  rw [HE.out]
  rintro e w1 ⟨rfl, hb1⟩
  obtain ⟨c7, f7, HP⟩ := pre_mk H0.out hb1
  replace HP := hide HP
  clear H0 hb1
  go_upto_region 5 with (fail)
  generalize w1.setCell ⟨P.g, 7, none⟩ (.int .i64 ((s.p : Int) + 1)) = w2 at HP ⊢
  clear c7 f7 HE
  generalize w.heap.size = q at HP ⊢
  have b0 := HP.out.box.cell (j := 0) rfl
  have b1 := HP.out.box.cell (j := 1) rfl
  go_upto_region 13 with (fail)
  refine wp_region_still_tail 10 (by kernel_rfl) (by kernel_rfl) ?_
  simp only [List.take_succ_cons, List.take_zero, List.drop_succ_cons, List.drop_zero]
  clear b0 b1
  replace HP := hide HP.out.drew
  rw [show ({ heap := w2.heap, tape := w2.tape, drawn := w2.drawn + 1, os := w2.os, output := w2.output } : World) = w2.drew from rfl]
  generalize w2.drew = w3 at HP ⊢
  have b1 := HP.out.box.cell (j := 1) rfl
  have cm := HP.out.mac.m.cell (j := 2) rfl
  have hk := HN.out.1
  have hk2 : k < P.ik := by have := HP.out.mac.il.len; rw [c32_len] at this; omega
  obtain ⟨bo, oo, uo, hA, _, huo, cv⟩ := HP.out.mac.il.get hk2
  rw [c32_at hk] at huo
  obtain rfl := Option.some.inj huo
  rw [hA] at cm
  clear huo hA
  have CP := place_in bo oo P.ik P.ic k w3 hk2 hz
  repeat still_step
  still_call CP
  clear CP
  repeat still_step
  refine wpStill_nil ?_
  go_wp2_with fail
  refine (push_ok w3 (gd ins k) HP.out.mac HN.out.2).mono ?_
  rintro e w4 ⟨rfl, hg, hb⟩
  have HH := hide (And.intro hg (HP.out.bl.trans hb))
  clear hg hb
  go_wp2
  go_end0
  exact ⟨rfl, HH.out.1, HH.out.2⟩
theorem step6_full (w : World) (k : Nat) (h : Mac w B P l old ins tA tn tc s u) (hr : rgtE 6 (k : Int) = 0) (hp : s.p < 600) (hk : k < ins.length) (hz : P.ik ≤ 1000) (hn : s.st.length = 16) :
    Calls Try.prog 35 #[.pointer (some ⟨P.g, 0, none⟩), .agg #[.int .i64 6, .int .i32 (k : Int)]] w (Fails B 12 w) := by
  have HN := hide (And.intro hk hn)
  clear hk hn
  have H0 := hide h
  have HE := hide hr
  clear h hr
  go_enter Try.func35, Try.ntmps35
  go_wp2_with fail
  refine (Right_any _ _ _).mono ?_
  rw [HE.out]
  rintro e w1 ⟨rfl, hb1⟩
  obtain ⟨c7, f7, HP⟩ := pre_mk H0.out hb1
  replace HP := hide HP
  clear H0 hb1
  go_upto_region 5 with (fail)
  generalize w1.setCell ⟨P.g, 7, none⟩ (.int .i64 ((s.p : Int) + 1)) = w2 at HP ⊢
  clear c7 f7 HE
  generalize w.heap.size = q at HP ⊢
  have b0 := HP.out.box.cell (j := 0) rfl
  have b1 := HP.out.box.cell (j := 1) rfl
  go_upto_region 13 with (fail)
  refine wp_region_still_tail 10 (by kernel_rfl) (by kernel_rfl) ?_
  simp only [List.take_succ_cons, List.take_zero, List.drop_succ_cons, List.drop_zero]
  clear b0 b1
  replace HP := hide HP.out.drew
  rw [show ({ heap := w2.heap, tape := w2.tape, drawn := w2.drawn + 1, os := w2.os, output := w2.output } : World) = w2.drew from rfl]
  generalize w2.drew = w3 at HP ⊢
  have b1 := HP.out.box.cell (j := 1) rfl
  have cm := HP.out.mac.m.cell (j := 2) rfl
  have hk := HN.out.1
  have hk2 : k < P.ik := by have := HP.out.mac.il.len; rw [c32_len] at this; omega
  obtain ⟨bo, oo, uo, hA, _, huo, cv⟩ := HP.out.mac.il.get hk2
  rw [c32_at hk] at huo
  obtain rfl := Option.some.inj huo
  rw [hA] at cm
  clear huo hA
  have CP := place_in bo oo P.ik P.ic k w3 hk2 hz
  repeat still_step
  still_call CP
  clear CP
  repeat still_step
  refine wpStill_nil ?_
  go_wp2_with fail
  refine (push_bad w3 (gd ins k) HP.out.mac HN.out.2).mono ?_
  rintro e w4 ⟨rfl, hb⟩
  exact post_raise rfl ⟨rfl, HP.out.bl.trans hb⟩
theorem step3_ok (w : World) (k : Nat) (h : Mac w B P l old ins tA tn tc s u) (hr : rgtE 3 (k : Int) = 0) (hp : s.p < 600) (hk : k < s.sl.length) (hz : P.na ≤ 1000) (m : Nat) (hn : s.st.length = m + 1) (hm : m ≤ 15) :
    Calls Try.prog 35 #[.pointer (some ⟨P.g, 0, none⟩), .agg #[.int .i64 3, .int .i32 (k : Int)]] w (Goes B P l old ins ⟨s.p + 1, s.st.take m, s.sl.set k (gd s.st m), s.ce, s.ou⟩ u w) := by
  have HN := hide (And.intro hk hn)
  clear hk hn
  have H0 := hide h
  have HE := hide hr
  clear h hr
  go_enter Try.func35, Try.ntmps35
  go_wp2_with fail
  refine (Right_any _ _ _).mono ?_
  rw [HE.out]
  rintro e w1 ⟨rfl, hb1⟩
  obtain ⟨c7, f7, HP⟩ := pre_mk H0.out hb1
  replace HP := hide HP
  clear H0 hb1
  go_upto_region 5 with (fail)
  generalize w1.setCell ⟨P.g, 7, none⟩ (.int .i64 ((s.p : Int) + 1)) = w2 at HP ⊢
  clear c7 f7 HE
  generalize w.heap.size = q at HP ⊢
  have b0 := HP.out.box.cell (j := 0) rfl
  have b1 := HP.out.box.cell (j := 1) rfl
  go_upto_region 15 with (fail)
  refine wp_region_still_tail 8 (by kernel_rfl) (by kernel_rfl) ?_
  simp only [List.take_succ_cons, List.take_zero, List.drop_succ_cons, List.drop_zero]
  clear b0 b1
  replace HP := hide HP.out.drew
  rw [show ({ heap := w2.heap, tape := w2.tape, drawn := w2.drawn + 1, os := w2.os, output := w2.output } : World) = w2.drew from rfl]
  generalize w2.drew = w3 at HP ⊢
  have b1 := HP.out.box.cell (j := 1) rfl
  have cm := HP.out.mac.m.cell (j := 3) rfl
  have hk := HN.out.1
  rw [HP.out.mac.la] at hk
  have CP := place_at P.a P.na P.na k w3 hk hz
  repeat still_step
  still_call CP
  clear CP
  repeat still_step
  refine wpStill_nil ?_
  go_wp2_with fail
  refine (popSlot_ok w3 k HP.out.mac m HN.out.2 hm HN.out.1).mono ?_
  rintro e w4 ⟨rfl, hg, hb⟩
  have HH := hide (And.intro hg (HP.out.bl.trans hb))
  clear hg hb
  go_wp2
  go_end0
  exact ⟨rfl, HH.out.1, HH.out.2⟩
theorem step3_empty (w : World) (k : Nat) (h : Mac w B P l old ins tA tn tc s u) (hr : rgtE 3 (k : Int) = 0) (hp : s.p < 600) (hk : k < s.sl.length) (hz : P.na ≤ 1000) (hn : s.st.length = 0) :
    Calls Try.prog 35 #[.pointer (some ⟨P.g, 0, none⟩), .agg #[.int .i64 3, .int .i32 (k : Int)]] w (Fails B 12 w) := by
  have HN := hide (And.intro hk hn)
  clear hk hn
  have H0 := hide h
  have HE := hide hr
  clear h hr
  go_enter Try.func35, Try.ntmps35
  go_wp2_with fail
  refine (Right_any _ _ _).mono ?_
  rw [HE.out]
  rintro e w1 ⟨rfl, hb1⟩
  obtain ⟨c7, f7, HP⟩ := pre_mk H0.out hb1
  replace HP := hide HP
  clear H0 hb1
  go_upto_region 5 with (fail)
  generalize w1.setCell ⟨P.g, 7, none⟩ (.int .i64 ((s.p : Int) + 1)) = w2 at HP ⊢
  clear c7 f7 HE
  generalize w.heap.size = q at HP ⊢
  have b0 := HP.out.box.cell (j := 0) rfl
  have b1 := HP.out.box.cell (j := 1) rfl
  go_upto_region 15 with (fail)
  refine wp_region_still_tail 8 (by kernel_rfl) (by kernel_rfl) ?_
  simp only [List.take_succ_cons, List.take_zero, List.drop_succ_cons, List.drop_zero]
  clear b0 b1
  replace HP := hide HP.out.drew
  rw [show ({ heap := w2.heap, tape := w2.tape, drawn := w2.drawn + 1, os := w2.os, output := w2.output } : World) = w2.drew from rfl]
  generalize w2.drew = w3 at HP ⊢
  have b1 := HP.out.box.cell (j := 1) rfl
  have cm := HP.out.mac.m.cell (j := 3) rfl
  have hk := HN.out.1
  rw [HP.out.mac.la] at hk
  have CP := place_at P.a P.na P.na k w3 hk hz
  repeat still_step
  still_call CP
  clear CP
  repeat still_step
  refine wpStill_nil ?_
  go_wp2_with fail
  refine (popInto_bad w3 _ HP.out.mac HN.out.2).mono ?_
  rintro e w4 ⟨rfl, hb⟩
  exact post_raise rfl ⟨rfl, HP.out.bl.trans hb⟩
theorem step5_ok (w : World) (k : Nat) (h : Mac w B P l old ins tA tn tc s u) (hr : rgtE 5 (k : Int) = 0) (hp : s.p < 600) (hk : k < s.ce.length) (hz : P.nb ≤ 1000) (m : Nat) (hn : s.st.length = m + 1) (hm : m ≤ 15) :
    Calls Try.prog 35 #[.pointer (some ⟨P.g, 0, none⟩), .agg #[.int .i64 5, .int .i32 (k : Int)]] w (Goes B P l old ins ⟨s.p + 1, s.st.take m, s.sl, s.ce.set k (gd s.st m), s.ou⟩ u w) := by
  have HN := hide (And.intro hk hn)
  clear hk hn
  have H0 := hide h
  have HE := hide hr
  clear h hr
  go_enter Try.func35, Try.ntmps35
  go_wp2_with fail
  refine (Right_any _ _ _).mono ?_
  rw [HE.out]
  rintro e w1 ⟨rfl, hb1⟩
  obtain ⟨c7, f7, HP⟩ := pre_mk H0.out hb1
  replace HP := hide HP
  clear H0 hb1
  go_upto_region 5 with (fail)
  generalize w1.setCell ⟨P.g, 7, none⟩ (.int .i64 ((s.p : Int) + 1)) = w2 at HP ⊢
  clear c7 f7 HE
  generalize w.heap.size = q at HP ⊢
  have b0 := HP.out.box.cell (j := 0) rfl
  have b1 := HP.out.box.cell (j := 1) rfl
  go_upto_region 17 with (fail)
  refine wp_region_still_tail 8 (by kernel_rfl) (by kernel_rfl) ?_
  simp only [List.take_succ_cons, List.take_zero, List.drop_succ_cons, List.drop_zero]
  clear b0 b1
  replace HP := hide HP.out.drew
  rw [show ({ heap := w2.heap, tape := w2.tape, drawn := w2.drawn + 1, os := w2.os, output := w2.output } : World) = w2.drew from rfl]
  generalize w2.drew = w3 at HP ⊢
  have b1 := HP.out.box.cell (j := 1) rfl
  have cm := HP.out.mac.m.cell (j := 4) rfl
  have hk := HN.out.1
  rw [HP.out.mac.lb] at hk
  have CP := place_at P.b P.nb P.nb k w3 hk hz
  repeat still_step
  still_call CP
  clear CP
  repeat still_step
  refine wpStill_nil ?_
  go_wp2_with fail
  refine (popCell_ok w3 k HP.out.mac m HN.out.2 hm HN.out.1).mono ?_
  rintro e w4 ⟨rfl, hg, hb⟩
  have HH := hide (And.intro hg (HP.out.bl.trans hb))
  clear hg hb
  go_wp2
  go_end0
  exact ⟨rfl, HH.out.1, HH.out.2⟩
theorem step5_empty (w : World) (k : Nat) (h : Mac w B P l old ins tA tn tc s u) (hr : rgtE 5 (k : Int) = 0) (hp : s.p < 600) (hk : k < s.ce.length) (hz : P.nb ≤ 1000) (hn : s.st.length = 0) :
    Calls Try.prog 35 #[.pointer (some ⟨P.g, 0, none⟩), .agg #[.int .i64 5, .int .i32 (k : Int)]] w (Fails B 12 w) := by
  have HN := hide (And.intro hk hn)
  clear hk hn
  have H0 := hide h
  have HE := hide hr
  clear h hr
  go_enter Try.func35, Try.ntmps35
  go_wp2_with fail
  refine (Right_any _ _ _).mono ?_
  rw [HE.out]
  rintro e w1 ⟨rfl, hb1⟩
  obtain ⟨c7, f7, HP⟩ := pre_mk H0.out hb1
  replace HP := hide HP
  clear H0 hb1
  go_upto_region 5 with (fail)
  generalize w1.setCell ⟨P.g, 7, none⟩ (.int .i64 ((s.p : Int) + 1)) = w2 at HP ⊢
  clear c7 f7 HE
  generalize w.heap.size = q at HP ⊢
  have b0 := HP.out.box.cell (j := 0) rfl
  have b1 := HP.out.box.cell (j := 1) rfl
  go_upto_region 17 with (fail)
  refine wp_region_still_tail 8 (by kernel_rfl) (by kernel_rfl) ?_
  simp only [List.take_succ_cons, List.take_zero, List.drop_succ_cons, List.drop_zero]
  clear b0 b1
  replace HP := hide HP.out.drew
  rw [show ({ heap := w2.heap, tape := w2.tape, drawn := w2.drawn + 1, os := w2.os, output := w2.output } : World) = w2.drew from rfl]
  generalize w2.drew = w3 at HP ⊢
  have b1 := HP.out.box.cell (j := 1) rfl
  have cm := HP.out.mac.m.cell (j := 4) rfl
  have hk := HN.out.1
  rw [HP.out.mac.lb] at hk
  have CP := place_at P.b P.nb P.nb k w3 hk hz
  repeat still_step
  still_call CP
  clear CP
  repeat still_step
  refine wpStill_nil ?_
  go_wp2_with fail
  refine (popInto_bad w3 _ HP.out.mac HN.out.2).mono ?_
  rintro e w4 ⟨rfl, hb⟩
  exact post_raise rfl ⟨rfl, HP.out.bl.trans hb⟩
theorem step7_ok (w : World) (k : Nat) (h : Mac w B P l old ins tA tn tc s u) (hr : rgtE 7 (k : Int) = 0) (hp : s.p < 600) (hk : k < s.ou.length) (hz : P.nc ≤ 1000) (m : Nat) (hn : s.st.length = m + 1) (hm : m ≤ 15) :
    Calls Try.prog 35 #[.pointer (some ⟨P.g, 0, none⟩), .agg #[.int .i64 7, .int .i32 (k : Int)]] w (Goes B P l old ins ⟨s.p + 1, s.st.take m, s.sl, s.ce, s.ou.set k (gd s.st m)⟩ u w) := by
  have HN := hide (And.intro hk hn)
  clear hk hn
  have H0 := hide h
  have HE := hide hr
  clear h hr
  go_enter Try.func35, Try.ntmps35
  go_wp2_with fail
  refine (Right_any _ _ _).mono ?_
  rw [HE.out]
  rintro e w1 ⟨rfl, hb1⟩
  obtain ⟨c7, f7, HP⟩ := pre_mk H0.out hb1
  replace HP := hide HP
  clear H0 hb1
  go_upto_region 5 with (fail)
  generalize w1.setCell ⟨P.g, 7, none⟩ (.int .i64 ((s.p : Int) + 1)) = w2 at HP ⊢
  clear c7 f7 HE
  generalize w.heap.size = q at HP ⊢
  have b0 := HP.out.box.cell (j := 0) rfl
  have b1 := HP.out.box.cell (j := 1) rfl
  go_upto_region 19 with (fail)
  refine wp_region_still_tail 8 (by kernel_rfl) (by kernel_rfl) ?_
  simp only [List.take_succ_cons, List.take_zero, List.drop_succ_cons, List.drop_zero]
  clear b0 b1
  replace HP := hide HP.out.drew
  rw [show ({ heap := w2.heap, tape := w2.tape, drawn := w2.drawn + 1, os := w2.os, output := w2.output } : World) = w2.drew from rfl]
  generalize w2.drew = w3 at HP ⊢
  have b1 := HP.out.box.cell (j := 1) rfl
  have cm := HP.out.mac.m.cell (j := 5) rfl
  have hk := HN.out.1
  rw [HP.out.mac.lc] at hk
  have CP := place_at P.c P.nc P.nc k w3 hk hz
  repeat still_step
  still_call CP
  clear CP
  repeat still_step
  refine wpStill_nil ?_
  go_wp2_with fail
  refine (popOut_ok w3 k HP.out.mac m HN.out.2 hm HN.out.1).mono ?_
  rintro e w4 ⟨rfl, hg, hb⟩
  have HH := hide (And.intro hg (HP.out.bl.trans hb))
  clear hg hb
  go_wp2
  go_end0
  exact ⟨rfl, HH.out.1, HH.out.2⟩
theorem step7_empty (w : World) (k : Nat) (h : Mac w B P l old ins tA tn tc s u) (hr : rgtE 7 (k : Int) = 0) (hp : s.p < 600) (hk : k < s.ou.length) (hz : P.nc ≤ 1000) (hn : s.st.length = 0) :
    Calls Try.prog 35 #[.pointer (some ⟨P.g, 0, none⟩), .agg #[.int .i64 7, .int .i32 (k : Int)]] w (Fails B 12 w) := by
  have HN := hide (And.intro hk hn)
  clear hk hn
  have H0 := hide h
  have HE := hide hr
  clear h hr
  go_enter Try.func35, Try.ntmps35
  go_wp2_with fail
  refine (Right_any _ _ _).mono ?_
  rw [HE.out]
  rintro e w1 ⟨rfl, hb1⟩
  obtain ⟨c7, f7, HP⟩ := pre_mk H0.out hb1
  replace HP := hide HP
  clear H0 hb1
  go_upto_region 5 with (fail)
  generalize w1.setCell ⟨P.g, 7, none⟩ (.int .i64 ((s.p : Int) + 1)) = w2 at HP ⊢
  clear c7 f7 HE
  generalize w.heap.size = q at HP ⊢
  have b0 := HP.out.box.cell (j := 0) rfl
  have b1 := HP.out.box.cell (j := 1) rfl
  go_upto_region 19 with (fail)
  refine wp_region_still_tail 8 (by kernel_rfl) (by kernel_rfl) ?_
  simp only [List.take_succ_cons, List.take_zero, List.drop_succ_cons, List.drop_zero]
  clear b0 b1
  replace HP := hide HP.out.drew
  rw [show ({ heap := w2.heap, tape := w2.tape, drawn := w2.drawn + 1, os := w2.os, output := w2.output } : World) = w2.drew from rfl]
  generalize w2.drew = w3 at HP ⊢
  have b1 := HP.out.box.cell (j := 1) rfl
  have cm := HP.out.mac.m.cell (j := 5) rfl
  have hk := HN.out.1
  rw [HP.out.mac.lc] at hk
  have CP := place_at P.c P.nc P.nc k w3 hk hz
  repeat still_step
  still_call CP
  clear CP
  repeat still_step
  refine wpStill_nil ?_
  go_wp2_with fail
  refine (popInto_bad w3 _ HP.out.mac HN.out.2).mono ?_
  rintro e w4 ⟨rfl, hb⟩
  exact post_raise rfl ⟨rfl, HP.out.bl.trans hb⟩
theorem step2_bad (w : World) (k : Nat) (h : Mac w B P l old ins tA tn tc s u) (hr : rgtE 2 (k : Int) = 0) (hp : s.p < 600) (hk : (P.na : Int) ≤ k) (hk3 : k ≤ 2147483647) :
    Calls Try.prog 35 #[.pointer (some ⟨P.g, 0, none⟩), .agg #[.int .i64 2, .int .i32 (k : Int)]] w (Fails B 10 w) := by
  have HN := hide hk
  clear hk
  have H0 := hide h
  have HE := hide hr
  clear h hr
  go_enter Try.func35, Try.ntmps35
  go_wp2_with fail
  refine (Right_any _ _ _).mono ?_
  rw [HE.out]
  rintro e w1 ⟨rfl, hb1⟩
  obtain ⟨c7, f7, HP⟩ := pre_mk H0.out hb1
  replace HP := hide HP
  clear H0 hb1
  go_upto_region 5 with (fail)
  generalize w1.setCell ⟨P.g, 7, none⟩ (.int .i64 ((s.p : Int) + 1)) = w2 at HP ⊢
  clear c7 f7 HE
  generalize w.heap.size = q at HP ⊢
  have b0 := HP.out.box.cell (j := 0) rfl
  have b1 := HP.out.box.cell (j := 1) rfl
  go_upto_region 9 with (fail)
  have cm := HP.out.mac.m.cell (j := 3) rfl
  refine wp_region_held_drew (S := fun W : World => W.cell? ⟨P.g, 3, none⟩ = some (.slice (some ⟨P.a, 0, none⟩) P.na P.na) ∧ W.cell? ⟨q, 1, none⟩ = some (.int .i32 (k : Int))) (by kernel_rfl) ⟨cm, b1⟩ (fun hS0 => ?_)
  refine wpAnyH_take (i := 0) (v := .pointer (some ⟨P.g, 0, none⟩)) rfl (by kernel_rfl) (by kernel_rfl) (by kernel_rfl) (fun _ _ _ h => h) (Or.inl ⟨by rfl, fun w _ => by go_simp⟩) (by assumption) ?_
  simp only [List.getElem_toArray, List.getElem_cons_zero, Act.put, List.setIfInBounds_toArray, List.set_cons_zero, List.set_cons_succ]
  refine wpAnyH_take (i := 1) (v := .pointer (some ⟨P.g, 0, none⟩)) rfl (by kernel_rfl) (by kernel_rfl) (by kernel_rfl) (fun _ _ _ h => h) (Or.inl ⟨by rfl, fun w _ => by go_simp⟩) (by assumption) ?_
  simp only [List.getElem_toArray, List.getElem_cons_zero, List.getElem_cons_succ, Act.put, List.setIfInBounds_toArray, List.set_cons_zero, List.set_cons_succ]
  refine wpAnyH_take (i := 2) (v := .pointer (some ⟨P.g, 0, none⟩)) rfl (by kernel_rfl) (by kernel_rfl) (by kernel_rfl) (fun _ _ _ h => h) (Or.inl ⟨by rfl, fun w _ => by go_simp⟩) (by assumption) ?_
  simp only [List.getElem_toArray, List.getElem_cons_zero, List.getElem_cons_succ, Act.put, List.setIfInBounds_toArray, List.set_cons_zero, List.set_cons_succ]
  refine wpAnyH_take (i := 3) (v := .pointer (some ⟨P.g, 3, none⟩)) rfl (by kernel_rfl) (by kernel_rfl) (by kernel_rfl) (fun _ _ _ h => h) (Or.inl ⟨by rfl, fun w _ => by go_simp⟩) (by assumption) ?_
  simp only [List.getElem_toArray, List.getElem_cons_zero, List.getElem_cons_succ, Act.put, List.setIfInBounds_toArray, List.set_cons_zero, List.set_cons_succ]
  refine wpAnyH_take (i := 4) (v := .slice (some ⟨P.a, 0, none⟩) P.na P.na) rfl (by kernel_rfl) (by kernel_rfl) (by kernel_rfl) (fun _ _ _ h => h) (Or.inl ⟨by rfl, fun w h => by have h9 := h.1; go_simp⟩) (by assumption) ?_
  simp only [List.getElem_toArray, List.getElem_cons_zero, List.getElem_cons_succ, Act.put, List.setIfInBounds_toArray, List.set_cons_zero, List.set_cons_succ]
  refine wpAnyH_take (i := 5) (v := .pointer (some ⟨q, 1, none⟩)) rfl (by kernel_rfl) (by kernel_rfl) (by kernel_rfl) (fun _ _ _ h => h) (Or.inl ⟨by rfl, fun w _ => by go_simp⟩) (by assumption) ?_
  simp only [List.getElem_toArray, List.getElem_cons_zero, List.getElem_cons_succ, Act.put, List.setIfInBounds_toArray, List.set_cons_zero, List.set_cons_succ]
  refine wpAnyH_take (i := 6) (v := .int .i32 (k : Int)) rfl (by kernel_rfl) (by kernel_rfl) (by kernel_rfl) (fun _ _ _ h => h) (Or.inl ⟨by rfl, fun w h => by have h9 := h.2; go_simp⟩) (by assumption) ?_
  simp only [List.getElem_toArray, List.getElem_cons_zero, List.getElem_cons_succ, Act.put, List.setIfInBounds_toArray, List.set_cons_zero, List.set_cons_succ]
  refine wpAnyH_ready (rs := [7]) (by kernel_rfl) (by simp) ?_
  refine AllReadyH.cons rfl (fun K hKK => ?_) AllReadyH.nil
  go_simp
  refine (place_bad _ P.na _ (k : Int) _ HN.out (by omega)).mono ?_
  rintro e w4 ⟨rfl, rfl⟩
  exact post_raise rfl ⟨rfl, below_dn HP.out.bl 1⟩
theorem step3_bad (w : World) (k : Nat) (h : Mac w B P l old ins tA tn tc s u) (hr : rgtE 3 (k : Int) = 0) (hp : s.p < 600) (hk : (P.na : Int) ≤ k) (hk3 : k ≤ 2147483647) :
    Calls Try.prog 35 #[.pointer (some ⟨P.g, 0, none⟩), .agg #[.int .i64 3, .int .i32 (k : Int)]] w (Fails B 10 w) := by
  have HN := hide hk
  clear hk
  have H0 := hide h
  have HE := hide hr
  clear h hr
  go_enter Try.func35, Try.ntmps35
  go_wp2_with fail
  refine (Right_any _ _ _).mono ?_
  rw [HE.out]
  rintro e w1 ⟨rfl, hb1⟩
  obtain ⟨c7, f7, HP⟩ := pre_mk H0.out hb1
  replace HP := hide HP
  clear H0 hb1
  go_upto_region 5 with (fail)
  generalize w1.setCell ⟨P.g, 7, none⟩ (.int .i64 ((s.p : Int) + 1)) = w2 at HP ⊢
  clear c7 f7 HE
  generalize w.heap.size = q at HP ⊢
  have b0 := HP.out.box.cell (j := 0) rfl
  have b1 := HP.out.box.cell (j := 1) rfl
  go_upto_region 15 with (fail)
  have cm := HP.out.mac.m.cell (j := 3) rfl
  refine wp_region_held_drew (S := fun W : World => W.cell? ⟨P.g, 3, none⟩ = some (.slice (some ⟨P.a, 0, none⟩) P.na P.na) ∧ W.cell? ⟨q, 1, none⟩ = some (.int .i32 (k : Int))) (by kernel_rfl) ⟨cm, b1⟩ (fun hS0 => ?_)
  refine wpAnyH_take (i := 0) (v := .pointer (some ⟨P.g, 0, none⟩)) rfl (by kernel_rfl) (by kernel_rfl) (by kernel_rfl) (fun _ _ _ h => h) (Or.inl ⟨by rfl, fun w _ => by go_simp⟩) (by assumption) ?_
  simp only [List.getElem_toArray, List.getElem_cons_zero, Act.put, List.setIfInBounds_toArray, List.set_cons_zero, List.set_cons_succ]
  refine wpAnyH_take (i := 1) (v := .pointer (some ⟨P.g, 0, none⟩)) rfl (by kernel_rfl) (by kernel_rfl) (by kernel_rfl) (fun _ _ _ h => h) (Or.inl ⟨by rfl, fun w _ => by go_simp⟩) (by assumption) ?_
  simp only [List.getElem_toArray, List.getElem_cons_zero, List.getElem_cons_succ, Act.put, List.setIfInBounds_toArray, List.set_cons_zero, List.set_cons_succ]
  refine wpAnyH_take (i := 2) (v := .pointer (some ⟨P.g, 0, none⟩)) rfl (by kernel_rfl) (by kernel_rfl) (by kernel_rfl) (fun _ _ _ h => h) (Or.inl ⟨by rfl, fun w _ => by go_simp⟩) (by assumption) ?_
  simp only [List.getElem_toArray, List.getElem_cons_zero, List.getElem_cons_succ, Act.put, List.setIfInBounds_toArray, List.set_cons_zero, List.set_cons_succ]
  refine wpAnyH_take (i := 3) (v := .pointer (some ⟨P.g, 3, none⟩)) rfl (by kernel_rfl) (by kernel_rfl) (by kernel_rfl) (fun _ _ _ h => h) (Or.inl ⟨by rfl, fun w _ => by go_simp⟩) (by assumption) ?_
  simp only [List.getElem_toArray, List.getElem_cons_zero, List.getElem_cons_succ, Act.put, List.setIfInBounds_toArray, List.set_cons_zero, List.set_cons_succ]
  refine wpAnyH_take (i := 4) (v := .slice (some ⟨P.a, 0, none⟩) P.na P.na) rfl (by kernel_rfl) (by kernel_rfl) (by kernel_rfl) (fun _ _ _ h => h) (Or.inl ⟨by rfl, fun w h => by have h9 := h.1; go_simp⟩) (by assumption) ?_
  simp only [List.getElem_toArray, List.getElem_cons_zero, List.getElem_cons_succ, Act.put, List.setIfInBounds_toArray, List.set_cons_zero, List.set_cons_succ]
  refine wpAnyH_take (i := 5) (v := .pointer (some ⟨q, 1, none⟩)) rfl (by kernel_rfl) (by kernel_rfl) (by kernel_rfl) (fun _ _ _ h => h) (Or.inl ⟨by rfl, fun w _ => by go_simp⟩) (by assumption) ?_
  simp only [List.getElem_toArray, List.getElem_cons_zero, List.getElem_cons_succ, Act.put, List.setIfInBounds_toArray, List.set_cons_zero, List.set_cons_succ]
  refine wpAnyH_take (i := 6) (v := .int .i32 (k : Int)) rfl (by kernel_rfl) (by kernel_rfl) (by kernel_rfl) (fun _ _ _ h => h) (Or.inl ⟨by rfl, fun w h => by have h9 := h.2; go_simp⟩) (by assumption) ?_
  simp only [List.getElem_toArray, List.getElem_cons_zero, List.getElem_cons_succ, Act.put, List.setIfInBounds_toArray, List.set_cons_zero, List.set_cons_succ]
  refine wpAnyH_ready (rs := [7]) (by kernel_rfl) (by simp) ?_
  refine AllReadyH.cons rfl (fun K hKK => ?_) AllReadyH.nil
  go_simp
  refine (place_bad _ P.na _ (k : Int) _ HN.out (by omega)).mono ?_
  rintro e w4 ⟨rfl, rfl⟩
  exact post_raise rfl ⟨rfl, below_dn HP.out.bl 1⟩
theorem step4_bad (w : World) (k : Nat) (h : Mac w B P l old ins tA tn tc s u) (hr : rgtE 4 (k : Int) = 0) (hp : s.p < 600) (hk : (P.on : Int) ≤ k) (hk3 : k ≤ 2147483647) :
    Calls Try.prog 35 #[.pointer (some ⟨P.g, 0, none⟩), .agg #[.int .i64 4, .int .i32 (k : Int)]] w (Fails B 10 w) := by
  have HN := hide hk
  clear hk
  have H0 := hide h
  have HE := hide hr
  clear h hr
  go_enter Try.func35, Try.ntmps35
  go_wp2_with fail
  refine (Right_any _ _ _).mono ?_
  rw [HE.out]
  rintro e w1 ⟨rfl, hb1⟩
  obtain ⟨c7, f7, HP⟩ := pre_mk H0.out hb1
  replace HP := hide HP
  clear H0 hb1
  go_upto_region 5 with (fail)
  generalize w1.setCell ⟨P.g, 7, none⟩ (.int .i64 ((s.p : Int) + 1)) = w2 at HP ⊢
  clear c7 f7 HE
  generalize w.heap.size = q at HP ⊢
  have b0 := HP.out.box.cell (j := 0) rfl
  have b1 := HP.out.box.cell (j := 1) rfl
  go_upto_region 11 with (fail)
  have cm := HP.out.mac.m.cell (j := 1) rfl
  refine wp_region_held_drew (S := fun W : World => W.cell? ⟨P.g, 1, none⟩ = some (.slice P.oA P.on P.oc) ∧ W.cell? ⟨q, 1, none⟩ = some (.int .i32 (k : Int))) (by kernel_rfl) ⟨cm, b1⟩ (fun hS0 => ?_)
  refine wpAnyH_take (i := 0) (v := .pointer (some ⟨P.g, 0, none⟩)) rfl (by kernel_rfl) (by kernel_rfl) (by kernel_rfl) (fun _ _ _ h => h) (Or.inl ⟨by rfl, fun w _ => by go_simp⟩) (by assumption) ?_
  simp only [List.getElem_toArray, List.getElem_cons_zero, Act.put, List.setIfInBounds_toArray, List.set_cons_zero, List.set_cons_succ]
  refine wpAnyH_take (i := 1) (v := .pointer (some ⟨P.g, 0, none⟩)) rfl (by kernel_rfl) (by kernel_rfl) (by kernel_rfl) (fun _ _ _ h => h) (Or.inl ⟨by rfl, fun w _ => by go_simp⟩) (by assumption) ?_
  simp only [List.getElem_toArray, List.getElem_cons_zero, List.getElem_cons_succ, Act.put, List.setIfInBounds_toArray, List.set_cons_zero, List.set_cons_succ]
  refine wpAnyH_take (i := 2) (v := .pointer (some ⟨P.g, 0, none⟩)) rfl (by kernel_rfl) (by kernel_rfl) (by kernel_rfl) (fun _ _ _ h => h) (Or.inl ⟨by rfl, fun w _ => by go_simp⟩) (by assumption) ?_
  simp only [List.getElem_toArray, List.getElem_cons_zero, List.getElem_cons_succ, Act.put, List.setIfInBounds_toArray, List.set_cons_zero, List.set_cons_succ]
  refine wpAnyH_take (i := 3) (v := .pointer (some ⟨P.g, 1, none⟩)) rfl (by kernel_rfl) (by kernel_rfl) (by kernel_rfl) (fun _ _ _ h => h) (Or.inl ⟨by rfl, fun w _ => by go_simp⟩) (by assumption) ?_
  simp only [List.getElem_toArray, List.getElem_cons_zero, List.getElem_cons_succ, Act.put, List.setIfInBounds_toArray, List.set_cons_zero, List.set_cons_succ]
  refine wpAnyH_take (i := 4) (v := .slice P.oA P.on P.oc) rfl (by kernel_rfl) (by kernel_rfl) (by kernel_rfl) (fun _ _ _ h => h) (Or.inl ⟨by rfl, fun w h => by have h9 := h.1; go_simp⟩) (by assumption) ?_
  simp only [List.getElem_toArray, List.getElem_cons_zero, List.getElem_cons_succ, Act.put, List.setIfInBounds_toArray, List.set_cons_zero, List.set_cons_succ]
  refine wpAnyH_take (i := 5) (v := .pointer (some ⟨q, 1, none⟩)) rfl (by kernel_rfl) (by kernel_rfl) (by kernel_rfl) (fun _ _ _ h => h) (Or.inl ⟨by rfl, fun w _ => by go_simp⟩) (by assumption) ?_
  simp only [List.getElem_toArray, List.getElem_cons_zero, List.getElem_cons_succ, Act.put, List.setIfInBounds_toArray, List.set_cons_zero, List.set_cons_succ]
  refine wpAnyH_take (i := 6) (v := .int .i32 (k : Int)) rfl (by kernel_rfl) (by kernel_rfl) (by kernel_rfl) (fun _ _ _ h => h) (Or.inl ⟨by rfl, fun w h => by have h9 := h.2; go_simp⟩) (by assumption) ?_
  simp only [List.getElem_toArray, List.getElem_cons_zero, List.getElem_cons_succ, Act.put, List.setIfInBounds_toArray, List.set_cons_zero, List.set_cons_succ]
  refine wpAnyH_ready (rs := [7]) (by kernel_rfl) (by simp) ?_
  refine AllReadyH.cons rfl (fun K hKK => ?_) AllReadyH.nil
  go_simp
  refine (place_bad _ P.on _ (k : Int) _ HN.out (by omega)).mono ?_
  rintro e w4 ⟨rfl, rfl⟩
  exact post_raise rfl ⟨rfl, below_dn HP.out.bl 1⟩
theorem step5_bad (w : World) (k : Nat) (h : Mac w B P l old ins tA tn tc s u) (hr : rgtE 5 (k : Int) = 0) (hp : s.p < 600) (hk : (P.nb : Int) ≤ k) (hk3 : k ≤ 2147483647) :
    Calls Try.prog 35 #[.pointer (some ⟨P.g, 0, none⟩), .agg #[.int .i64 5, .int .i32 (k : Int)]] w (Fails B 10 w) := by
  have HN := hide hk
  clear hk
  have H0 := hide h
  have HE := hide hr
  clear h hr
  go_enter Try.func35, Try.ntmps35
  go_wp2_with fail
  refine (Right_any _ _ _).mono ?_
  rw [HE.out]
  rintro e w1 ⟨rfl, hb1⟩
  obtain ⟨c7, f7, HP⟩ := pre_mk H0.out hb1
  replace HP := hide HP
  clear H0 hb1
  go_upto_region 5 with (fail)
  generalize w1.setCell ⟨P.g, 7, none⟩ (.int .i64 ((s.p : Int) + 1)) = w2 at HP ⊢
  clear c7 f7 HE
  generalize w.heap.size = q at HP ⊢
  have b0 := HP.out.box.cell (j := 0) rfl
  have b1 := HP.out.box.cell (j := 1) rfl
  go_upto_region 17 with (fail)
  have cm := HP.out.mac.m.cell (j := 4) rfl
  refine wp_region_held_drew (S := fun W : World => W.cell? ⟨P.g, 4, none⟩ = some (.slice (some ⟨P.b, 0, none⟩) P.nb P.nb) ∧ W.cell? ⟨q, 1, none⟩ = some (.int .i32 (k : Int))) (by kernel_rfl) ⟨cm, b1⟩ (fun hS0 => ?_)
  refine wpAnyH_take (i := 0) (v := .pointer (some ⟨P.g, 0, none⟩)) rfl (by kernel_rfl) (by kernel_rfl) (by kernel_rfl) (fun _ _ _ h => h) (Or.inl ⟨by rfl, fun w _ => by go_simp⟩) (by assumption) ?_
  simp only [List.getElem_toArray, List.getElem_cons_zero, Act.put, List.setIfInBounds_toArray, List.set_cons_zero, List.set_cons_succ]
  refine wpAnyH_take (i := 1) (v := .pointer (some ⟨P.g, 0, none⟩)) rfl (by kernel_rfl) (by kernel_rfl) (by kernel_rfl) (fun _ _ _ h => h) (Or.inl ⟨by rfl, fun w _ => by go_simp⟩) (by assumption) ?_
  simp only [List.getElem_toArray, List.getElem_cons_zero, List.getElem_cons_succ, Act.put, List.setIfInBounds_toArray, List.set_cons_zero, List.set_cons_succ]
  refine wpAnyH_take (i := 2) (v := .pointer (some ⟨P.g, 0, none⟩)) rfl (by kernel_rfl) (by kernel_rfl) (by kernel_rfl) (fun _ _ _ h => h) (Or.inl ⟨by rfl, fun w _ => by go_simp⟩) (by assumption) ?_
  simp only [List.getElem_toArray, List.getElem_cons_zero, List.getElem_cons_succ, Act.put, List.setIfInBounds_toArray, List.set_cons_zero, List.set_cons_succ]
  refine wpAnyH_take (i := 3) (v := .pointer (some ⟨P.g, 4, none⟩)) rfl (by kernel_rfl) (by kernel_rfl) (by kernel_rfl) (fun _ _ _ h => h) (Or.inl ⟨by rfl, fun w _ => by go_simp⟩) (by assumption) ?_
  simp only [List.getElem_toArray, List.getElem_cons_zero, List.getElem_cons_succ, Act.put, List.setIfInBounds_toArray, List.set_cons_zero, List.set_cons_succ]
  refine wpAnyH_take (i := 4) (v := .slice (some ⟨P.b, 0, none⟩) P.nb P.nb) rfl (by kernel_rfl) (by kernel_rfl) (by kernel_rfl) (fun _ _ _ h => h) (Or.inl ⟨by rfl, fun w h => by have h9 := h.1; go_simp⟩) (by assumption) ?_
  simp only [List.getElem_toArray, List.getElem_cons_zero, List.getElem_cons_succ, Act.put, List.setIfInBounds_toArray, List.set_cons_zero, List.set_cons_succ]
  refine wpAnyH_take (i := 5) (v := .pointer (some ⟨q, 1, none⟩)) rfl (by kernel_rfl) (by kernel_rfl) (by kernel_rfl) (fun _ _ _ h => h) (Or.inl ⟨by rfl, fun w _ => by go_simp⟩) (by assumption) ?_
  simp only [List.getElem_toArray, List.getElem_cons_zero, List.getElem_cons_succ, Act.put, List.setIfInBounds_toArray, List.set_cons_zero, List.set_cons_succ]
  refine wpAnyH_take (i := 6) (v := .int .i32 (k : Int)) rfl (by kernel_rfl) (by kernel_rfl) (by kernel_rfl) (fun _ _ _ h => h) (Or.inl ⟨by rfl, fun w h => by have h9 := h.2; go_simp⟩) (by assumption) ?_
  simp only [List.getElem_toArray, List.getElem_cons_zero, List.getElem_cons_succ, Act.put, List.setIfInBounds_toArray, List.set_cons_zero, List.set_cons_succ]
  refine wpAnyH_ready (rs := [7]) (by kernel_rfl) (by simp) ?_
  refine AllReadyH.cons rfl (fun K hKK => ?_) AllReadyH.nil
  go_simp
  refine (place_bad _ P.nb _ (k : Int) _ HN.out (by omega)).mono ?_
  rintro e w4 ⟨rfl, rfl⟩
  exact post_raise rfl ⟨rfl, below_dn HP.out.bl 1⟩
theorem step6_bad (w : World) (k : Nat) (h : Mac w B P l old ins tA tn tc s u) (hr : rgtE 6 (k : Int) = 0) (hp : s.p < 600) (hk : (P.ik : Int) ≤ k) (hk3 : k ≤ 2147483647) :
    Calls Try.prog 35 #[.pointer (some ⟨P.g, 0, none⟩), .agg #[.int .i64 6, .int .i32 (k : Int)]] w (Fails B 10 w) := by
  have HN := hide hk
  clear hk
  have H0 := hide h
  have HE := hide hr
  clear h hr
  go_enter Try.func35, Try.ntmps35
  go_wp2_with fail
  refine (Right_any _ _ _).mono ?_
  rw [HE.out]
  rintro e w1 ⟨rfl, hb1⟩
  obtain ⟨c7, f7, HP⟩ := pre_mk H0.out hb1
  replace HP := hide HP
  clear H0 hb1
  go_upto_region 5 with (fail)
  generalize w1.setCell ⟨P.g, 7, none⟩ (.int .i64 ((s.p : Int) + 1)) = w2 at HP ⊢
  clear c7 f7 HE
  generalize w.heap.size = q at HP ⊢
  have b0 := HP.out.box.cell (j := 0) rfl
  have b1 := HP.out.box.cell (j := 1) rfl
  go_upto_region 13 with (fail)
  have cm := HP.out.mac.m.cell (j := 2) rfl
  refine wp_region_held_drew (S := fun W : World => W.cell? ⟨P.g, 2, none⟩ = some (.slice P.iA P.ik P.ic) ∧ W.cell? ⟨q, 1, none⟩ = some (.int .i32 (k : Int))) (by kernel_rfl) ⟨cm, b1⟩ (fun hS0 => ?_)
  refine wpAnyH_take (i := 0) (v := .pointer (some ⟨P.g, 0, none⟩)) rfl (by kernel_rfl) (by kernel_rfl) (by kernel_rfl) (fun _ _ _ h => h) (Or.inl ⟨by rfl, fun w _ => by go_simp⟩) (by assumption) ?_
  simp only [List.getElem_toArray, List.getElem_cons_zero, Act.put, List.setIfInBounds_toArray, List.set_cons_zero, List.set_cons_succ]
  refine wpAnyH_take (i := 1) (v := .pointer (some ⟨P.g, 0, none⟩)) rfl (by kernel_rfl) (by kernel_rfl) (by kernel_rfl) (fun _ _ _ h => h) (Or.inl ⟨by rfl, fun w _ => by go_simp⟩) (by assumption) ?_
  simp only [List.getElem_toArray, List.getElem_cons_zero, List.getElem_cons_succ, Act.put, List.setIfInBounds_toArray, List.set_cons_zero, List.set_cons_succ]
  refine wpAnyH_take (i := 2) (v := .pointer (some ⟨P.g, 0, none⟩)) rfl (by kernel_rfl) (by kernel_rfl) (by kernel_rfl) (fun _ _ _ h => h) (Or.inl ⟨by rfl, fun w _ => by go_simp⟩) (by assumption) ?_
  simp only [List.getElem_toArray, List.getElem_cons_zero, List.getElem_cons_succ, Act.put, List.setIfInBounds_toArray, List.set_cons_zero, List.set_cons_succ]
  refine wpAnyH_take (i := 3) (v := .pointer (some ⟨P.g, 2, none⟩)) rfl (by kernel_rfl) (by kernel_rfl) (by kernel_rfl) (fun _ _ _ h => h) (Or.inl ⟨by rfl, fun w _ => by go_simp⟩) (by assumption) ?_
  simp only [List.getElem_toArray, List.getElem_cons_zero, List.getElem_cons_succ, Act.put, List.setIfInBounds_toArray, List.set_cons_zero, List.set_cons_succ]
  refine wpAnyH_take (i := 4) (v := .slice P.iA P.ik P.ic) rfl (by kernel_rfl) (by kernel_rfl) (by kernel_rfl) (fun _ _ _ h => h) (Or.inl ⟨by rfl, fun w h => by have h9 := h.1; go_simp⟩) (by assumption) ?_
  simp only [List.getElem_toArray, List.getElem_cons_zero, List.getElem_cons_succ, Act.put, List.setIfInBounds_toArray, List.set_cons_zero, List.set_cons_succ]
  refine wpAnyH_take (i := 5) (v := .pointer (some ⟨q, 1, none⟩)) rfl (by kernel_rfl) (by kernel_rfl) (by kernel_rfl) (fun _ _ _ h => h) (Or.inl ⟨by rfl, fun w _ => by go_simp⟩) (by assumption) ?_
  simp only [List.getElem_toArray, List.getElem_cons_zero, List.getElem_cons_succ, Act.put, List.setIfInBounds_toArray, List.set_cons_zero, List.set_cons_succ]
  refine wpAnyH_take (i := 6) (v := .int .i32 (k : Int)) rfl (by kernel_rfl) (by kernel_rfl) (by kernel_rfl) (fun _ _ _ h => h) (Or.inl ⟨by rfl, fun w h => by have h9 := h.2; go_simp⟩) (by assumption) ?_
  simp only [List.getElem_toArray, List.getElem_cons_zero, List.getElem_cons_succ, Act.put, List.setIfInBounds_toArray, List.set_cons_zero, List.set_cons_succ]
  refine wpAnyH_ready (rs := [7]) (by kernel_rfl) (by simp) ?_
  refine AllReadyH.cons rfl (fun K hKK => ?_) AllReadyH.nil
  go_simp
  refine (place_bad _ P.ik _ (k : Int) _ HN.out (by omega)).mono ?_
  rintro e w4 ⟨rfl, rfl⟩
  exact post_raise rfl ⟨rfl, below_dn HP.out.bl 1⟩
theorem step7_bad (w : World) (k : Nat) (h : Mac w B P l old ins tA tn tc s u) (hr : rgtE 7 (k : Int) = 0) (hp : s.p < 600) (hk : (P.nc : Int) ≤ k) (hk3 : k ≤ 2147483647) :
    Calls Try.prog 35 #[.pointer (some ⟨P.g, 0, none⟩), .agg #[.int .i64 7, .int .i32 (k : Int)]] w (Fails B 10 w) := by
  have HN := hide hk
  clear hk
  have H0 := hide h
  have HE := hide hr
  clear h hr
  go_enter Try.func35, Try.ntmps35
  go_wp2_with fail
  refine (Right_any _ _ _).mono ?_
  rw [HE.out]
  rintro e w1 ⟨rfl, hb1⟩
  obtain ⟨c7, f7, HP⟩ := pre_mk H0.out hb1
  replace HP := hide HP
  clear H0 hb1
  go_upto_region 5 with (fail)
  generalize w1.setCell ⟨P.g, 7, none⟩ (.int .i64 ((s.p : Int) + 1)) = w2 at HP ⊢
  clear c7 f7 HE
  generalize w.heap.size = q at HP ⊢
  have b0 := HP.out.box.cell (j := 0) rfl
  have b1 := HP.out.box.cell (j := 1) rfl
  go_upto_region 19 with (fail)
  have cm := HP.out.mac.m.cell (j := 5) rfl
  refine wp_region_held_drew (S := fun W : World => W.cell? ⟨P.g, 5, none⟩ = some (.slice (some ⟨P.c, 0, none⟩) P.nc P.nc) ∧ W.cell? ⟨q, 1, none⟩ = some (.int .i32 (k : Int))) (by kernel_rfl) ⟨cm, b1⟩ (fun hS0 => ?_)
  refine wpAnyH_take (i := 0) (v := .pointer (some ⟨P.g, 0, none⟩)) rfl (by kernel_rfl) (by kernel_rfl) (by kernel_rfl) (fun _ _ _ h => h) (Or.inl ⟨by rfl, fun w _ => by go_simp⟩) (by assumption) ?_
  simp only [List.getElem_toArray, List.getElem_cons_zero, Act.put, List.setIfInBounds_toArray, List.set_cons_zero, List.set_cons_succ]
  refine wpAnyH_take (i := 1) (v := .pointer (some ⟨P.g, 0, none⟩)) rfl (by kernel_rfl) (by kernel_rfl) (by kernel_rfl) (fun _ _ _ h => h) (Or.inl ⟨by rfl, fun w _ => by go_simp⟩) (by assumption) ?_
  simp only [List.getElem_toArray, List.getElem_cons_zero, List.getElem_cons_succ, Act.put, List.setIfInBounds_toArray, List.set_cons_zero, List.set_cons_succ]
  refine wpAnyH_take (i := 2) (v := .pointer (some ⟨P.g, 0, none⟩)) rfl (by kernel_rfl) (by kernel_rfl) (by kernel_rfl) (fun _ _ _ h => h) (Or.inl ⟨by rfl, fun w _ => by go_simp⟩) (by assumption) ?_
  simp only [List.getElem_toArray, List.getElem_cons_zero, List.getElem_cons_succ, Act.put, List.setIfInBounds_toArray, List.set_cons_zero, List.set_cons_succ]
  refine wpAnyH_take (i := 3) (v := .pointer (some ⟨P.g, 5, none⟩)) rfl (by kernel_rfl) (by kernel_rfl) (by kernel_rfl) (fun _ _ _ h => h) (Or.inl ⟨by rfl, fun w _ => by go_simp⟩) (by assumption) ?_
  simp only [List.getElem_toArray, List.getElem_cons_zero, List.getElem_cons_succ, Act.put, List.setIfInBounds_toArray, List.set_cons_zero, List.set_cons_succ]
  refine wpAnyH_take (i := 4) (v := .slice (some ⟨P.c, 0, none⟩) P.nc P.nc) rfl (by kernel_rfl) (by kernel_rfl) (by kernel_rfl) (fun _ _ _ h => h) (Or.inl ⟨by rfl, fun w h => by have h9 := h.1; go_simp⟩) (by assumption) ?_
  simp only [List.getElem_toArray, List.getElem_cons_zero, List.getElem_cons_succ, Act.put, List.setIfInBounds_toArray, List.set_cons_zero, List.set_cons_succ]
  refine wpAnyH_take (i := 5) (v := .pointer (some ⟨q, 1, none⟩)) rfl (by kernel_rfl) (by kernel_rfl) (by kernel_rfl) (fun _ _ _ h => h) (Or.inl ⟨by rfl, fun w _ => by go_simp⟩) (by assumption) ?_
  simp only [List.getElem_toArray, List.getElem_cons_zero, List.getElem_cons_succ, Act.put, List.setIfInBounds_toArray, List.set_cons_zero, List.set_cons_succ]
  refine wpAnyH_take (i := 6) (v := .int .i32 (k : Int)) rfl (by kernel_rfl) (by kernel_rfl) (by kernel_rfl) (fun _ _ _ h => h) (Or.inl ⟨by rfl, fun w h => by have h9 := h.2; go_simp⟩) (by assumption) ?_
  simp only [List.getElem_toArray, List.getElem_cons_zero, List.getElem_cons_succ, Act.put, List.setIfInBounds_toArray, List.set_cons_zero, List.set_cons_succ]
  refine wpAnyH_ready (rs := [7]) (by kernel_rfl) (by simp) ?_
  refine AllReadyH.cons rfl (fun K hKK => ?_) AllReadyH.nil
  go_simp
  refine (place_bad _ P.nc _ (k : Int) _ HN.out (by omega)).mono ?_
  rintro e w4 ⟨rfl, rfl⟩
  exact post_raise rfl ⟨rfl, below_dn HP.out.bl 1⟩
end
end Go.Proofs.Ytmjelcoljmefeaa
