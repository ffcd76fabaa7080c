/-
  Contract of package judge: take.
-/
import Derived.Test.YtdikiabjkmigdaaGreatDoorUPkg3
import Derived.StillTailTactics
namespace Go.Proofs.YtdikiabjkmigdaaGreatDoor
open Go.RowKit
set_option maxRecDepth 20000
set_option maxHeartbeats 2000000

/-- What take answers, and the state behind it. -/
def Took (w : World) (g h k : Nat) (f : Fr) (o x : Int) (d gs : List Int) (e : Ending) (w' : World) : Prop :=
  e = .returned (.int .i64 (stepM f k o x d gs).1) ∧ ((stepM f k o x d gs).1 = 0 → St w' g h (stepM f k o x d gs).2.1 (stepM f k o x d gs).2.2) ∧ Keeps [g, h] w w'
theorem Took.bad {w w' : World} {g h k : Nat} {f : Fr} {o x z : Int} {d gs : List Int} (h1 : (stepM f k o x d gs).1 = z) (hz : z ≠ 0) (hk : Keeps [g, h] w w') : Took w g h k f o x d gs (.returned (.int .i64 z)) w' :=
  ⟨by rw [h1], fun h => absurd (h1.symm.trans h) hz, hk⟩
theorem stepM_pre {f : Fr} {k : Nat} {o x z : Int} {d gs : List Int} (h : preE f k o x d = z) (hz : z ≠ 0) : (stepM f k o x d gs).1 = z := by subst h; unfold stepM; rw [if_pos hz]
theorem St.keepB {w w' : World} {g h B : Nat} {d gs : List Int} (s : St w g h d gs) (hb : Below B w w') (hg : g < B) (hh : h < B) : St w' g h d gs := ⟨s.ne, s.s.keep hb hg, s.l.keep hb hh⟩
structure TK (w0 : World) (s1 s2 s3 s4 s5 : Int) (g h n : Nat) (o x : Int) (d gs : List Int) (w : World) : Prop where
  b3 : Blk w w0.heap.size 104 [.int .i64 s1, .int .i64 s2, .int .i64 s3, .int .i64 s4, .int .i64 s5, .slice (some ⟨g, 0, none⟩) (n + 1) (n + 1), .slice (some ⟨h, 0, none⟩) (n + 1) (n + 1)]
  b5 : Blk w (w0.heap.size + 1) 56 [.int .i64 o, .int .i32 x]
  st : St w g h d gs
  bl : Below w0.heap.size w0 w
section
variable {w0 w w' : World} {g h n : Nat} {s1 s2 s3 s4 s5 o x : Int} {d gs : List Int}
theorem TK.keep (t : TK w0 s1 s2 s3 s4 s5 g h n o x d gs w) (hb : Below w.heap.size w w') : TK w0 s1 s2 s3 s4 s5 g h n o x d gs w' :=
  ⟨t.b3.keep hb t.b3.lt, t.b5.keep hb t.b5.lt, t.st.keepB hb t.st.s.lt t.st.l.lt, t.bl.trans (hb.mono t.bl.size)⟩
theorem TK.begin (st : St w0 g h d gs) : TK w0 s1 s2 s3 s4 s5 g h n o x d gs ((w0.alloc (.cells #[.int .i64 s1, .int .i64 s2, .int .i64 s3, .int .i64 s4, .int .i64 s5, .slice (some ⟨g, 0, none⟩) (n + 1) (n + 1), .slice (some ⟨h, 0, none⟩) (n + 1) (n + 1)] 104)).alloc (.cells #[.int .i64 o, .int .i32 x] 56)) :=
  ⟨(Blk.new w0 _ _).alloc _, Blk.at (w0.alloc _) _ [.int .i64 o, .int .i32 x] (by simp), ⟨st.ne, (st.s.alloc _).alloc _, (st.l.alloc _).alloc _⟩, ((Below.refl _ w0).alloc (Nat.le_refl _) _).alloc (by simp) _⟩
theorem TK.keeps (t : TK w0 s1 s2 s3 s4 s5 g h n o x d gs w) : Keeps [g, h] w0 w := Keeps.of_below t.bl
end
theorem take_right (s1 s2 s3 s4 s5 : Int) (k n g h : Nat) (o x z : Int) (d gs : List Int) (w : World) (st : St w g h d gs) (hz : (z != 0) = true) (H : Hid (rgtE o x = z)) :
    Calls Tryz.prog 80 #[.agg #[.int .i64 s1, .int .i64 s2, .int .i64 s3, .int .i64 s4, .int .i64 s5, .slice (some ⟨g, 0, none⟩) (n + 1) (n + 1), .slice (some ⟨h, 0, none⟩) (n + 1) (n + 1)], .int .i64 (k : Int), .agg #[.int .i64 o, .int .i32 x]] w (Took w g h k ⟨s1, s2, s3, s4, s5⟩ o x d gs) := by
  have HE := hide (show (stepM ⟨s1, s2, s3, s4, s5⟩ k o x d gs).1 = z ∧ z ≠ 0 by
    have hz' : z ≠ 0 := by simpa using hz
    exact ⟨stepM_pre (by unfold preE; rw [H.out, if_pos hz']) hz', hz'⟩)
  go_enter Tryz.func80, Tryz.ntmps80
  go_wp2_with fail
  have T1 := TK.begin (n := n) (s1 := s1) (s2 := s2) (s3 := s3) (s4 := s4) (s5 := s5) (o := o) (x := x) st
  generalize (w.alloc (.cells #[.int .i64 s1, .int .i64 s2, .int .i64 s3, .int .i64 s4, .int .i64 s5, .slice (some ⟨g, 0, none⟩) (n + 1) (n + 1), .slice (some ⟨h, 0, none⟩) (n + 1) (n + 1)] 104)).alloc (.cells #[.int .i64 o, .int .i32 x] 56) = w1 at T1 ⊢
  refine (iRight_any o x w1).mono ?_
  rw [H.out]
  rintro e w2 ⟨rfl, hb2⟩
  have T2 := T1.keep hb2
  clear hb2 T1
  go_wp2
  go_ret
  exact Took.bad HE.out.1 HE.out.2 T2.keeps
theorem take_inside (s1 s2 s3 s4 s5 : Int) (k n g h : Nat) (o x : Int) (d gs : List Int) (w : World) (st : St w g h d gs) (hf : okF ⟨s1, s2, s3, s4, s5⟩) (hx : -2147483648 ≤ x ∧ x ≤ 2147483647) (H : Hid (rgtE o x = 0)) (HI : Hid (decide (insd ⟨s1, s2, s3, s4, s5⟩ o x) = false)) :
    Calls Tryz.prog 80 #[.agg #[.int .i64 s1, .int .i64 s2, .int .i64 s3, .int .i64 s4, .int .i64 s5, .slice (some ⟨g, 0, none⟩) (n + 1) (n + 1), .slice (some ⟨h, 0, none⟩) (n + 1) (n + 1)], .int .i64 (k : Int), .agg #[.int .i64 o, .int .i32 x]] w (Took w g h k ⟨s1, s2, s3, s4, s5⟩ o x d gs) := by
  have HE := hide (show (stepM ⟨s1, s2, s3, s4, s5⟩ k o x d gs).1 = 10 from stepM_pre (by unfold preE; rw [H.out, if_neg (by omega), if_pos (of_decide_eq_false HI.out)]) (by omega))
  go_enter Tryz.func80, Tryz.ntmps80
  go_wp2_with fail
  have T1 := TK.begin (n := n) (s1 := s1) (s2 := s2) (s3 := s3) (s4 := s4) (s5 := s5) (o := o) (x := x) st
  generalize (w.alloc (.cells #[.int .i64 s1, .int .i64 s2, .int .i64 s3, .int .i64 s4, .int .i64 s5, .slice (some ⟨g, 0, none⟩) (n + 1) (n + 1), .slice (some ⟨h, 0, none⟩) (n + 1) (n + 1)] 104)).alloc (.cells #[.int .i64 o, .int .i32 x] 56) = w1 at T1 ⊢
  refine (iRight_any o x w1).mono ?_
  rw [H.out]
  rintro e w2 ⟨rfl, hb2⟩
  have T2 := T1.keep hb2
  clear hb2 T1
  have c50 := T2.b5.cell (j := 0) rfl
  have c51 := T2.b5.cell (j := 1) rfl
  have c30 := T2.b3.cell (j := 0) rfl
  have c31 := T2.b3.cell (j := 1) rfl
  have c32 := T2.b3.cell (j := 2) rfl
  have c33 := T2.b3.cell (j := 3) rfl
  have c34 := T2.b3.cell (j := 4) rfl
  go_wp2_with fail
  refine (inside_b o x ⟨s1, s2, s3, s4, s5⟩ false w2 hf HI hx).mono ?_
  rintro e w3 ⟨rfl, hb3⟩
  have T3 := T2.keep hb3
  clear hb3 T2 c50 c51 c30 c31 c32 c33 c34
  go_wp2
  go_ret
  exact Took.bad HE.out (by omega) T3.keeps
theorem take_reach (s1 s2 s3 s4 s5 : Int) (k n g h : Nat) (o x dk : Int) (d gs : List Int) (w : World) (st : St w g h d gs) (hf : okF ⟨s1, s2, s3, s4, s5⟩) (hx : -2147483648 ≤ x ∧ x ≤ 2147483647) (H : Hid (rgtE o x = 0)) (HI : Hid (decide (insd ⟨s1, s2, s3, s4, s5⟩ o x) = true)) (HK : Hid (k < d.length)) (hk : k < n) (HD : Hid (gd d k = dk)) (h0 : dk < 0) :
    Calls Tryz.prog 80 #[.agg #[.int .i64 s1, .int .i64 s2, .int .i64 s3, .int .i64 s4, .int .i64 s5, .slice (some ⟨g, 0, none⟩) (n + 1) (n + 1), .slice (some ⟨h, 0, none⟩) (n + 1) (n + 1)], .int .i64 (k : Int), .agg #[.int .i64 o, .int .i32 x]] w (Took w g h k ⟨s1, s2, s3, s4, s5⟩ o x d gs) := by
  have HE := hide (show (stepM ⟨s1, s2, s3, s4, s5⟩ k o x d gs).1 = 13 from stepM_pre (by unfold preE; rw [H.out, if_neg (by omega), if_neg (by have := of_decide_eq_true HI.out; exact fun hn => hn this), HD.out, if_pos h0]) (by omega))
  go_enter Tryz.func80, Tryz.ntmps80
  go_wp2_with fail
  have T1 := TK.begin (n := n) (s1 := s1) (s2 := s2) (s3 := s3) (s4 := s4) (s5 := s5) (o := o) (x := x) st
  generalize (w.alloc (.cells #[.int .i64 s1, .int .i64 s2, .int .i64 s3, .int .i64 s4, .int .i64 s5, .slice (some ⟨g, 0, none⟩) (n + 1) (n + 1), .slice (some ⟨h, 0, none⟩) (n + 1) (n + 1)] 104)).alloc (.cells #[.int .i64 o, .int .i32 x] 56) = w1 at T1 ⊢
  refine (iRight_any o x w1).mono ?_
  rw [H.out]
  rintro e w2 ⟨rfl, hb2⟩
  have T2 := T1.keep hb2
  clear hb2 T1
  have c50 := T2.b5.cell (j := 0) rfl
  have c51 := T2.b5.cell (j := 1) rfl
  have c30 := T2.b3.cell (j := 0) rfl
  have c31 := T2.b3.cell (j := 1) rfl
  have c32 := T2.b3.cell (j := 2) rfl
  have c33 := T2.b3.cell (j := 3) rfl
  have c34 := T2.b3.cell (j := 4) rfl
  go_wp2_with fail
  refine (inside_b o x ⟨s1, s2, s3, s4, s5⟩ true w2 hf HI hx).mono ?_
  rintro e w3 ⟨rfl, hb3⟩
  have T3 := T2.keep hb3
  clear hb3 T2 c50 c51 c30 c31 c32 c33 c34
  have c35 := T3.b3.cell (j := 5) rfl
  obtain ⟨cs0, cs1⟩ := csS_at (d := d) (t := k) HK.out
  replace cs0 := T3.st.s.cell cs0
  replace cs1 := T3.st.s.cell cs1
  rw [HD.out] at cs0 cs1
  rw [show decide (0 ≤ dk) = false by simpa using h0, dv_neg h0] at *
  go_wp2
  go_ret
  exact Took.bad HE.out (by omega) (T3.keeps.alloc _)
theorem effect_pq (o p q : Int) (w : World) (H : Hid (tak o = p ∧ giv o = q)) : Calls Tryz.prog 105 #[.int .i64 o] w fun e w' => e = .returned (.tuple #[.int .i64 p, .int .i64 q]) ∧ w = w' := by
  have := effect_any o w
  rwa [H.out.1, H.out.2] at this
theorem take_stack (s1 s2 s3 s4 s5 : Int) (k n g h : Nat) (o x dk pp qq : Int) (d gs : List Int) (w : World) (st : St w g h d gs) (hf : okF ⟨s1, s2, s3, s4, s5⟩) (hx : -2147483648 ≤ x ∧ x ≤ 2147483647) (H : Hid (rgtE o x = 0)) (HI : Hid (decide (insd ⟨s1, s2, s3, s4, s5⟩ o x) = true)) (HK : Hid (k < d.length)) (hk : k < n) (HD : Hid (gd d k = dk)) (h0 : 0 ≤ dk) (h16 : dk ≤ 16) (HP : Hid (tak o = pp ∧ giv o = qq)) (hp : 0 ≤ pp ∧ pp ≤ 2) (hq : 0 ≤ qq ∧ qq ≤ 1) (hst : dk < pp ∨ 16 < dk - pp + qq) :
    Calls Tryz.prog 80 #[.agg #[.int .i64 s1, .int .i64 s2, .int .i64 s3, .int .i64 s4, .int .i64 s5, .slice (some ⟨g, 0, none⟩) (n + 1) (n + 1), .slice (some ⟨h, 0, none⟩) (n + 1) (n + 1)], .int .i64 (k : Int), .agg #[.int .i64 o, .int .i32 x]] w (Took w g h k ⟨s1, s2, s3, s4, s5⟩ o x d gs) := by
  have HE := hide (show (stepM ⟨s1, s2, s3, s4, s5⟩ k o x d gs).1 = 12 from stepM_pre (by unfold preE; rw [H.out, if_neg (by omega), if_neg (by have := of_decide_eq_true HI.out; exact fun hn => hn this), HD.out, HP.out.1, HP.out.2, if_neg (by omega), if_pos hst]) (by omega))
  rcases (show dk < pp ∨ (¬ dk < pp ∧ 16 < dk - pp + qq) by omega) with hd | ⟨hd, hd2⟩
  all_goals
    clear hst
    go_enter Tryz.func80, Tryz.ntmps80
    go_wp2_with fail
    have T1 := TK.begin (n := n) (s1 := s1) (s2 := s2) (s3 := s3) (s4 := s4) (s5 := s5) (o := o) (x := x) st
    generalize (w.alloc (.cells #[.int .i64 s1, .int .i64 s2, .int .i64 s3, .int .i64 s4, .int .i64 s5, .slice (some ⟨g, 0, none⟩) (n + 1) (n + 1), .slice (some ⟨h, 0, none⟩) (n + 1) (n + 1)] 104)).alloc (.cells #[.int .i64 o, .int .i32 x] 56) = w1 at T1 ⊢
    refine (iRight_any o x w1).mono ?_
    rw [H.out]
    rintro e w2 ⟨rfl, hb2⟩
    have T2 := T1.keep hb2
    clear hb2 T1
    have c50 := T2.b5.cell (j := 0) rfl
    have c51 := T2.b5.cell (j := 1) rfl
    have c30 := T2.b3.cell (j := 0) rfl
    have c31 := T2.b3.cell (j := 1) rfl
    have c32 := T2.b3.cell (j := 2) rfl
    have c33 := T2.b3.cell (j := 3) rfl
    have c34 := T2.b3.cell (j := 4) rfl
    go_wp2_with fail
    refine (inside_b o x ⟨s1, s2, s3, s4, s5⟩ true w2 hf HI hx).mono ?_
    rintro e w3 ⟨rfl, hb3⟩
    have T3 := T2.keep hb3
    clear hb3 T2 c50 c51 c30 c31 c32 c33 c34
    have c35 := T3.b3.cell (j := 5) rfl
    obtain ⟨cs0, cs1⟩ := csS_at (d := d) (t := k) HK.out
    replace cs0 := T3.st.s.cell cs0
    replace cs1 := T3.st.s.cell cs1
    rw [HD.out] at cs0 cs1
    rw [show decide (0 ≤ dk) = true by simpa using h0, dv_pos h0] at *
    have c50 := T3.b5.cell (j := 0) rfl
    have c51 := T3.b5.cell (j := 1) rfl
    have hl5 := T3.b5.lt
    go_wp2_with fail
    refine (effect_pq o pp qq _ HP).mono ?_
    rintro e w4 ⟨rfl, rfl⟩
    go_wp2
    go_ret
    exact Took.bad HE.out (by omega) ((T3.keeps.alloc _).alloc _)
theorem calm_max {g : Nat} {ts : List Nat} {w : World} {i m : Nat} (hb : Blk w g 3 (csN ts)) (hts : 1 ≤ ts.length) (hl : ts.length ≤ 2) (hm : mxN ts = m) :
    Calls Tryz.prog 107 #[.slice (some ⟨g, 0, none⟩) ts.length ts.length] (w.drewN i) fun e w' => e = .returned (.int .i64 (m : Int)) ∧ w' = w.drewN i := by
  subst hm
  exact (Max_any g ts (w.drewN i) (hb.drewN i) hts hl).mono fun _ _ ⟨h, h'⟩ => ⟨h, h'.symm⟩
theorem take_jump (s1 s2 s3 s4 s5 : Int) (k n g h : Nat) (o x dk pp qq : Int) (d gs : List Int) (w : World) (st : St w g h d gs) (hf : okF ⟨s1, s2, s3, s4, s5⟩) (hx : -2147483648 ≤ x ∧ x ≤ 2147483647) (H : Hid (rgtE o x = 0)) (HI : Hid (decide (insd ⟨s1, s2, s3, s4, s5⟩ o x) = true)) (HK : Hid (k < d.length)) (hk : k < n) (HD : Hid (gd d k = dk)) (h0 : 0 ≤ dk) (h16 : dk ≤ 16) (HP : Hid (tak o = pp ∧ giv o = qq)) (hp : 0 ≤ pp ∧ pp ≤ 2) (hq : 0 ≤ qq ∧ qq ≤ 1) (hst : ¬ dk < pp) (hs2 : dk - pp + qq ≤ 16) (ts : List Nat) (mx : Nat) (HT : Hid (tg o x k = ts)) (HO : Hid (o = 10 ∨ o = 11 → 0 ≤ x)) (HM : Hid (mxN ts = mx ∧ d.length = n + 1)) (h1 : 1 ≤ ts.length) (h2 : ts.length ≤ 2) (hn : n ≤ 600) (hmx : n + 1 ≤ mx) :
    Calls Tryz.prog 80 #[.agg #[.int .i64 s1, .int .i64 s2, .int .i64 s3, .int .i64 s4, .int .i64 s5, .slice (some ⟨g, 0, none⟩) (n + 1) (n + 1), .slice (some ⟨h, 0, none⟩) (n + 1) (n + 1)], .int .i64 (k : Int), .agg #[.int .i64 o, .int .i32 x]] w (Took w g h k ⟨s1, s2, s3, s4, s5⟩ o x d gs) := by
  have HE := hide (show (stepM ⟨s1, s2, s3, s4, s5⟩ k o x d gs).1 = 11 from stepM_pre (by unfold preE; rw [H.out, if_neg (by omega), if_neg (by have := of_decide_eq_true HI.out; exact fun hn => hn this), HD.out, HP.out.1, HP.out.2, if_neg (by omega), if_neg (by omega), HT.out, if_pos]; (have h := HM.out; refine Classical.byContradiction fun hc => ?_; have h3 := (mxN_le ts n).2 (fun t ht => Nat.le_of_lt_succ (Nat.lt_of_not_le fun hle => hc ⟨t, ht, by omega⟩)); omega)) (by omega))
  go_enter Tryz.func80, Tryz.ntmps80
  go_wp2_with fail
  have T1 := TK.begin (n := n) (s1 := s1) (s2 := s2) (s3 := s3) (s4 := s4) (s5 := s5) (o := o) (x := x) st
  generalize (w.alloc (.cells #[.int .i64 s1, .int .i64 s2, .int .i64 s3, .int .i64 s4, .int .i64 s5, .slice (some ⟨g, 0, none⟩) (n + 1) (n + 1), .slice (some ⟨h, 0, none⟩) (n + 1) (n + 1)] 104)).alloc (.cells #[.int .i64 o, .int .i32 x] 56) = w1 at T1 ⊢
  refine (iRight_any o x w1).mono ?_
  rw [H.out]
  rintro e w2 ⟨rfl, hb2⟩
  have T2 := T1.keep hb2
  clear hb2 T1
  have c50 := T2.b5.cell (j := 0) rfl
  have c51 := T2.b5.cell (j := 1) rfl
  have c30 := T2.b3.cell (j := 0) rfl
  have c31 := T2.b3.cell (j := 1) rfl
  have c32 := T2.b3.cell (j := 2) rfl
  have c33 := T2.b3.cell (j := 3) rfl
  have c34 := T2.b3.cell (j := 4) rfl
  go_wp2_with fail
  refine (inside_b o x ⟨s1, s2, s3, s4, s5⟩ true w2 hf HI hx).mono ?_
  rintro e w3 ⟨rfl, hb3⟩
  have T3 := T2.keep hb3
  clear hb3 T2 c50 c51 c30 c31 c32 c33 c34
  have c35 := T3.b3.cell (j := 5) rfl
  obtain ⟨cs0, cs1⟩ := csS_at (d := d) (t := k) HK.out
  replace cs0 := T3.st.s.cell cs0
  replace cs1 := T3.st.s.cell cs1
  rw [HD.out] at cs0 cs1
  rw [show decide (0 ≤ dk) = true by simpa using h0, dv_pos h0] at *
  have c50 := T3.b5.cell (j := 0) rfl
  have c51 := T3.b5.cell (j := 1) rfl
  have hl5 := T3.b5.lt
  have hl6 : w.heap.size < w3.heap.size := T3.b3.lt
  go_wp2_with fail
  refine (effect_pq o pp qq _ HP).mono ?_
  rintro e w4 ⟨rfl, rfl⟩
  go_wp2_with fail
  have ba := Blk.at (w3.alloc (.cells #[.bool true, .int .i64 dk] 108)) 108 [.bool true, .int .i64 (dk - pp + qq)] (g := w3.heap.size + 1) (by simp)
  have T4 := T3.keep (((Below.refl _ w3).alloc (Nat.le_refl _) (.cells #[.bool true, .int .i64 dk] 108)).alloc (by simp) (.cells #[.bool true, .int .i64 (dk - pp + qq)] 108))
  generalize (w3.alloc (.cells #[.bool true, .int .i64 dk] 108)).alloc (.cells #[.bool true, .int .i64 (dk - pp + qq)] 108) = w4 at ba T4 ⊢
  clear T3 c50 c51 c35 cs0 cs1 hl5 hl6
  refine (targetsOf_any o x k w4 (by omega) hx HO.out).mono ?_
  rw [HT.out]
  rintro e w5 ⟨qt, rfl, hqt, bt, hb5⟩
  have T5 := T4.keep hb5
  have ba5 := ba.keep hb5 ba.lt
  have hba := ba.lt
  clear T4 ba hb5
  have c35 := T5.b3.cell (j := 5) rfl
  go_wp2_with fail
  have hM := fun i => calm_max (i := i) bt h1 h2 HM.out.1
  go_quiet ((go_at_call 107; exact Calls.quiet_of_same (hM _)))
  go_wp2
  go_ret
  exact Took.bad HE.out (by omega) (T5.keeps.drewN _)
structure TL (w0 : World) (s1 s2 s3 s4 s5 : Int) (g h n qa qt : Nat) (v : Int) (ts : List Nat) (d gs : List Int) (w : World) : Prop where
  b3 : Blk w w0.heap.size 104 [.int .i64 s1, .int .i64 s2, .int .i64 s3, .int .i64 s4, .int .i64 s5, .slice (some ⟨g, 0, none⟩) (n + 1) (n + 1), .slice (some ⟨h, 0, none⟩) (n + 1) (n + 1)]
  ba : Blk w qa 108 [.bool true, .int .i64 v]
  bt : Blk w qt 3 (csN ts)
  st : St w g h d gs
  kp : Keeps [g, h] w0 w
theorem TL.alloc {w0 w : World} {s1 s2 s3 s4 s5 v : Int} {g h n qa qt : Nat} {ts : List Nat} {d gs : List Int} (t : TL w0 s1 s2 s3 s4 s5 g h n qa qt v ts d gs w) (o : Obj) : TL w0 s1 s2 s3 s4 s5 g h n qa qt v ts d gs (w.alloc o) :=
  ⟨t.b3.alloc o, t.ba.alloc o, t.bt.alloc o, ⟨t.st.ne, t.st.s.alloc o, t.st.l.alloc o⟩, t.kp.alloc o⟩
theorem TL.drew {w0 w : World} {s1 s2 s3 s4 s5 v : Int} {g h n qa qt : Nat} {ts : List Nat} {d gs : List Int} (t : TL w0 s1 s2 s3 s4 s5 g h n qa qt v ts d gs w) : TL w0 s1 s2 s3 s4 s5 g h n qa qt v ts d gs w.drew :=
  ⟨t.b3.drew, t.ba.drew, t.bt.drew, ⟨t.st.ne, t.st.s.drew, t.st.l.drew⟩, t.kp.drew⟩
theorem TL.state {w0 w : World} {s1 s2 s3 s4 s5 v : Int} {g h n qa qt t : Nat} {ts : List Nat} {d gs : List Int} (T : TL w0 s1 s2 s3 s4 s5 g h n qa qt v ts d gs w) (hv : 0 ≤ v) (ht : t < d.length) (h1 : g ≠ w0.heap.size) (h2 : g ≠ qa) (h3 : g ≠ qt) :
    TL w0 s1 s2 s3 s4 s5 g h n qa qt v ts (d.set t v) gs ((w.setCell ⟨g, t * 2, none⟩ (.bool true)).setCell ⟨g, t * 2 + 1, none⟩ (.int .i64 v)) :=
  ⟨(T.b3.other h1.symm _ _).other h1.symm _ _, (T.ba.other h2.symm _ _).other h2.symm _ _, (T.bt.other h3.symm _ _).other h3.symm _ _,
    ⟨T.st.ne, by have := (T.st.s.set (t * 2) (.bool true)).set (t * 2 + 1) (.int .i64 v); rwa [csS_set ht hv] at this, (T.st.l.other T.st.ne.symm _ _).other T.st.ne.symm _ _⟩,
    (T.kp.set (p := ⟨g, t * 2, none⟩) (by simp) _).set (p := ⟨g, t * 2 + 1, none⟩) (by simp) _⟩
theorem TL.longest {w0 w : World} {s1 s2 s3 s4 s5 v u : Int} {g h n qa qt t : Nat} {ts : List Nat} {d gs : List Int} (T : TL w0 s1 s2 s3 s4 s5 g h n qa qt v ts d gs w) (h1 : h ≠ w0.heap.size) (h2 : h ≠ qa) (h3 : h ≠ qt) :
    TL w0 s1 s2 s3 s4 s5 g h n qa qt v ts d (gs.set t u) (w.setCell ⟨h, t, none⟩ (.int .i64 u)) :=
  ⟨T.b3.other h1.symm _ _, T.ba.other h2.symm _ _, T.bt.other h3.symm _ _,
    ⟨T.st.ne, T.st.s.other T.st.ne _ _, by have := T.st.l.set t (.int .i64 u); rwa [csG_set] at this⟩, T.kp.set (p := ⟨h, t, none⟩) (by simp) _⟩
theorem max_if (a b : Int) : max a b = if a < b then b else a := by rw [Int.max_def]; split <;> split <;> omega
theorem putM_bad {v m : Int} {t : Nat} {ts : List Nat} {d g : List Int} (h : 0 ≤ gd d t ∧ gd d t ≠ v) : putM v m (t :: ts) d g = none := if_pos h
theorem putM_go {v m : Int} {t : Nat} {ts : List Nat} {d g : List Int} (h : ¬ (0 ≤ gd d t ∧ gd d t ≠ v)) : putM v m (t :: ts) d g = putM v m ts (d.set t v) (g.set t (max (gd g t) m)) := if_neg h
theorem stepM_none {f : Fr} {k : Nat} {o x : Int} {d gs : List Int} (h : preE f k o x d = 0) (h2 : putM (gd d k - tak o + giv o) (gd gs k + 1) (tg o x k) d gs = none) : (stepM f k o x d gs).1 = 12 := by unfold stepM; rw [if_neg (by omega), h2]
theorem stepM_some {f : Fr} {k : Nat} {o x : Int} {d gs d' gs' : List Int} (h : preE f k o x d = 0) (h2 : putM (gd d k - tak o + giv o) (gd gs k + 1) (tg o x k) d gs = some (d', gs')) : stepM f k o x d gs = (0, d', gs') := by unfold stepM; rw [if_neg (by omega), h2]
theorem Took.good {w w' : World} {g h k : Nat} {f : Fr} {o x : Int} {d gs d' gs' : List Int} (h1 : stepM f k o x d gs = (0, d', gs')) (st : St w' g h d' gs') (hk : Keeps [g, h] w w') : Took w g h k f o x d gs (.returned (.int .i64 0)) w' :=
  ⟨by rw [h1], fun _ => by rw [h1]; exact st, hk⟩
theorem take_loop (s1 s2 s3 s4 s5 : Int) (k n g h : Nat) (o x dk pp qq : Int) (d gs : List Int) (w : World) (st : St w g h d gs) (hf : okF ⟨s1, s2, s3, s4, s5⟩) (hx : -2147483648 ≤ x ∧ x ≤ 2147483647) (H : Hid (rgtE o x = 0)) (HI : Hid (decide (insd ⟨s1, s2, s3, s4, s5⟩ o x) = true)) (HK : Hid (k < d.length)) (hk : k < n) (HD : Hid (gd d k = dk)) (h0 : 0 ≤ dk) (h16 : dk ≤ 16) (HP : Hid (tak o = pp ∧ giv o = qq)) (hp : 0 ≤ pp ∧ pp ≤ 2) (hq : 0 ≤ qq ∧ qq ≤ 1) (hst : ¬ dk < pp) (hs2 : dk - pp + qq ≤ 16) (ts : List Nat) (mx : Nat) (HT : Hid (tg o x k = ts)) (HO : Hid (o = 10 ∨ o = 11 → 0 ≤ x)) (HM : Hid (mxN ts = mx ∧ d.length = n + 1)) (h1 : 1 ≤ ts.length) (h2 : ts.length ≤ 2) (hn : n ≤ 600) (hmx : mx ≤ n) (hlg : gs.length = n + 1) (fk : Int) (HF : Hid (gd gs k = fk)) (hfk : 0 ≤ fk ∧ fk ≤ 600) :
    Calls Tryz.prog 80 #[.agg #[.int .i64 s1, .int .i64 s2, .int .i64 s3, .int .i64 s4, .int .i64 s5, .slice (some ⟨g, 0, none⟩) (n + 1) (n + 1), .slice (some ⟨h, 0, none⟩) (n + 1) (n + 1)], .int .i64 (k : Int), .agg #[.int .i64 o, .int .i32 x]] w (Took w g h k ⟨s1, s2, s3, s4, s5⟩ o x d gs) := by
  have HE := hide (show preE ⟨s1, s2, s3, s4, s5⟩ k o x d = 0 by unfold preE; rw [H.out, if_neg (by omega), if_neg (by have := of_decide_eq_true HI.out; exact fun hn => hn this), HD.out, HP.out.1, HP.out.2, if_neg (by omega), if_neg (by omega), HT.out, if_neg]; (have h := HM.out; rintro ⟨t, ht, hle⟩; have := (mxN_le ts mx).1 (by omega) t ht; omega))
  have HR := hide (show ∀ t ∈ ts, k < t ∧ t ≤ n from fun t ht => ⟨by have := HT.out; subst this; exact tg_gt ht, by have := (mxN_le ts mx).1 (by have := HM.out; omega) t ht; omega⟩)
  have hgl := st.s.lt
  have hhl := st.l.lt
  go_enter Tryz.func80, Tryz.ntmps80
  go_wp2_with fail
  have T1 := TK.begin (n := n) (s1 := s1) (s2 := s2) (s3 := s3) (s4 := s4) (s5 := s5) (o := o) (x := x) st
  generalize (w.alloc (.cells #[.int .i64 s1, .int .i64 s2, .int .i64 s3, .int .i64 s4, .int .i64 s5, .slice (some ⟨g, 0, none⟩) (n + 1) (n + 1), .slice (some ⟨h, 0, none⟩) (n + 1) (n + 1)] 104)).alloc (.cells #[.int .i64 o, .int .i32 x] 56) = w1 at T1 ⊢
  refine (iRight_any o x w1).mono ?_
  rw [H.out]
  rintro e w2 ⟨rfl, hb2⟩
  have T2 := T1.keep hb2
  clear hb2 T1
  have c50 := T2.b5.cell (j := 0) rfl
  have c51 := T2.b5.cell (j := 1) rfl
  have c30 := T2.b3.cell (j := 0) rfl
  have c31 := T2.b3.cell (j := 1) rfl
  have c32 := T2.b3.cell (j := 2) rfl
  have c33 := T2.b3.cell (j := 3) rfl
  have c34 := T2.b3.cell (j := 4) rfl
  go_wp2_with fail
  refine (inside_b o x ⟨s1, s2, s3, s4, s5⟩ true w2 hf HI hx).mono ?_
  rintro e w3 ⟨rfl, hb3⟩
  have T3 := T2.keep hb3
  clear hb3 T2 c50 c51 c30 c31 c32 c33 c34
  have c35 := T3.b3.cell (j := 5) rfl
  obtain ⟨cs0, cs1⟩ := csS_at (d := d) (t := k) HK.out
  replace cs0 := T3.st.s.cell cs0
  replace cs1 := T3.st.s.cell cs1
  rw [HD.out] at cs0 cs1
  rw [show decide (0 ≤ dk) = true by simpa using h0, dv_pos h0] at *
  have c50 := T3.b5.cell (j := 0) rfl
  have c51 := T3.b5.cell (j := 1) rfl
  have hl5 := T3.b5.lt
  have hl6 : w.heap.size < w3.heap.size := T3.b3.lt
  go_wp2_with fail
  refine (effect_pq o pp qq _ HP).mono ?_
  rintro e w4 ⟨rfl, rfl⟩
  go_wp2_with fail
  have ba := Blk.at (w3.alloc (.cells #[.bool true, .int .i64 dk] 108)) 108 [.bool true, .int .i64 (dk - pp + qq)] (g := w3.heap.size + 1) (by simp)
  have T4 := T3.keep (((Below.refl _ w3).alloc (Nat.le_refl _) (.cells #[.bool true, .int .i64 dk] 108)).alloc (by simp) (.cells #[.bool true, .int .i64 (dk - pp + qq)] 108))
  generalize (w3.alloc (.cells #[.bool true, .int .i64 dk] 108)).alloc (.cells #[.bool true, .int .i64 (dk - pp + qq)] 108) = w4 at ba T4 ⊢
  have HL6 := hide hl6
  clear T3 c50 c51 c35 cs0 cs1 hl5 hl6
  refine (targetsOf_any o x k w4 (by omega) hx HO.out).mono ?_
  rw [HT.out]
  rintro e w5 ⟨qt, rfl, hqt, bt, hb5⟩
  have T5 := T4.keep hb5
  have ba5 := ba.keep hb5 ba.lt
  have hba := ba.lt
  clear T4 ba hb5
  have c35 := T5.b3.cell (j := 5) rfl
  go_wp2_with fail
  have hM := fun i => calm_max (i := i) bt h1 h2 HM.out.1
  go_quiet ((go_at_call 107; exact Calls.quiet_of_same (hM _)))
  generalize hw6 : w5.drewN nq = w6 at ⊢
  have TL0 : TL w s1 s2 s3 s4 s5 g h n (w3.heap.size + 1) qt (dk - pp + qq) ts d gs w6 := by
    subst hw6
    exact ⟨T5.b3.drewN _, ba5.drewN _, bt.drewN _, ⟨T5.st.ne, T5.st.s.drewN _, T5.st.l.drewN _⟩, T5.keeps.drewN _⟩
  clear hw6
  have hqa : w.heap.size ≤ w3.heap.size + 1 ∧ w.heap.size < qt := by have := HL6.out; omega
  generalize w3.heap.size + 1 = qa at TL0 hqa ⊢
  clear hM c35 bt ba5 T5 hba hqt
  generalize hv : dk - pp + qq = v at *
  have hv0 : 0 ≤ v := by omega
  have HV := hide hv
  clear hv
  go_wp2
  go_loopw [67] (fun i wr => ∃ (j : Nat) (d' gs' : List Int), j ≤ ts.length ∧ i = .int .i64 (j : Int) ∧ TL w s1 s2 s3 s4 s5 g h n qa qt v ts d' gs' wr ∧ Hid (putM v (fk + 1) ts d gs = putM v (fk + 1) (ts.drop j) d' gs' ∧ d'.length = n + 1 ∧ gs'.length = n + 1 ∧ gd gs' k = fk)) (fun i _ => ts.length - (intOf i).toNat)
  case atStart => exact ⟨0, d, gs, Nat.zero_le _, rfl, TL0, hide ⟨rfl, HM.out.2, hlg, HF.out⟩⟩
  case round =>
    clear TL0
    obtain ⟨j, d', gs', hj, rfl, T, HQ⟩ := hrel
    by_cases hlt : j < ts.length
    · obtain ⟨t, ht⟩ : ∃ t, ts[j] = t := ⟨_, rfl⟩
      have ht1 : t < n + 1 := by have := (HR.out ts[j] (List.getElem_mem hlt)).2; omega
      have HTK := hide (show k < t by have := (HR.out ts[j] (List.getElem_mem hlt)).1; omega)
      have ct := T.bt.cell (csN_at hlt)
      rw [ht] at ct
      have HDR := hide (show ts.drop j = t :: ts.drop (j + 1) by rw [List.drop_eq_getElem_cons hlt, ht])
      clear ht
      obtain ⟨dt, hdt⟩ : ∃ dt, gd d' t = dt := ⟨_, rfl⟩
      obtain ⟨cs0, cs1⟩ := csS_at (d := d') (t := t) (by have := HQ.out; omega)
      replace cs0 := T.st.s.cell cs0
      replace cs1 := T.st.s.cell cs1
      rw [hdt] at cs0 cs1
      have HDT := hide hdt
      clear hdt
      have c35 := T.b3.cell (j := 5) rfl
      have c36 := T.b3.cell (j := 6) rfl
      have ca0 := T.ba.cell (j := 0) rfl
      have ca1 := T.ba.cell (j := 1) rfl
      have l1 := T.b3.lt
      have l2 := T.ba.lt
      by_cases hbad : 0 ≤ dt ∧ dt ≠ v
      · have HE2 := hide (show (stepM ⟨s1, s2, s3, s4, s5⟩ k o x d gs).1 = 12 from stepM_none HE.out (by rw [HD.out, HP.out.1, HP.out.2, HF.out, HT.out, HV.out, HQ.out.1, HDR.out]; exact putM_bad (by rw [HDT.out]; exact hbad)))
        have e1 : decide (0 ≤ dt) = true := by simpa using hbad.1
        have e2 : (dt == v) = false := by rw [beq_eq_false_iff_ne]; exact hbad.2
        rw [dv_pos hbad.1] at cs1
        rw [e1] at cs0
        clear e1 hbad
        go_wp2
        go_ret
        exact Took.bad HE2.out (by omega) (T.kp.alloc _)
      · have HG := hide (putM_go (v := v) (m := fk + 1) (t := t) (ts := ts.drop (j + 1)) (d := d') (g := gs') (by rw [HDT.out]; exact hbad))
        have f0 := T.st.s.frozen (t * 2)
        have f1 := T.st.s.frozen (t * 2 + 1)
        have l3 := T.st.s.lt
        have l4 := T.st.l.lt
        have hne := T.st.ne
        obtain ⟨gt, hgt⟩ : ∃ gt, gd gs' t = gt := ⟨_, rfl⟩
        rw [hgt] at HG
        rw [max_if] at HG
        have HGT := hide hgt
        clear hgt
        have hcase : (dt < 0 ∧ decide (0 ≤ dt) = false ∧ dv dt = 0) ∨ (dt = v ∧ decide (0 ≤ dt) = true ∧ v = dv dt) := by
          by_cases h : dt < 0
          · exact .inl ⟨h, by simpa using h, dv_neg h⟩
          · exact .inr ⟨by omega, by simp; omega, by rw [dv_pos (by omega)]; omega⟩
        obtain ⟨b, y, hb1, hb2⟩ : ∃ b y, decide (0 ≤ dt) = b ∧ dv dt = y := ⟨_, _, rfl, rfl⟩
        rw [hb1] at cs0 hcase
        rw [hb2] at cs1 hcase
        clear hb1 hb2 hbad
        rcases hcase with ⟨_, rfl, rfl⟩ | ⟨_, rfl, rfl⟩
        · go_wp2_with fail
          have T2 := (T.state (t := t) hv0 (by have := HQ.out; omega) (by omega) (by omega) (by omega)).alloc (.cells #[.bool false, .int .i64 0] 108)
          generalize ((wr.setCell ⟨g, t * 2, none⟩ (.bool true)).setCell ⟨g, t * 2 + 1, none⟩ (.int .i64 v)).alloc (.cells #[.bool false, .int .i64 0] 108) = w7 at T2 ⊢
          have T3 := T2.drew
          clear cs0 cs1 c35 ca0 ca1 ct f0 f1 c36
          have c36 := T3.b3.cell (j := 6) rfl
          have cg := T3.st.l.cell (csG_at (t := t) (by have := HQ.out; omega))
          have ck := T3.st.l.cell (csG_at (t := k) (by have := HQ.out; omega))
          rw [HGT.out] at cg
          rw [HQ.out.2.2.2] at ck
          have fz := T3.st.l.frozen t
          have ht2 : (t : Int) < (n : Int) + 1 := by omega
          have hk2 : (k : Int) < (n : Int) + 1 := by omega
          have hk3 : k < n + 1 := by omega
          go_still_tail 16, (by kernel_rfl)
          change wpList _ _ _ _ _ w7.drew
          generalize w7.drew = w8 at T3 c36 cg ck fz ⊢
          go_wp2
          go_roundw
          case rel => exact ⟨j + 1, _, _, by omega, by go_num, T3.longest (t := t) (u := _) (by omega) (by omega) (by omega), hide ⟨HQ.out.1.trans (by rw [HDR.out]; exact HG.out), by rw [List.length_set]; exact HQ.out.2.1, by rw [List.length_set]; exact HQ.out.2.2.1, by rw [gd_set (by have := HQ.out; omega), if_neg (by have := HTK.out; omega)]; exact HQ.out.2.2.2⟩⟩
          case measure => simp [intOf]; omega
        · go_wp2_with fail
          have T2 := (T.state (t := t) hv0 (by have := HQ.out; omega) (by omega) (by omega) (by omega)).alloc (.cells #[.bool true, .int .i64 v] 108)
          generalize ((wr.setCell ⟨g, t * 2, none⟩ (.bool true)).setCell ⟨g, t * 2 + 1, none⟩ (.int .i64 v)).alloc (.cells #[.bool true, .int .i64 v] 108) = w7 at T2 ⊢
          have T3 := T2.drew
          clear cs0 cs1 c35 ca0 ca1 ct f0 f1 c36
          have c36 := T3.b3.cell (j := 6) rfl
          have cg := T3.st.l.cell (csG_at (t := t) (by have := HQ.out; omega))
          have ck := T3.st.l.cell (csG_at (t := k) (by have := HQ.out; omega))
          rw [HGT.out] at cg
          rw [HQ.out.2.2.2] at ck
          have fz := T3.st.l.frozen t
          have ht2 : (t : Int) < (n : Int) + 1 := by omega
          have hk2 : (k : Int) < (n : Int) + 1 := by omega
          have hk3 : k < n + 1 := by omega
          go_still_tail 16, (by kernel_rfl)
          change wpList _ _ _ _ _ w7.drew
          generalize w7.drew = w8 at T3 c36 cg ck fz ⊢
          go_wp2
          go_roundw
          case rel => exact ⟨j + 1, _, _, by omega, by go_num, T3.longest (t := t) (u := _) (by omega) (by omega) (by omega), hide ⟨HQ.out.1.trans (by rw [HDR.out]; exact HG.out), by rw [List.length_set]; exact HQ.out.2.1, by rw [List.length_set]; exact HQ.out.2.2.1, by rw [gd_set (by have := HQ.out; omega), if_neg (by have := HTK.out; omega)]; exact HQ.out.2.2.2⟩⟩
          case measure => simp [intOf]; omega
    · obtain rfl : j = ts.length := by omega
      go_wp2
      go_ret
      exact Took.good (stepM_some HE.out (by rw [HD.out, HP.out.1, HP.out.2, HF.out, HT.out, HV.out, HQ.out.1, List.drop_length]; rfl)) T.st T.kp
theorem tg_len (o x : Int) (k : Nat) : 1 ≤ (tg o x k).length ∧ (tg o x k).length ≤ 2 := by
  unfold tg; split
  · simp
  · split <;> simp
theorem rgt_jump {o x : Int} (h : rgtE o x = 0) : o = 10 ∨ o = 11 → 0 ≤ x := by
  rintro (rfl | rfl) <;> simp [rgtE] at h <;> omega
theorem take_any (s1 s2 s3 s4 s5 : Int) (k n g h : Nat) (o x : Int) (d gs : List Int) (w : World) (st : St w g h d gs) (hf : okF ⟨s1, s2, s3, s4, s5⟩) (hx : -2147483648 ≤ x ∧ x ≤ 2147483647) (hl : d.length = n + 1) (hlg : gs.length = n + 1) (hk : k < n) (hn : n ≤ 600)
    (hd : gd d k ≤ 16) (hg : 0 ≤ gd gs k ∧ gd gs k ≤ 600) :
    Calls Tryz.prog 80 #[.agg #[.int .i64 s1, .int .i64 s2, .int .i64 s3, .int .i64 s4, .int .i64 s5, .slice (some ⟨g, 0, none⟩) (n + 1) (n + 1), .slice (some ⟨h, 0, none⟩) (n + 1) (n + 1)], .int .i64 (k : Int), .agg #[.int .i64 o, .int .i32 x]] w (Took w g h k ⟨s1, s2, s3, s4, s5⟩ o x d gs) := by
  by_cases h1 : rgtE o x = 0
  · by_cases h2 : insd ⟨s1, s2, s3, s4, s5⟩ o x
    · have HI := hide (show decide (insd ⟨s1, s2, s3, s4, s5⟩ o x) = true by simpa using h2)
      by_cases h3 : gd d k < 0
      · exact take_reach s1 s2 s3 s4 s5 k n g h o x _ d gs w st hf hx (hide h1) HI (hide (by omega)) hk (hide rfl) h3
      · by_cases h4 : gd d k < tak o ∨ 16 < gd d k - tak o + giv o
        · exact take_stack s1 s2 s3 s4 s5 k n g h o x _ _ _ d gs w st hf hx (hide h1) HI (hide (by omega)) hk (hide rfl) (by omega) hd (hide ⟨rfl, rfl⟩) (tak_range o) (giv_range o) h4
        · by_cases h5 : n + 1 ≤ mxN (tg o x k)
          · exact take_jump s1 s2 s3 s4 s5 k n g h o x _ _ _ d gs w st hf hx (hide h1) HI (hide (by omega)) hk (hide rfl) (by omega) hd (hide ⟨rfl, rfl⟩) (tak_range o) (giv_range o) (by omega) (by omega) _ _ (hide rfl) (hide (rgt_jump h1)) (hide ⟨rfl, hl⟩) (tg_len o x k).1 (tg_len o x k).2 hn h5
          · exact take_loop s1 s2 s3 s4 s5 k n g h o x _ _ _ d gs w st hf hx (hide h1) HI (hide (by omega)) hk (hide rfl) (by omega) hd (hide ⟨rfl, rfl⟩) (tak_range o) (giv_range o) (by omega) (by omega) _ _ (hide rfl) (hide (rgt_jump h1)) (hide ⟨rfl, hl⟩) (tg_len o x k).1 (tg_len o x k).2 hn (by omega) hlg _ (hide rfl) hg
    · exact take_inside s1 s2 s3 s4 s5 k n g h o x d gs w st hf hx (hide h1) (hide (by simpa using h2))
  · exact take_right s1 s2 s3 s4 s5 k n g h o x _ d gs w st (by simpa using h1) (hide rfl)
end Go.Proofs.YtdikiabjkmigdaaGreatDoor
