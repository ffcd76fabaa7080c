/-
  Contract of the reference of layer 10: step. (Printed by tools/vref3.py.)
-/
import Derived.Test.YtmjelcoljmefeaaVRef2
import Derived.Test.YtmjelcoljmefeaaWRefB
import Derived.Deep.Cut
namespace Go.Proofs.Ytmjelcoljmefeaa
open Go.RowKit
set_option maxRecDepth 20000
set_option maxHeartbeats 2000000

/-- The three boxes of step. -/
structure SB (w0 : World) (q : Nat) (cI cS : List Value) (w : World) : Prop where
  b4 : Blk w q 52 cI
  b5 : Blk w (q + 1) 66 cS
  b8 : Blk w (q + 1 + 1) 66 [.int .i64 0, .slice none 0 0, .slice none 0 0, .slice none 0 0, .slice none 0 0]
  bl : Below w0.heap.size w0 w
  q0 : w0.heap.size ≤ q
section
variable {w0 w w' : World} {q : Nat} {cI cS : List Value}
theorem SB.start (w : World) (cI cS : List Value) : SB w w.heap.size cI cS (((w.alloc (.cells cI.toArray 52)).alloc (.cells cS.toArray 66)).alloc (.cells #[.int .i64 0, .slice none 0 0, .slice none 0 0, .slice none 0 0, .slice none 0 0] 66)) :=
  ⟨((Blk.new w _ cI).alloc _).alloc _, (Blk.at (w.alloc _) _ cS (by simp)).alloc _, Blk.at ((w.alloc _).alloc _) _ [.int .i64 0, .slice none 0 0, .slice none 0 0, .slice none 0 0, .slice none 0 0] (by simp), (((Below.refl _ w).alloc (Nat.le_refl _) _).alloc (by simp) _).alloc (by simp; omega) _, Nat.le_refl _⟩
theorem SB.keep (h : SB w0 q cI cS w) (hb : Below w.heap.size w w') : SB w0 q cI cS w' := ⟨h.b4.keep hb h.b4.lt, h.b5.keep hb h.b5.lt, h.b8.keep hb h.b8.lt, h.bl.trans (hb.mono h.bl.size), h.q0⟩
theorem SB.set (h : SB w0 q cI cS w) (j : Nat) (v : Value) : SB w0 q cI (cS.set j v) (w.setCell ⟨q + 1, j, none⟩ v) := ⟨h.b4.other (by omega) j v, h.b5.set j v, h.b8.other (by omega) j v, below_set h.bl (by have := h.q0; omega) v, h.q0⟩
end
/-- What step answers. -/
def Stated (s : VS) (w : World) (e : Ending) (w' : World) : Prop :=
  ∃ tA tc sA sc cA cc uA uc, e = .returned (.agg #[.int .i64 (s.p : Int), .slice tA s.st.length tc, .slice sA s.sl.length sc, .slice cA s.ce.length cc, .slice uA s.ou.length uc]) ∧
    Row w' w'.heap.size tA s.st.length tc (c32 s.st) ∧ Row w' w'.heap.size sA s.sl.length sc (c32 s.sl) ∧ Row w' w'.heap.size cA s.ce.length cc (c32 s.ce) ∧ Row w' w'.heap.size uA s.ou.length uc (c32 s.ou) ∧ Below w.heap.size w w'
theorem sizeSt : (Try.prog.info? 66).map (·.size) = some 5 := by kernel_rfl
theorem ret_state {fn : Func} {R : Ending → World → Prop} {a : Act} {w : World} {p : Tmp} {g : Nat} {cs : List Value} (h : fn.results = #[.cell p 66])
    (hp : a.tmps.getD p undef = .pointer (some ⟨g, 0, none⟩)) (hb : Blk w g 66 cs) (hl : cs.length = 5) (hd : a.defers = [])
    (hR : R (.returned (.agg cs.toArray)) w) : bodyPost Try.prog fn R .ret a w :=
  bodyPost_ret_by (results_cell_row h a.tmps w g 66 cs.toArray (0, 0) _ hp hb Try.underlying66 rfl (by simpa [hl] using sizeSt)) hd hR
/-- The rows of a state. -/
structure RS (w : World) (B : Nat) (tA sA cA uA oA iA : Option Addr) (tn tc sn sc cn cc un uc on oc ik ic : Nat) (s : VS) (old ins : List Int) : Prop where
  rt : Row w B tA tn tc (c32 s.st)
  rs : Row w B sA sn sc (c32 s.sl)
  rc : Row w B cA cn cc (c32 s.ce)
  ru : Row w B uA un uc (c32 s.ou)
  ro : Row w B oA on oc (c32 old)
  ri : Row w B iA ik ic (c32 ins)
section
variable {w w' : World} {B B' : Nat} {tA sA cA uA oA iA : Option Addr} {tn tc sn sc cn cc un uc on oc ik ic : Nat} {s : VS} {old ins : List Int}
theorem RS.keep (h : RS w B tA sA cA uA oA iA tn tc sn sc cn cc un uc on oc ik ic s old ins) (hb : Below B' w w') (hB : B ≤ B') : RS w' B tA sA cA uA oA iA tn tc sn sc cn cc un uc on oc ik ic s old ins :=
  ⟨h.rt.keep hb hB, h.rs.keep hb hB, h.rc.keep hb hB, h.ru.keep hb hB, h.ro.keep hb hB, h.ri.keep hb hB⟩
/-- A row that lies below the boxes, or above them. -/
def KP (w : World) (q : Nat) (A : Option Addr) (n c : Nat) (l : List Int) : Prop := (∃ B, B ≤ q ∧ Row w B A n c (c32 l)) ∨ w.ownsRow (q + 1 + 1 + 1) 21 1 (.slice A n c) n (c32 l)
theorem KP.set {q n c j : Nat} {A : Option Addr} {l : List Int} (h : KP w q A n c l) (g : Nat) (hg : g = q + 1 ∨ g = q + 1 + 1) (v : Value) : KP (w.setCell ⟨g, j, none⟩ v) q A n c l := by
  rcases h with ⟨B, hB, h⟩ | h
  · exact .inl ⟨B, hB, h.keep (B' := B) (below_set (Below.refl B w) (by omega) v) (Nat.le_refl _)⟩
  · exact .inr (own_other (q := g) h (fun k hk => by have := (h.lt k hk).1; omega) j v)
theorem KP.row {q n c : Nat} {A : Option Addr} {l : List Int} (h : KP w q A n c l) (hq : q ≤ w.heap.size) : l.length = n ∧ Row w w.heap.size A n c (c32 l) := by
  rcases h with ⟨B, hB, h⟩ | h
  · exact ⟨by have := h.len; rwa [c32_len] at this, h.more (by omega)⟩
  · exact ⟨by have := h.1; rw [c32_len] at this; omega, Row.of_own h⟩
theorem state_end {w0 w5 : World} {q tn tc sn sc cn cc un uc : Nat} {tA sA cA uA : Option Addr} {cI : List Value} {X : Value} {s' : VS} {P : Int} {a : Act} (hP : P = (s'.p : Int)) (hp : a.tmps.getD 8 undef = .pointer (some ⟨q + 1 + 1, 0, none⟩)) (hd : a.defers = [])
    (K : SB w0 q cI [.int .i64 P, X, .slice sA sn sc, .slice cA cn cc, .slice uA un uc] w5) (kt : KP w5 q tA tn tc s'.st) (ks : KP w5 q sA sn sc s'.sl) (kc : KP w5 q cA cn cc s'.ce) (ku : KP w5 q uA un uc s'.ou) :
    bodyPost Try.prog Try.f27 (Stated s' w0) .ret a ((((((w5.setCell ⟨q + 1, 1, none⟩ (.slice tA tn tc)).setCell ⟨q + 1 + 1, 0, none⟩ (.int .i64 P)).setCell ⟨q + 1 + 1, 1, none⟩ (.slice tA tn tc)).setCell ⟨q + 1 + 1, 2, none⟩ (.slice sA sn sc)).setCell ⟨q + 1 + 1, 3, none⟩ (.slice cA cn cc)).setCell ⟨q + 1 + 1, 4, none⟩ (.slice uA un uc)) := by
  subst hP
  have kk : ∀ {A : Option Addr} {n c : Nat} {l : List Int}, KP w5 q A n c l → KP ((((((w5.setCell ⟨q + 1, 1, none⟩ (.slice tA tn tc)).setCell ⟨q + 1 + 1, 0, none⟩ (.int .i64 (s'.p : Int))).setCell ⟨q + 1 + 1, 1, none⟩ (.slice tA tn tc)).setCell ⟨q + 1 + 1, 2, none⟩ (.slice sA sn sc)).setCell ⟨q + 1 + 1, 3, none⟩ (.slice cA cn cc)).setCell ⟨q + 1 + 1, 4, none⟩ (.slice uA un uc)) q A n c l :=
    fun h => ((((((h.set (q + 1) (.inl rfl) _).set (q + 1 + 1) (.inr rfl) _).set (q + 1 + 1) (.inr rfl) _).set (q + 1 + 1) (.inr rfl) _).set (q + 1 + 1) (.inr rfl) _).set (q + 1 + 1) (.inr rfl) _)
  have hb := (((((K.b8.other (h := q + 1) (by omega) 1 (.slice tA tn tc)).set 0 (.int .i64 (s'.p : Int))).set 1 (.slice tA tn tc)).set 2 (.slice sA sn sc)).set 3 (.slice cA cn cc)).set 4 (.slice uA un uc)
  have h0 := K.q0
  have hl := below_set (below_set (below_set (below_set (below_set (below_set K.bl (g := q + 1) (j := 1) (by omega) (.slice tA tn tc)) (g := q + 1 + 1) (j := 0) (by omega) (.int .i64 (s'.p : Int))) (g := q + 1 + 1) (j := 1) (by omega) (.slice tA tn tc)) (g := q + 1 + 1) (j := 2) (by omega) (.slice sA sn sc)) (g := q + 1 + 1) (j := 3) (by omega) (.slice cA cn cc)) (g := q + 1 + 1) (j := 4) (by omega) (.slice uA un uc)
  have hq := hb.lt
  obtain ⟨e1, r1⟩ := (kk kt).row (by omega)
  obtain ⟨e2, r2⟩ := (kk ks).row (by omega)
  obtain ⟨e3, r3⟩ := (kk kc).row (by omega)
  obtain ⟨e4, r4⟩ := (kk ku).row (by omega)
  clear kk kt ks kc ku
  subst e1; subst e2; subst e3; subst e4
  exact ret_state rfl hp hb rfl hd ⟨tA, tc, sA, sc, cA, cc, uA, uc, rfl, r1, r2, r3, r4, hl⟩
theorem c32_row {A : Option Addr} {n c : Nat} {l : List Int} (h : Row w B A n c (c32 l)) : l.length = n := by have := h.len; rwa [c32_len] at this
end
theorem rs1_E (x : Int) (hx : -2147483648 ≤ x ∧ x ≤ 2147483647) (tA sA cA uA oA iA : Option Addr) (tc sn sc cn cc un uc on oc ik ic B : Nat) (s : VS) (old ins : List Int) (w : World) (hB : B ≤ w.heap.size) (hp : s.p ≤ 600) (hR : RS w B tA sA cA uA oA iA 0 tc sn sc cn cc un uc on oc ik ic s old ins) (hrg : rngL s.st)  :
    Calls Try.prog 27 #[.agg #[.int .i64 1, .int .i32 x], .agg #[.int .i64 (s.p : Int), .slice tA 0 tc, .slice sA sn sc, .slice cA cn cc, .slice uA un uc], .slice oA on oc, .slice iA ik ic] w (Stated ⟨s.p + 1, List.take 0 s.st ++ [x], s.sl, s.ce, s.ou⟩ w) := by
  obtain ⟨ii, hi, h1⟩ := Option.map_eq_some_iff.1 infoN
  simp at h1
  obtain ⟨hz0, hz1, hz2⟩ := h1
  have HI := hide (And.intro hi (And.intro hz0 (And.intro hz1 hz2)))
  clear hi hz0 hz1 hz2
  have hst := c32_row hR.rt
  have hsl := c32_row hR.rs
  have hce := c32_row hR.rc
  have hou := c32_row hR.ru
  have hol := c32_row hR.ro
  have hil := c32_row hR.ri
  have HLN := hide (And.intro hst (And.intro hsl (And.intro hce (And.intro hou (And.intro hol hil)))))
  clear hst hsl hce hou hol hil
  have HR := hide hR
  have HG := hide hrg
  clear hR hrg
  go_enter Try.func27, Try.ntmps27
  go_wp2_with fail
  have K := hide (SB.start w [.int .i64 1, .int .i32 x] [.int .i64 (s.p : Int), .slice tA 0 tc, .slice sA sn sc, .slice cA cn cc, .slice uA un uc])
  have hsz : (((w.alloc (.cells #[.int .i64 1, .int .i32 x] 52)).alloc (.cells #[.int .i64 (s.p : Int), .slice tA 0 tc, .slice sA sn sc, .slice cA cn cc, .slice uA un uc] 66)).alloc (.cells #[.int .i64 0, .slice none 0 0, .slice none 0 0, .slice none 0 0, .slice none 0 0] 66)).heap.size = w.heap.size + 1 + 1 + 1 := by simp
  generalize ((w.alloc (.cells #[.int .i64 1, .int .i32 x] 52)).alloc (.cells #[.int .i64 (s.p : Int), .slice tA 0 tc, .slice sA sn sc, .slice cA cn cc, .slice uA un uc] 66)).alloc (.cells #[.int .i64 0, .slice none 0 0, .slice none 0 0, .slice none 0 0, .slice none 0 0] 66) = w1 at K hsz ⊢
  obtain ⟨q, hq⟩ : ∃ q, w.heap.size = q := ⟨_, rfl⟩
  rw [hq] at K hsz ⊢
  have HQ := hide hq
  clear hq
  refine wp_region_still_tail 9 (by kernel_rfl) (by kernel_rfl) ?_
  simp only [List.take_succ_cons, List.take_zero, List.drop_succ_cons, List.drop_zero]
  rw [show ({ heap := w1.heap, tape := w1.tape, drawn := w1.drawn + 1, os := w1.os, output := w1.output } : World) = w1.drew from rfl]
  replace K := hide (K.out.keep (Below.refl _ w1).drew)
  have hsz2 : w1.drew.heap.size = q + 1 + 1 + 1 := hsz
  clear hsz
  generalize w1.drew = w2 at K hsz2 ⊢
  have i0 := K.out.b4.cell (j := 0) rfl
  have s1 := K.out.b5.cell (j := 1) rfl
  have hrow := HR.out.rt.keep K.out.bl hB
  obtain ⟨hA, hc, hsl, hrow2⟩ := hrow.headed Try.underlying25 sizeN (hi := 0) (by omega) (0) (by omega)
  have hw1 : IntKind.i64.wrap (0) = 0 := IntWalk.i64_in _ (by omega)
  clear hrow
  have HROW := hide hrow2
  clear hrow2
  repeat still_step
  still_call (calm_tak 1 0 w2 rfl)
  repeat still_step
  refine wpStill_nil ?_
  clear hw1 i0 s1 hsl
  go_upto_region 5 with (at_builtin; refine wpList_append_row rfl (.tmp 23) (.tmp 31) 25 rfl w2.heap.size 21 ii _ 4 Try.underlying25 HI.out.1 HI.out.2.1 HI.out.2.2.1 HI.out.2.2.2 rfl _ 0 [] rfl (World.ownsRow_nil _ _ _ _) B _ _ _ _ rfl HROW.out (by rw [← c32_take]; exact c32_one _) (by unfold maxLen; omega) (by omega) w2 (Below.refl _ _) (Nat.le_refl _) ?_; intro A2 c2 w3 ho3 hb3 hg3; simp only [Nat.zero_add, List.nil_append] at ho3)
  have K3 := hide (K.out.keep hb3)
  rw [← c32_take] at ho3
  have O3 := hide ho3
  rw [hsz2] at O3
  clear K ho3 hb3 hg3 HROW
  have s0 := K3.out.b5.cell (j := 0) rfl
  have s1 := K3.out.b5.cell (j := 1) rfl
  have sf := K3.out.b5.frozen 0
  have HT := hide (show topV s.st = 0 by unfold topV; exact gd_out (by have := HLN.out.1; omega))
  go_upto_region 9 with (fail)
  replace K3 := hide (K3.out.set 0 (.int .i64 ((s.p : Int) + 1)))
  have lq := fun k hk => (O3.out.lt k hk).1
  replace O3 := hide (own_other (q := q + 1) O3.out (fun k hk => by have := lq k hk; omega) 0 (.int .i64 ((s.p : Int) + 1)))
  clear lq s0 s1 sf
  generalize w3.setCell ⟨q + 1, 0, none⟩ (.int .i64 ((s.p : Int) + 1)) = w4 at K3 O3 ⊢
  have i0 := K3.out.b4.cell (j := 0) rfl
  have i1 := K3.out.b4.cell (j := 1) rfl
  go_upto_region 35 with (at_builtin; refine wpList_append_at rfl (.tmp 49) (.tmp 52) 25 rfl (q + 1 + 1 + 1) 21 ii _ 4 Try.underlying25 HI.out.1 HI.out.2.1 HI.out.2.2.1 HI.out.2.2.2 rfl _ _ _ rfl (O3.out.alloc _) _ _ _ _ rfl rfl (cell_one _ _ _) (c32_one [x]) (by unfold maxLen; omega) (by omega) (by simp; have := K3.out.b8.lt; omega) (by omega) ?_; intro g5 c5 w5 ho5 hg5 hat5)
  have hb5 : Below w4.heap.size w4 w4 := Below.refl _ _
  have HB5 : Below (q + 1 + 1 + 1) w4 w5 := ((Below.refl _ w4).alloc (by have := K3.out.b8.lt; omega) _).grown hg5 (by simp; have := K3.out.b8.lt; omega) fun k hk => (O3.out.lt k hk).1
  have K5 := hide (show SB w q _ _ w5 from ⟨K3.out.b4.keep HB5 (by omega), K3.out.b5.keep HB5 (by omega), K3.out.b8.keep HB5 (by omega), K3.out.bl.trans (HB5.mono (by have := K3.out.q0; omega)), K3.out.q0⟩)
  have O5 := hide (show w5.ownsRow (q + 1 + 1 + 1) 21 1 _ _ (c32 (_ ++ [x])) from by rw [c32_app]; exact ho5)
  clear hb5 HB5 ho5 hg5 hat5 K3 O3 i0 i1
  have s0 := K5.out.b5.cell (j := 0) rfl
  have s1 := K5.out.b5.cell (j := 1) rfl
  have s2 := K5.out.b5.cell (j := 2) rfl
  have s3 := K5.out.b5.cell (j := 3) rfl
  have s4 := K5.out.b5.cell (j := 4) rfl
  have sf := K5.out.b5.frozen 1
  have r0 := K5.out.b8.cell (j := 0) rfl
  have r1 := K5.out.b8.cell (j := 1) rfl
  have r2 := K5.out.b8.cell (j := 2) rfl
  have r3 := K5.out.b8.cell (j := 3) rfl
  have r4 := K5.out.b8.cell (j := 4) rfl
  have rf0 := K5.out.b8.frozen 0
  have rf1 := K5.out.b8.frozen 1
  have rf2 := K5.out.b8.frozen 2
  have rf3 := K5.out.b8.frozen 3
  have rf4 := K5.out.b8.frozen 4
  go_wp2
  exact state_end (by simp) rfl rfl K5.out (.inr O5.out) (.inl ⟨B, by have := HQ.out; omega, HR.out.rs.keep K5.out.bl hB⟩) (.inl ⟨B, by have := HQ.out; omega, HR.out.rc.keep K5.out.bl hB⟩) (.inl ⟨B, by have := HQ.out; omega, HR.out.ru.keep K5.out.bl hB⟩)
theorem rs1_P (m : Nat) (hm16 : m ≤ 15) (x : Int) (hx : -2147483648 ≤ x ∧ x ≤ 2147483647) (tA sA cA uA oA iA : Option Addr) (tc sn sc cn cc un uc on oc ik ic B : Nat) (s : VS) (old ins : List Int) (w : World) (hB : B ≤ w.heap.size) (hp : s.p ≤ 600) (hR : RS w B tA sA cA uA oA iA (m + 1) tc sn sc cn cc un uc on oc ik ic s old ins) (hrg : rngL s.st)  :
    Calls Try.prog 27 #[.agg #[.int .i64 1, .int .i32 x], .agg #[.int .i64 (s.p : Int), .slice tA (m + 1) tc, .slice sA sn sc, .slice cA cn cc, .slice uA un uc], .slice oA on oc, .slice iA ik ic] w (Stated ⟨s.p + 1, List.take (m + 1) s.st ++ [x], s.sl, s.ce, s.ou⟩ w) := by
  obtain ⟨ii, hi, h1⟩ := Option.map_eq_some_iff.1 infoN
  simp at h1
  obtain ⟨hz0, hz1, hz2⟩ := h1
  have HI := hide (And.intro hi (And.intro hz0 (And.intro hz1 hz2)))
  clear hi hz0 hz1 hz2
  have hst := c32_row hR.rt
  have hsl := c32_row hR.rs
  have hce := c32_row hR.rc
  have hou := c32_row hR.ru
  have hol := c32_row hR.ro
  have hil := c32_row hR.ri
  have HLN := hide (And.intro hst (And.intro hsl (And.intro hce (And.intro hou (And.intro hol hil)))))
  clear hst hsl hce hou hol hil
  have HR := hide hR
  have HG := hide hrg
  clear hR hrg
  go_enter Try.func27, Try.ntmps27
  go_wp2_with fail
  have K := hide (SB.start w [.int .i64 1, .int .i32 x] [.int .i64 (s.p : Int), .slice tA (m + 1) tc, .slice sA sn sc, .slice cA cn cc, .slice uA un uc])
  have hsz : (((w.alloc (.cells #[.int .i64 1, .int .i32 x] 52)).alloc (.cells #[.int .i64 (s.p : Int), .slice tA (m + 1) tc, .slice sA sn sc, .slice cA cn cc, .slice uA un uc] 66)).alloc (.cells #[.int .i64 0, .slice none 0 0, .slice none 0 0, .slice none 0 0, .slice none 0 0] 66)).heap.size = w.heap.size + 1 + 1 + 1 := by simp
  generalize ((w.alloc (.cells #[.int .i64 1, .int .i32 x] 52)).alloc (.cells #[.int .i64 (s.p : Int), .slice tA (m + 1) tc, .slice sA sn sc, .slice cA cn cc, .slice uA un uc] 66)).alloc (.cells #[.int .i64 0, .slice none 0 0, .slice none 0 0, .slice none 0 0, .slice none 0 0] 66) = w1 at K hsz ⊢
  obtain ⟨q, hq⟩ : ∃ q, w.heap.size = q := ⟨_, rfl⟩
  rw [hq] at K hsz ⊢
  have HQ := hide hq
  clear hq
  refine wp_region_still_tail 9 (by kernel_rfl) (by kernel_rfl) ?_
  simp only [List.take_succ_cons, List.take_zero, List.drop_succ_cons, List.drop_zero]
  rw [show ({ heap := w1.heap, tape := w1.tape, drawn := w1.drawn + 1, os := w1.os, output := w1.output } : World) = w1.drew from rfl]
  replace K := hide (K.out.keep (Below.refl _ w1).drew)
  have hsz2 : w1.drew.heap.size = q + 1 + 1 + 1 := hsz
  clear hsz
  generalize w1.drew = w2 at K hsz2 ⊢
  have i0 := K.out.b4.cell (j := 0) rfl
  have s1 := K.out.b5.cell (j := 1) rfl
  have hrow := HR.out.rt.keep K.out.bl hB
  obtain ⟨hA, hc, hsl, hrow2⟩ := hrow.headed Try.underlying25 sizeN (hi := (m + 1)) (by omega) ((m : Int) + 1) (by omega)
  have hw1 : IntKind.i64.wrap ((m : Int) + 1) = (m : Int) + 1 := IntWalk.i64_in _ (by omega)
  clear hrow
  have HROW := hide hrow2
  clear hrow2
  repeat still_step
  still_call (calm_tak 1 0 w2 rfl)
  repeat still_step
  refine wpStill_nil ?_
  clear hw1 i0 s1 hsl
  go_upto_region 5 with (at_builtin; refine wpList_append_row rfl (.tmp 23) (.tmp 31) 25 rfl w2.heap.size 21 ii _ 4 Try.underlying25 HI.out.1 HI.out.2.1 HI.out.2.2.1 HI.out.2.2.2 rfl _ 0 [] rfl (World.ownsRow_nil _ _ _ _) B _ _ _ _ rfl HROW.out (by rw [← c32_take]; exact c32_one _) (by unfold maxLen; omega) (by omega) w2 (Below.refl _ _) (Nat.le_refl _) ?_; intro A2 c2 w3 ho3 hb3 hg3; simp only [Nat.zero_add, List.nil_append] at ho3)
  have K3 := hide (K.out.keep hb3)
  rw [← c32_take] at ho3
  have O3 := hide ho3
  rw [hsz2] at O3
  clear K ho3 hb3 hg3 HROW
  have s0 := K3.out.b5.cell (j := 0) rfl
  have s1 := K3.out.b5.cell (j := 1) rfl
  have sf := K3.out.b5.frozen 0
  obtain ⟨tb, toff, tu, htA, _, htu, tcell⟩ := (HR.out.rt.keep K3.out.bl hB).get (j := m) (by omega)
  rw [c32_at (by have := HLN.out.1; omega)] at htu
  obtain rfl := Option.some.inj htu
  have hcap := HR.out.rt.cap
  have HT := hide (show topV s.st = gd s.st (m) by unfold topV; rw [HLN.out.1]; rfl)
  have HTA := hide htA
  rw [htA] at s1 ⊢
  clear htu htA
  go_upto_region 9 with (fail)
  replace K3 := hide (K3.out.set 0 (.int .i64 ((s.p : Int) + 1)))
  have lq := fun k hk => (O3.out.lt k hk).1
  replace O3 := hide (own_other (q := q + 1) O3.out (fun k hk => by have := lq k hk; omega) 0 (.int .i64 ((s.p : Int) + 1)))
  clear lq s0 s1 sf tcell hcap
  generalize w3.setCell ⟨q + 1, 0, none⟩ (.int .i64 ((s.p : Int) + 1)) = w4 at K3 O3 ⊢
  have i0 := K3.out.b4.cell (j := 0) rfl
  have i1 := K3.out.b4.cell (j := 1) rfl
  go_upto_region 35 with (at_builtin; refine wpList_append_at rfl (.tmp 49) (.tmp 52) 25 rfl (q + 1 + 1 + 1) 21 ii _ 4 Try.underlying25 HI.out.1 HI.out.2.1 HI.out.2.2.1 HI.out.2.2.2 rfl _ _ _ rfl (O3.out.alloc _) _ _ _ _ rfl rfl (cell_one _ _ _) (c32_one [x]) (by unfold maxLen; omega) (by omega) (by simp; have := K3.out.b8.lt; omega) (by omega) ?_; intro g5 c5 w5 ho5 hg5 hat5)
  have hb5 : Below w4.heap.size w4 w4 := Below.refl _ _
  have HB5 : Below (q + 1 + 1 + 1) w4 w5 := ((Below.refl _ w4).alloc (by have := K3.out.b8.lt; omega) _).grown hg5 (by simp; have := K3.out.b8.lt; omega) fun k hk => (O3.out.lt k hk).1
  have K5 := hide (show SB w q _ _ w5 from ⟨K3.out.b4.keep HB5 (by omega), K3.out.b5.keep HB5 (by omega), K3.out.b8.keep HB5 (by omega), K3.out.bl.trans (HB5.mono (by have := K3.out.q0; omega)), K3.out.q0⟩)
  have O5 := hide (show w5.ownsRow (q + 1 + 1 + 1) 21 1 _ _ (c32 (_ ++ [x])) from by rw [c32_app]; exact ho5)
  clear hb5 HB5 ho5 hg5 hat5 K3 O3 i0 i1
  have s0 := K5.out.b5.cell (j := 0) rfl
  have s1 := K5.out.b5.cell (j := 1) rfl
  have s2 := K5.out.b5.cell (j := 2) rfl
  have s3 := K5.out.b5.cell (j := 3) rfl
  have s4 := K5.out.b5.cell (j := 4) rfl
  have sf := K5.out.b5.frozen 1
  have r0 := K5.out.b8.cell (j := 0) rfl
  have r1 := K5.out.b8.cell (j := 1) rfl
  have r2 := K5.out.b8.cell (j := 2) rfl
  have r3 := K5.out.b8.cell (j := 3) rfl
  have r4 := K5.out.b8.cell (j := 4) rfl
  have rf0 := K5.out.b8.frozen 0
  have rf1 := K5.out.b8.frozen 1
  have rf2 := K5.out.b8.frozen 2
  have rf3 := K5.out.b8.frozen 3
  have rf4 := K5.out.b8.frozen 4
  go_wp2
  exact state_end (by simp) rfl rfl K5.out (.inr O5.out) (.inl ⟨B, by have := HQ.out; omega, HR.out.rs.keep K5.out.bl hB⟩) (.inl ⟨B, by have := HQ.out; omega, HR.out.rc.keep K5.out.bl hB⟩) (.inl ⟨B, by have := HQ.out; omega, HR.out.ru.keep K5.out.bl hB⟩)
theorem rs2_E (k : Nat) (hk : k ≤ 65535) (tA sA cA uA oA iA : Option Addr) (tc sn sc cn cc un uc on oc ik ic B : Nat) (s : VS) (old ins : List Int) (w : World) (hB : B ≤ w.heap.size) (hp : s.p ≤ 600) (hR : RS w B tA sA cA uA oA iA 0 tc sn sc cn cc un uc on oc ik ic s old ins) (hrg : rngL s.st) (hkl : k < sn) :
    Calls Try.prog 27 #[.agg #[.int .i64 2, .int .i32 (k : Int)], .agg #[.int .i64 (s.p : Int), .slice tA 0 tc, .slice sA sn sc, .slice cA cn cc, .slice uA un uc], .slice oA on oc, .slice iA ik ic] w (Stated ⟨s.p + 1, List.take 0 s.st ++ [gd s.sl k], s.sl, s.ce, s.ou⟩ w) := by
  obtain ⟨ii, hi, h1⟩ := Option.map_eq_some_iff.1 infoN
  simp at h1
  obtain ⟨hz0, hz1, hz2⟩ := h1
  have HI := hide (And.intro hi (And.intro hz0 (And.intro hz1 hz2)))
  clear hi hz0 hz1 hz2
  have hst := c32_row hR.rt
  have hsl := c32_row hR.rs
  have hce := c32_row hR.rc
  have hou := c32_row hR.ru
  have hol := c32_row hR.ro
  have hil := c32_row hR.ri
  have HLN := hide (And.intro hst (And.intro hsl (And.intro hce (And.intro hou (And.intro hol hil)))))
  clear hst hsl hce hou hol hil
  have HR := hide hR
  have HG := hide hrg
  clear hR hrg
  go_enter Try.func27, Try.ntmps27
  go_wp2_with fail
  have K := hide (SB.start w [.int .i64 2, .int .i32 (k : Int)] [.int .i64 (s.p : Int), .slice tA 0 tc, .slice sA sn sc, .slice cA cn cc, .slice uA un uc])
  have hsz : (((w.alloc (.cells #[.int .i64 2, .int .i32 (k : Int)] 52)).alloc (.cells #[.int .i64 (s.p : Int), .slice tA 0 tc, .slice sA sn sc, .slice cA cn cc, .slice uA un uc] 66)).alloc (.cells #[.int .i64 0, .slice none 0 0, .slice none 0 0, .slice none 0 0, .slice none 0 0] 66)).heap.size = w.heap.size + 1 + 1 + 1 := by simp
  generalize ((w.alloc (.cells #[.int .i64 2, .int .i32 (k : Int)] 52)).alloc (.cells #[.int .i64 (s.p : Int), .slice tA 0 tc, .slice sA sn sc, .slice cA cn cc, .slice uA un uc] 66)).alloc (.cells #[.int .i64 0, .slice none 0 0, .slice none 0 0, .slice none 0 0, .slice none 0 0] 66) = w1 at K hsz ⊢
  obtain ⟨q, hq⟩ : ∃ q, w.heap.size = q := ⟨_, rfl⟩
  rw [hq] at K hsz ⊢
  have HQ := hide hq
  clear hq
  refine wp_region_still_tail 9 (by kernel_rfl) (by kernel_rfl) ?_
  simp only [List.take_succ_cons, List.take_zero, List.drop_succ_cons, List.drop_zero]
  rw [show ({ heap := w1.heap, tape := w1.tape, drawn := w1.drawn + 1, os := w1.os, output := w1.output } : World) = w1.drew from rfl]
  replace K := hide (K.out.keep (Below.refl _ w1).drew)
  have hsz2 : w1.drew.heap.size = q + 1 + 1 + 1 := hsz
  clear hsz
  generalize w1.drew = w2 at K hsz2 ⊢
  have i0 := K.out.b4.cell (j := 0) rfl
  have s1 := K.out.b5.cell (j := 1) rfl
  have hrow := HR.out.rt.keep K.out.bl hB
  obtain ⟨hA, hc, hsl, hrow2⟩ := hrow.headed Try.underlying25 sizeN (hi := 0) (by omega) (0) (by omega)
  have hw1 : IntKind.i64.wrap (0) = 0 := IntWalk.i64_in _ (by omega)
  clear hrow
  have HROW := hide hrow2
  clear hrow2
  repeat still_step
  still_call (calm_tak 2 0 w2 rfl)
  repeat still_step
  refine wpStill_nil ?_
  clear hw1 i0 s1 hsl
  go_upto_region 5 with (at_builtin; refine wpList_append_row rfl (.tmp 23) (.tmp 31) 25 rfl w2.heap.size 21 ii _ 4 Try.underlying25 HI.out.1 HI.out.2.1 HI.out.2.2.1 HI.out.2.2.2 rfl _ 0 [] rfl (World.ownsRow_nil _ _ _ _) B _ _ _ _ rfl HROW.out (by rw [← c32_take]; exact c32_one _) (by unfold maxLen; omega) (by omega) w2 (Below.refl _ _) (Nat.le_refl _) ?_; intro A2 c2 w3 ho3 hb3 hg3; simp only [Nat.zero_add, List.nil_append] at ho3)
  have K3 := hide (K.out.keep hb3)
  rw [← c32_take] at ho3
  have O3 := hide ho3
  rw [hsz2] at O3
  clear K ho3 hb3 hg3 HROW
  have s0 := K3.out.b5.cell (j := 0) rfl
  have s1 := K3.out.b5.cell (j := 1) rfl
  have sf := K3.out.b5.frozen 0
  have HT := hide (show topV s.st = 0 by unfold topV; exact gd_out (by have := HLN.out.1; omega))
  go_upto_region 9 with (fail)
  replace K3 := hide (K3.out.set 0 (.int .i64 ((s.p : Int) + 1)))
  have lq := fun k hk => (O3.out.lt k hk).1
  replace O3 := hide (own_other (q := q + 1) O3.out (fun k hk => by have := lq k hk; omega) 0 (.int .i64 ((s.p : Int) + 1)))
  clear lq s0 s1 sf
  generalize w3.setCell ⟨q + 1, 0, none⟩ (.int .i64 ((s.p : Int) + 1)) = w4 at K3 O3 ⊢
  have i0 := K3.out.b4.cell (j := 0) rfl
  have i1 := K3.out.b4.cell (j := 1) rfl
  have sx := K3.out.b5.cell (j := 2) rfl
  obtain ⟨lb, loff, lu, hlA, _, hlu, lcell⟩ := (HR.out.rs.keep K3.out.bl hB).get (j := k) hkl
  rw [c32_at (by have := HLN.out; omega)] at hlu
  obtain rfl := Option.some.inj hlu
  have lcap := HR.out.rs.cap
  rw [hlA] at sx
  clear hlu hlA
  go_upto_region 35 with (at_builtin; refine wpList_append_at rfl (.tmp 56) (.tmp 62) 25 rfl (q + 1 + 1 + 1) 21 ii _ 4 Try.underlying25 HI.out.1 HI.out.2.1 HI.out.2.2.1 HI.out.2.2.2 rfl _ _ _ rfl (O3.out.alloc _) _ _ _ _ rfl rfl (cell_one _ _ _) (c32_one [gd s.sl k]) (by unfold maxLen; omega) (by omega) (by simp; have := K3.out.b8.lt; omega) (by omega) ?_; intro g5 c5 w5 ho5 hg5 hat5)
  have hb5 : Below w4.heap.size w4 w4 := Below.refl _ _
  have HB5 : Below (q + 1 + 1 + 1) w4 w5 := ((Below.refl _ w4).alloc (by have := K3.out.b8.lt; omega) _).grown hg5 (by simp; have := K3.out.b8.lt; omega) fun k hk => (O3.out.lt k hk).1
  have K5 := hide (show SB w q _ _ w5 from ⟨K3.out.b4.keep HB5 (by omega), K3.out.b5.keep HB5 (by omega), K3.out.b8.keep HB5 (by omega), K3.out.bl.trans (HB5.mono (by have := K3.out.q0; omega)), K3.out.q0⟩)
  have O5 := hide (show w5.ownsRow (q + 1 + 1 + 1) 21 1 _ _ (c32 (_ ++ [gd s.sl k])) from by rw [c32_app]; exact ho5)
  clear hb5 HB5 ho5 hg5 hat5 K3 O3 i0 i1
  clear sx lcell lcap
  have s0 := K5.out.b5.cell (j := 0) rfl
  have s1 := K5.out.b5.cell (j := 1) rfl
  have s2 := K5.out.b5.cell (j := 2) rfl
  have s3 := K5.out.b5.cell (j := 3) rfl
  have s4 := K5.out.b5.cell (j := 4) rfl
  have sf := K5.out.b5.frozen 1
  have r0 := K5.out.b8.cell (j := 0) rfl
  have r1 := K5.out.b8.cell (j := 1) rfl
  have r2 := K5.out.b8.cell (j := 2) rfl
  have r3 := K5.out.b8.cell (j := 3) rfl
  have r4 := K5.out.b8.cell (j := 4) rfl
  have rf0 := K5.out.b8.frozen 0
  have rf1 := K5.out.b8.frozen 1
  have rf2 := K5.out.b8.frozen 2
  have rf3 := K5.out.b8.frozen 3
  have rf4 := K5.out.b8.frozen 4
  go_wp2
  exact state_end (by simp) rfl rfl K5.out (.inr O5.out) (.inl ⟨B, by have := HQ.out; omega, HR.out.rs.keep K5.out.bl hB⟩) (.inl ⟨B, by have := HQ.out; omega, HR.out.rc.keep K5.out.bl hB⟩) (.inl ⟨B, by have := HQ.out; omega, HR.out.ru.keep K5.out.bl hB⟩)
theorem rs4_E (k : Nat) (hk : k ≤ 65535) (tA sA cA uA oA iA : Option Addr) (tc sn sc cn cc un uc on oc ik ic B : Nat) (s : VS) (old ins : List Int) (w : World) (hB : B ≤ w.heap.size) (hp : s.p ≤ 600) (hR : RS w B tA sA cA uA oA iA 0 tc sn sc cn cc un uc on oc ik ic s old ins) (hrg : rngL s.st) (hkl : k < on) :
    Calls Try.prog 27 #[.agg #[.int .i64 4, .int .i32 (k : Int)], .agg #[.int .i64 (s.p : Int), .slice tA 0 tc, .slice sA sn sc, .slice cA cn cc, .slice uA un uc], .slice oA on oc, .slice iA ik ic] w (Stated ⟨s.p + 1, List.take 0 s.st ++ [gd old k], s.sl, s.ce, s.ou⟩ w) := by
  obtain ⟨ii, hi, h1⟩ := Option.map_eq_some_iff.1 infoN
  simp at h1
  obtain ⟨hz0, hz1, hz2⟩ := h1
  have HI := hide (And.intro hi (And.intro hz0 (And.intro hz1 hz2)))
  clear hi hz0 hz1 hz2
  have hst := c32_row hR.rt
  have hsl := c32_row hR.rs
  have hce := c32_row hR.rc
  have hou := c32_row hR.ru
  have hol := c32_row hR.ro
  have hil := c32_row hR.ri
  have HLN := hide (And.intro hst (And.intro hsl (And.intro hce (And.intro hou (And.intro hol hil)))))
  clear hst hsl hce hou hol hil
  have HR := hide hR
  have HG := hide hrg
  clear hR hrg
  go_enter Try.func27, Try.ntmps27
  go_wp2_with fail
  have K := hide (SB.start w [.int .i64 4, .int .i32 (k : Int)] [.int .i64 (s.p : Int), .slice tA 0 tc, .slice sA sn sc, .slice cA cn cc, .slice uA un uc])
  have hsz : (((w.alloc (.cells #[.int .i64 4, .int .i32 (k : Int)] 52)).alloc (.cells #[.int .i64 (s.p : Int), .slice tA 0 tc, .slice sA sn sc, .slice cA cn cc, .slice uA un uc] 66)).alloc (.cells #[.int .i64 0, .slice none 0 0, .slice none 0 0, .slice none 0 0, .slice none 0 0] 66)).heap.size = w.heap.size + 1 + 1 + 1 := by simp
  generalize ((w.alloc (.cells #[.int .i64 4, .int .i32 (k : Int)] 52)).alloc (.cells #[.int .i64 (s.p : Int), .slice tA 0 tc, .slice sA sn sc, .slice cA cn cc, .slice uA un uc] 66)).alloc (.cells #[.int .i64 0, .slice none 0 0, .slice none 0 0, .slice none 0 0, .slice none 0 0] 66) = w1 at K hsz ⊢
  obtain ⟨q, hq⟩ : ∃ q, w.heap.size = q := ⟨_, rfl⟩
  rw [hq] at K hsz ⊢
  have HQ := hide hq
  clear hq
  refine wp_region_still_tail 9 (by kernel_rfl) (by kernel_rfl) ?_
  simp only [List.take_succ_cons, List.take_zero, List.drop_succ_cons, List.drop_zero]
  rw [show ({ heap := w1.heap, tape := w1.tape, drawn := w1.drawn + 1, os := w1.os, output := w1.output } : World) = w1.drew from rfl]
  replace K := hide (K.out.keep (Below.refl _ w1).drew)
  have hsz2 : w1.drew.heap.size = q + 1 + 1 + 1 := hsz
  clear hsz
  generalize w1.drew = w2 at K hsz2 ⊢
  have i0 := K.out.b4.cell (j := 0) rfl
  have s1 := K.out.b5.cell (j := 1) rfl
  have hrow := HR.out.rt.keep K.out.bl hB
  obtain ⟨hA, hc, hsl, hrow2⟩ := hrow.headed Try.underlying25 sizeN (hi := 0) (by omega) (0) (by omega)
  have hw1 : IntKind.i64.wrap (0) = 0 := IntWalk.i64_in _ (by omega)
  clear hrow
  have HROW := hide hrow2
  clear hrow2
  repeat still_step
  still_call (calm_tak 4 0 w2 rfl)
  repeat still_step
  refine wpStill_nil ?_
  clear hw1 i0 s1 hsl
  go_upto_region 5 with (at_builtin; refine wpList_append_row rfl (.tmp 23) (.tmp 31) 25 rfl w2.heap.size 21 ii _ 4 Try.underlying25 HI.out.1 HI.out.2.1 HI.out.2.2.1 HI.out.2.2.2 rfl _ 0 [] rfl (World.ownsRow_nil _ _ _ _) B _ _ _ _ rfl HROW.out (by rw [← c32_take]; exact c32_one _) (by unfold maxLen; omega) (by omega) w2 (Below.refl _ _) (Nat.le_refl _) ?_; intro A2 c2 w3 ho3 hb3 hg3; simp only [Nat.zero_add, List.nil_append] at ho3)
  have K3 := hide (K.out.keep hb3)
  rw [← c32_take] at ho3
  have O3 := hide ho3
  rw [hsz2] at O3
  clear K ho3 hb3 hg3 HROW
  have s0 := K3.out.b5.cell (j := 0) rfl
  have s1 := K3.out.b5.cell (j := 1) rfl
  have sf := K3.out.b5.frozen 0
  have HT := hide (show topV s.st = 0 by unfold topV; exact gd_out (by have := HLN.out.1; omega))
  go_upto_region 9 with (fail)
  replace K3 := hide (K3.out.set 0 (.int .i64 ((s.p : Int) + 1)))
  have lq := fun k hk => (O3.out.lt k hk).1
  replace O3 := hide (own_other (q := q + 1) O3.out (fun k hk => by have := lq k hk; omega) 0 (.int .i64 ((s.p : Int) + 1)))
  clear lq s0 s1 sf
  generalize w3.setCell ⟨q + 1, 0, none⟩ (.int .i64 ((s.p : Int) + 1)) = w4 at K3 O3 ⊢
  have i0 := K3.out.b4.cell (j := 0) rfl
  have i1 := K3.out.b4.cell (j := 1) rfl
  obtain ⟨lb, loff, lu, hlA, _, hlu, lcell⟩ := (HR.out.ro.keep K3.out.bl hB).get (j := k) hkl
  rw [c32_at (by have := HLN.out; omega)] at hlu
  obtain rfl := Option.some.inj hlu
  have lcap := HR.out.ro.cap
  rw [hlA]
  clear hlu hlA
  go_upto_region 35 with (at_builtin; refine wpList_append_at rfl (.tmp 66) (.tmp 71) 25 rfl (q + 1 + 1 + 1) 21 ii _ 4 Try.underlying25 HI.out.1 HI.out.2.1 HI.out.2.2.1 HI.out.2.2.2 rfl _ _ _ rfl (O3.out.alloc _) _ _ _ _ rfl rfl (cell_one _ _ _) (c32_one [gd old k]) (by unfold maxLen; omega) (by omega) (by simp; have := K3.out.b8.lt; omega) (by omega) ?_; intro g5 c5 w5 ho5 hg5 hat5)
  have hb5 : Below w4.heap.size w4 w4 := Below.refl _ _
  have HB5 : Below (q + 1 + 1 + 1) w4 w5 := ((Below.refl _ w4).alloc (by have := K3.out.b8.lt; omega) _).grown hg5 (by simp; have := K3.out.b8.lt; omega) fun k hk => (O3.out.lt k hk).1
  have K5 := hide (show SB w q _ _ w5 from ⟨K3.out.b4.keep HB5 (by omega), K3.out.b5.keep HB5 (by omega), K3.out.b8.keep HB5 (by omega), K3.out.bl.trans (HB5.mono (by have := K3.out.q0; omega)), K3.out.q0⟩)
  have O5 := hide (show w5.ownsRow (q + 1 + 1 + 1) 21 1 _ _ (c32 (_ ++ [gd old k])) from by rw [c32_app]; exact ho5)
  clear hb5 HB5 ho5 hg5 hat5 K3 O3 i0 i1
  clear lcell lcap
  have s0 := K5.out.b5.cell (j := 0) rfl
  have s1 := K5.out.b5.cell (j := 1) rfl
  have s2 := K5.out.b5.cell (j := 2) rfl
  have s3 := K5.out.b5.cell (j := 3) rfl
  have s4 := K5.out.b5.cell (j := 4) rfl
  have sf := K5.out.b5.frozen 1
  have r0 := K5.out.b8.cell (j := 0) rfl
  have r1 := K5.out.b8.cell (j := 1) rfl
  have r2 := K5.out.b8.cell (j := 2) rfl
  have r3 := K5.out.b8.cell (j := 3) rfl
  have r4 := K5.out.b8.cell (j := 4) rfl
  have rf0 := K5.out.b8.frozen 0
  have rf1 := K5.out.b8.frozen 1
  have rf2 := K5.out.b8.frozen 2
  have rf3 := K5.out.b8.frozen 3
  have rf4 := K5.out.b8.frozen 4
  go_wp2
  exact state_end (by simp) rfl rfl K5.out (.inr O5.out) (.inl ⟨B, by have := HQ.out; omega, HR.out.rs.keep K5.out.bl hB⟩) (.inl ⟨B, by have := HQ.out; omega, HR.out.rc.keep K5.out.bl hB⟩) (.inl ⟨B, by have := HQ.out; omega, HR.out.ru.keep K5.out.bl hB⟩)
theorem rs6_E (k : Nat) (hk : k ≤ 65535) (tA sA cA uA oA iA : Option Addr) (tc sn sc cn cc un uc on oc ik ic B : Nat) (s : VS) (old ins : List Int) (w : World) (hB : B ≤ w.heap.size) (hp : s.p ≤ 600) (hR : RS w B tA sA cA uA oA iA 0 tc sn sc cn cc un uc on oc ik ic s old ins) (hrg : rngL s.st) (hkl : k < ik) :
    Calls Try.prog 27 #[.agg #[.int .i64 6, .int .i32 (k : Int)], .agg #[.int .i64 (s.p : Int), .slice tA 0 tc, .slice sA sn sc, .slice cA cn cc, .slice uA un uc], .slice oA on oc, .slice iA ik ic] w (Stated ⟨s.p + 1, List.take 0 s.st ++ [gd ins k], s.sl, s.ce, s.ou⟩ w) := by
  obtain ⟨ii, hi, h1⟩ := Option.map_eq_some_iff.1 infoN
  simp at h1
  obtain ⟨hz0, hz1, hz2⟩ := h1
  have HI := hide (And.intro hi (And.intro hz0 (And.intro hz1 hz2)))
  clear hi hz0 hz1 hz2
  have hst := c32_row hR.rt
  have hsl := c32_row hR.rs
  have hce := c32_row hR.rc
  have hou := c32_row hR.ru
  have hol := c32_row hR.ro
  have hil := c32_row hR.ri
  have HLN := hide (And.intro hst (And.intro hsl (And.intro hce (And.intro hou (And.intro hol hil)))))
  clear hst hsl hce hou hol hil
  have HR := hide hR
  have HG := hide hrg
  clear hR hrg
  go_enter Try.func27, Try.ntmps27
  go_wp2_with fail
  have K := hide (SB.start w [.int .i64 6, .int .i32 (k : Int)] [.int .i64 (s.p : Int), .slice tA 0 tc, .slice sA sn sc, .slice cA cn cc, .slice uA un uc])
  have hsz : (((w.alloc (.cells #[.int .i64 6, .int .i32 (k : Int)] 52)).alloc (.cells #[.int .i64 (s.p : Int), .slice tA 0 tc, .slice sA sn sc, .slice cA cn cc, .slice uA un uc] 66)).alloc (.cells #[.int .i64 0, .slice none 0 0, .slice none 0 0, .slice none 0 0, .slice none 0 0] 66)).heap.size = w.heap.size + 1 + 1 + 1 := by simp
  generalize ((w.alloc (.cells #[.int .i64 6, .int .i32 (k : Int)] 52)).alloc (.cells #[.int .i64 (s.p : Int), .slice tA 0 tc, .slice sA sn sc, .slice cA cn cc, .slice uA un uc] 66)).alloc (.cells #[.int .i64 0, .slice none 0 0, .slice none 0 0, .slice none 0 0, .slice none 0 0] 66) = w1 at K hsz ⊢
  obtain ⟨q, hq⟩ : ∃ q, w.heap.size = q := ⟨_, rfl⟩
  rw [hq] at K hsz ⊢
  have HQ := hide hq
  clear hq
  refine wp_region_still_tail 9 (by kernel_rfl) (by kernel_rfl) ?_
  simp only [List.take_succ_cons, List.take_zero, List.drop_succ_cons, List.drop_zero]
  rw [show ({ heap := w1.heap, tape := w1.tape, drawn := w1.drawn + 1, os := w1.os, output := w1.output } : World) = w1.drew from rfl]
  replace K := hide (K.out.keep (Below.refl _ w1).drew)
  have hsz2 : w1.drew.heap.size = q + 1 + 1 + 1 := hsz
  clear hsz
  generalize w1.drew = w2 at K hsz2 ⊢
  have i0 := K.out.b4.cell (j := 0) rfl
  have s1 := K.out.b5.cell (j := 1) rfl
  have hrow := HR.out.rt.keep K.out.bl hB
  obtain ⟨hA, hc, hsl, hrow2⟩ := hrow.headed Try.underlying25 sizeN (hi := 0) (by omega) (0) (by omega)
  have hw1 : IntKind.i64.wrap (0) = 0 := IntWalk.i64_in _ (by omega)
  clear hrow
  have HROW := hide hrow2
  clear hrow2
  repeat still_step
  still_call (calm_tak 6 0 w2 rfl)
  repeat still_step
  refine wpStill_nil ?_
  clear hw1 i0 s1 hsl
  go_upto_region 5 with (at_builtin; refine wpList_append_row rfl (.tmp 23) (.tmp 31) 25 rfl w2.heap.size 21 ii _ 4 Try.underlying25 HI.out.1 HI.out.2.1 HI.out.2.2.1 HI.out.2.2.2 rfl _ 0 [] rfl (World.ownsRow_nil _ _ _ _) B _ _ _ _ rfl HROW.out (by rw [← c32_take]; exact c32_one _) (by unfold maxLen; omega) (by omega) w2 (Below.refl _ _) (Nat.le_refl _) ?_; intro A2 c2 w3 ho3 hb3 hg3; simp only [Nat.zero_add, List.nil_append] at ho3)
  have K3 := hide (K.out.keep hb3)
  rw [← c32_take] at ho3
  have O3 := hide ho3
  rw [hsz2] at O3
  clear K ho3 hb3 hg3 HROW
  have s0 := K3.out.b5.cell (j := 0) rfl
  have s1 := K3.out.b5.cell (j := 1) rfl
  have sf := K3.out.b5.frozen 0
  have HT := hide (show topV s.st = 0 by unfold topV; exact gd_out (by have := HLN.out.1; omega))
  go_upto_region 9 with (fail)
  replace K3 := hide (K3.out.set 0 (.int .i64 ((s.p : Int) + 1)))
  have lq := fun k hk => (O3.out.lt k hk).1
  replace O3 := hide (own_other (q := q + 1) O3.out (fun k hk => by have := lq k hk; omega) 0 (.int .i64 ((s.p : Int) + 1)))
  clear lq s0 s1 sf
  generalize w3.setCell ⟨q + 1, 0, none⟩ (.int .i64 ((s.p : Int) + 1)) = w4 at K3 O3 ⊢
  have i0 := K3.out.b4.cell (j := 0) rfl
  have i1 := K3.out.b4.cell (j := 1) rfl
  obtain ⟨lb, loff, lu, hlA, _, hlu, lcell⟩ := (HR.out.ri.keep K3.out.bl hB).get (j := k) hkl
  rw [c32_at (by have := HLN.out; omega)] at hlu
  obtain rfl := Option.some.inj hlu
  have lcap := HR.out.ri.cap
  rw [hlA]
  clear hlu hlA
  go_upto_region 35 with (at_builtin; refine wpList_append_at rfl (.tmp 75) (.tmp 80) 25 rfl (q + 1 + 1 + 1) 21 ii _ 4 Try.underlying25 HI.out.1 HI.out.2.1 HI.out.2.2.1 HI.out.2.2.2 rfl _ _ _ rfl (O3.out.alloc _) _ _ _ _ rfl rfl (cell_one _ _ _) (c32_one [gd ins k]) (by unfold maxLen; omega) (by omega) (by simp; have := K3.out.b8.lt; omega) (by omega) ?_; intro g5 c5 w5 ho5 hg5 hat5)
  have hb5 : Below w4.heap.size w4 w4 := Below.refl _ _
  have HB5 : Below (q + 1 + 1 + 1) w4 w5 := ((Below.refl _ w4).alloc (by have := K3.out.b8.lt; omega) _).grown hg5 (by simp; have := K3.out.b8.lt; omega) fun k hk => (O3.out.lt k hk).1
  have K5 := hide (show SB w q _ _ w5 from ⟨K3.out.b4.keep HB5 (by omega), K3.out.b5.keep HB5 (by omega), K3.out.b8.keep HB5 (by omega), K3.out.bl.trans (HB5.mono (by have := K3.out.q0; omega)), K3.out.q0⟩)
  have O5 := hide (show w5.ownsRow (q + 1 + 1 + 1) 21 1 _ _ (c32 (_ ++ [gd ins k])) from by rw [c32_app]; exact ho5)
  clear hb5 HB5 ho5 hg5 hat5 K3 O3 i0 i1
  clear lcell lcap
  have s0 := K5.out.b5.cell (j := 0) rfl
  have s1 := K5.out.b5.cell (j := 1) rfl
  have s2 := K5.out.b5.cell (j := 2) rfl
  have s3 := K5.out.b5.cell (j := 3) rfl
  have s4 := K5.out.b5.cell (j := 4) rfl
  have sf := K5.out.b5.frozen 1
  have r0 := K5.out.b8.cell (j := 0) rfl
  have r1 := K5.out.b8.cell (j := 1) rfl
  have r2 := K5.out.b8.cell (j := 2) rfl
  have r3 := K5.out.b8.cell (j := 3) rfl
  have r4 := K5.out.b8.cell (j := 4) rfl
  have rf0 := K5.out.b8.frozen 0
  have rf1 := K5.out.b8.frozen 1
  have rf2 := K5.out.b8.frozen 2
  have rf3 := K5.out.b8.frozen 3
  have rf4 := K5.out.b8.frozen 4
  go_wp2
  exact state_end (by simp) rfl rfl K5.out (.inr O5.out) (.inl ⟨B, by have := HQ.out; omega, HR.out.rs.keep K5.out.bl hB⟩) (.inl ⟨B, by have := HQ.out; omega, HR.out.rc.keep K5.out.bl hB⟩) (.inl ⟨B, by have := HQ.out; omega, HR.out.ru.keep K5.out.bl hB⟩)
theorem rs2_P (m : Nat) (hm16 : m ≤ 15) (k : Nat) (hk : k ≤ 65535) (tA sA cA uA oA iA : Option Addr) (tc sn sc cn cc un uc on oc ik ic B : Nat) (s : VS) (old ins : List Int) (w : World) (hB : B ≤ w.heap.size) (hp : s.p ≤ 600) (hR : RS w B tA sA cA uA oA iA (m + 1) tc sn sc cn cc un uc on oc ik ic s old ins) (hrg : rngL s.st) (hkl : k < sn) :
    Calls Try.prog 27 #[.agg #[.int .i64 2, .int .i32 (k : Int)], .agg #[.int .i64 (s.p : Int), .slice tA (m + 1) tc, .slice sA sn sc, .slice cA cn cc, .slice uA un uc], .slice oA on oc, .slice iA ik ic] w (Stated ⟨s.p + 1, List.take (m + 1) s.st ++ [gd s.sl k], s.sl, s.ce, s.ou⟩ w) := by
  obtain ⟨ii, hi, h1⟩ := Option.map_eq_some_iff.1 infoN
  simp at h1
  obtain ⟨hz0, hz1, hz2⟩ := h1
  have HI := hide (And.intro hi (And.intro hz0 (And.intro hz1 hz2)))
  clear hi hz0 hz1 hz2
  have hst := c32_row hR.rt
  have hsl := c32_row hR.rs
  have hce := c32_row hR.rc
  have hou := c32_row hR.ru
  have hol := c32_row hR.ro
  have hil := c32_row hR.ri
  have HLN := hide (And.intro hst (And.intro hsl (And.intro hce (And.intro hou (And.intro hol hil)))))
  clear hst hsl hce hou hol hil
  have HR := hide hR
  have HG := hide hrg
  clear hR hrg
  go_enter Try.func27, Try.ntmps27
  go_wp2_with fail
  have K := hide (SB.start w [.int .i64 2, .int .i32 (k : Int)] [.int .i64 (s.p : Int), .slice tA (m + 1) tc, .slice sA sn sc, .slice cA cn cc, .slice uA un uc])
  have hsz : (((w.alloc (.cells #[.int .i64 2, .int .i32 (k : Int)] 52)).alloc (.cells #[.int .i64 (s.p : Int), .slice tA (m + 1) tc, .slice sA sn sc, .slice cA cn cc, .slice uA un uc] 66)).alloc (.cells #[.int .i64 0, .slice none 0 0, .slice none 0 0, .slice none 0 0, .slice none 0 0] 66)).heap.size = w.heap.size + 1 + 1 + 1 := by simp
  generalize ((w.alloc (.cells #[.int .i64 2, .int .i32 (k : Int)] 52)).alloc (.cells #[.int .i64 (s.p : Int), .slice tA (m + 1) tc, .slice sA sn sc, .slice cA cn cc, .slice uA un uc] 66)).alloc (.cells #[.int .i64 0, .slice none 0 0, .slice none 0 0, .slice none 0 0, .slice none 0 0] 66) = w1 at K hsz ⊢
  obtain ⟨q, hq⟩ : ∃ q, w.heap.size = q := ⟨_, rfl⟩
  rw [hq] at K hsz ⊢
  have HQ := hide hq
  clear hq
  refine wp_region_still_tail 9 (by kernel_rfl) (by kernel_rfl) ?_
  simp only [List.take_succ_cons, List.take_zero, List.drop_succ_cons, List.drop_zero]
  rw [show ({ heap := w1.heap, tape := w1.tape, drawn := w1.drawn + 1, os := w1.os, output := w1.output } : World) = w1.drew from rfl]
  replace K := hide (K.out.keep (Below.refl _ w1).drew)
  have hsz2 : w1.drew.heap.size = q + 1 + 1 + 1 := hsz
  clear hsz
  generalize w1.drew = w2 at K hsz2 ⊢
  have i0 := K.out.b4.cell (j := 0) rfl
  have s1 := K.out.b5.cell (j := 1) rfl
  have hrow := HR.out.rt.keep K.out.bl hB
  obtain ⟨hA, hc, hsl, hrow2⟩ := hrow.headed Try.underlying25 sizeN (hi := (m + 1)) (by omega) ((m : Int) + 1) (by omega)
  have hw1 : IntKind.i64.wrap ((m : Int) + 1) = (m : Int) + 1 := IntWalk.i64_in _ (by omega)
  clear hrow
  have HROW := hide hrow2
  clear hrow2
  repeat still_step
  still_call (calm_tak 2 0 w2 rfl)
  repeat still_step
  refine wpStill_nil ?_
  clear hw1 i0 s1 hsl
  go_upto_region 5 with (at_builtin; refine wpList_append_row rfl (.tmp 23) (.tmp 31) 25 rfl w2.heap.size 21 ii _ 4 Try.underlying25 HI.out.1 HI.out.2.1 HI.out.2.2.1 HI.out.2.2.2 rfl _ 0 [] rfl (World.ownsRow_nil _ _ _ _) B _ _ _ _ rfl HROW.out (by rw [← c32_take]; exact c32_one _) (by unfold maxLen; omega) (by omega) w2 (Below.refl _ _) (Nat.le_refl _) ?_; intro A2 c2 w3 ho3 hb3 hg3; simp only [Nat.zero_add, List.nil_append] at ho3)
  have K3 := hide (K.out.keep hb3)
  rw [← c32_take] at ho3
  have O3 := hide ho3
  rw [hsz2] at O3
  clear K ho3 hb3 hg3 HROW
  have s0 := K3.out.b5.cell (j := 0) rfl
  have s1 := K3.out.b5.cell (j := 1) rfl
  have sf := K3.out.b5.frozen 0
  obtain ⟨tb, toff, tu, htA, _, htu, tcell⟩ := (HR.out.rt.keep K3.out.bl hB).get (j := m) (by omega)
  rw [c32_at (by have := HLN.out.1; omega)] at htu
  obtain rfl := Option.some.inj htu
  have hcap := HR.out.rt.cap
  have HT := hide (show topV s.st = gd s.st (m) by unfold topV; rw [HLN.out.1]; rfl)
  have HTA := hide htA
  rw [htA] at s1 ⊢
  clear htu htA
  go_upto_region 9 with (fail)
  replace K3 := hide (K3.out.set 0 (.int .i64 ((s.p : Int) + 1)))
  have lq := fun k hk => (O3.out.lt k hk).1
  replace O3 := hide (own_other (q := q + 1) O3.out (fun k hk => by have := lq k hk; omega) 0 (.int .i64 ((s.p : Int) + 1)))
  clear lq s0 s1 sf tcell hcap
  generalize w3.setCell ⟨q + 1, 0, none⟩ (.int .i64 ((s.p : Int) + 1)) = w4 at K3 O3 ⊢
  have i0 := K3.out.b4.cell (j := 0) rfl
  have i1 := K3.out.b4.cell (j := 1) rfl
  have sx := K3.out.b5.cell (j := 2) rfl
  obtain ⟨lb, loff, lu, hlA, _, hlu, lcell⟩ := (HR.out.rs.keep K3.out.bl hB).get (j := k) hkl
  rw [c32_at (by have := HLN.out; omega)] at hlu
  obtain rfl := Option.some.inj hlu
  have lcap := HR.out.rs.cap
  rw [hlA] at sx
  clear hlu hlA
  go_upto_region 35 with (at_builtin; refine wpList_append_at rfl (.tmp 56) (.tmp 62) 25 rfl (q + 1 + 1 + 1) 21 ii _ 4 Try.underlying25 HI.out.1 HI.out.2.1 HI.out.2.2.1 HI.out.2.2.2 rfl _ _ _ rfl (O3.out.alloc _) _ _ _ _ rfl rfl (cell_one _ _ _) (c32_one [gd s.sl k]) (by unfold maxLen; omega) (by omega) (by simp; have := K3.out.b8.lt; omega) (by omega) ?_; intro g5 c5 w5 ho5 hg5 hat5)
  have hb5 : Below w4.heap.size w4 w4 := Below.refl _ _
  have HB5 : Below (q + 1 + 1 + 1) w4 w5 := ((Below.refl _ w4).alloc (by have := K3.out.b8.lt; omega) _).grown hg5 (by simp; have := K3.out.b8.lt; omega) fun k hk => (O3.out.lt k hk).1
  have K5 := hide (show SB w q _ _ w5 from ⟨K3.out.b4.keep HB5 (by omega), K3.out.b5.keep HB5 (by omega), K3.out.b8.keep HB5 (by omega), K3.out.bl.trans (HB5.mono (by have := K3.out.q0; omega)), K3.out.q0⟩)
  have O5 := hide (show w5.ownsRow (q + 1 + 1 + 1) 21 1 _ _ (c32 (_ ++ [gd s.sl k])) from by rw [c32_app]; exact ho5)
  clear hb5 HB5 ho5 hg5 hat5 K3 O3 i0 i1
  clear sx lcell lcap
  have s0 := K5.out.b5.cell (j := 0) rfl
  have s1 := K5.out.b5.cell (j := 1) rfl
  have s2 := K5.out.b5.cell (j := 2) rfl
  have s3 := K5.out.b5.cell (j := 3) rfl
  have s4 := K5.out.b5.cell (j := 4) rfl
  have sf := K5.out.b5.frozen 1
  have r0 := K5.out.b8.cell (j := 0) rfl
  have r1 := K5.out.b8.cell (j := 1) rfl
  have r2 := K5.out.b8.cell (j := 2) rfl
  have r3 := K5.out.b8.cell (j := 3) rfl
  have r4 := K5.out.b8.cell (j := 4) rfl
  have rf0 := K5.out.b8.frozen 0
  have rf1 := K5.out.b8.frozen 1
  have rf2 := K5.out.b8.frozen 2
  have rf3 := K5.out.b8.frozen 3
  have rf4 := K5.out.b8.frozen 4
  go_wp2
  exact state_end (by simp) rfl rfl K5.out (.inr O5.out) (.inl ⟨B, by have := HQ.out; omega, HR.out.rs.keep K5.out.bl hB⟩) (.inl ⟨B, by have := HQ.out; omega, HR.out.rc.keep K5.out.bl hB⟩) (.inl ⟨B, by have := HQ.out; omega, HR.out.ru.keep K5.out.bl hB⟩)
theorem rs4_P (m : Nat) (hm16 : m ≤ 15) (k : Nat) (hk : k ≤ 65535) (tA sA cA uA oA iA : Option Addr) (tc sn sc cn cc un uc on oc ik ic B : Nat) (s : VS) (old ins : List Int) (w : World) (hB : B ≤ w.heap.size) (hp : s.p ≤ 600) (hR : RS w B tA sA cA uA oA iA (m + 1) tc sn sc cn cc un uc on oc ik ic s old ins) (hrg : rngL s.st) (hkl : k < on) :
    Calls Try.prog 27 #[.agg #[.int .i64 4, .int .i32 (k : Int)], .agg #[.int .i64 (s.p : Int), .slice tA (m + 1) tc, .slice sA sn sc, .slice cA cn cc, .slice uA un uc], .slice oA on oc, .slice iA ik ic] w (Stated ⟨s.p + 1, List.take (m + 1) s.st ++ [gd old k], s.sl, s.ce, s.ou⟩ w) := by
  obtain ⟨ii, hi, h1⟩ := Option.map_eq_some_iff.1 infoN
  simp at h1
  obtain ⟨hz0, hz1, hz2⟩ := h1
  have HI := hide (And.intro hi (And.intro hz0 (And.intro hz1 hz2)))
  clear hi hz0 hz1 hz2
  have hst := c32_row hR.rt
  have hsl := c32_row hR.rs
  have hce := c32_row hR.rc
  have hou := c32_row hR.ru
  have hol := c32_row hR.ro
  have hil := c32_row hR.ri
  have HLN := hide (And.intro hst (And.intro hsl (And.intro hce (And.intro hou (And.intro hol hil)))))
  clear hst hsl hce hou hol hil
  have HR := hide hR
  have HG := hide hrg
  clear hR hrg
  go_enter Try.func27, Try.ntmps27
  go_wp2_with fail
  have K := hide (SB.start w [.int .i64 4, .int .i32 (k : Int)] [.int .i64 (s.p : Int), .slice tA (m + 1) tc, .slice sA sn sc, .slice cA cn cc, .slice uA un uc])
  have hsz : (((w.alloc (.cells #[.int .i64 4, .int .i32 (k : Int)] 52)).alloc (.cells #[.int .i64 (s.p : Int), .slice tA (m + 1) tc, .slice sA sn sc, .slice cA cn cc, .slice uA un uc] 66)).alloc (.cells #[.int .i64 0, .slice none 0 0, .slice none 0 0, .slice none 0 0, .slice none 0 0] 66)).heap.size = w.heap.size + 1 + 1 + 1 := by simp
  generalize ((w.alloc (.cells #[.int .i64 4, .int .i32 (k : Int)] 52)).alloc (.cells #[.int .i64 (s.p : Int), .slice tA (m + 1) tc, .slice sA sn sc, .slice cA cn cc, .slice uA un uc] 66)).alloc (.cells #[.int .i64 0, .slice none 0 0, .slice none 0 0, .slice none 0 0, .slice none 0 0] 66) = w1 at K hsz ⊢
  obtain ⟨q, hq⟩ : ∃ q, w.heap.size = q := ⟨_, rfl⟩
  rw [hq] at K hsz ⊢
  have HQ := hide hq
  clear hq
  refine wp_region_still_tail 9 (by kernel_rfl) (by kernel_rfl) ?_
  simp only [List.take_succ_cons, List.take_zero, List.drop_succ_cons, List.drop_zero]
  rw [show ({ heap := w1.heap, tape := w1.tape, drawn := w1.drawn + 1, os := w1.os, output := w1.output } : World) = w1.drew from rfl]
  replace K := hide (K.out.keep (Below.refl _ w1).drew)
  have hsz2 : w1.drew.heap.size = q + 1 + 1 + 1 := hsz
  clear hsz
  generalize w1.drew = w2 at K hsz2 ⊢
  have i0 := K.out.b4.cell (j := 0) rfl
  have s1 := K.out.b5.cell (j := 1) rfl
  have hrow := HR.out.rt.keep K.out.bl hB
  obtain ⟨hA, hc, hsl, hrow2⟩ := hrow.headed Try.underlying25 sizeN (hi := (m + 1)) (by omega) ((m : Int) + 1) (by omega)
  have hw1 : IntKind.i64.wrap ((m : Int) + 1) = (m : Int) + 1 := IntWalk.i64_in _ (by omega)
  clear hrow
  have HROW := hide hrow2
  clear hrow2
  repeat still_step
  still_call (calm_tak 4 0 w2 rfl)
  repeat still_step
  refine wpStill_nil ?_
  clear hw1 i0 s1 hsl
  go_upto_region 5 with (at_builtin; refine wpList_append_row rfl (.tmp 23) (.tmp 31) 25 rfl w2.heap.size 21 ii _ 4 Try.underlying25 HI.out.1 HI.out.2.1 HI.out.2.2.1 HI.out.2.2.2 rfl _ 0 [] rfl (World.ownsRow_nil _ _ _ _) B _ _ _ _ rfl HROW.out (by rw [← c32_take]; exact c32_one _) (by unfold maxLen; omega) (by omega) w2 (Below.refl _ _) (Nat.le_refl _) ?_; intro A2 c2 w3 ho3 hb3 hg3; simp only [Nat.zero_add, List.nil_append] at ho3)
  have K3 := hide (K.out.keep hb3)
  rw [← c32_take] at ho3
  have O3 := hide ho3
  rw [hsz2] at O3
  clear K ho3 hb3 hg3 HROW
  have s0 := K3.out.b5.cell (j := 0) rfl
  have s1 := K3.out.b5.cell (j := 1) rfl
  have sf := K3.out.b5.frozen 0
  obtain ⟨tb, toff, tu, htA, _, htu, tcell⟩ := (HR.out.rt.keep K3.out.bl hB).get (j := m) (by omega)
  rw [c32_at (by have := HLN.out.1; omega)] at htu
  obtain rfl := Option.some.inj htu
  have hcap := HR.out.rt.cap
  have HT := hide (show topV s.st = gd s.st (m) by unfold topV; rw [HLN.out.1]; rfl)
  have HTA := hide htA
  rw [htA] at s1 ⊢
  clear htu htA
  go_upto_region 9 with (fail)
  replace K3 := hide (K3.out.set 0 (.int .i64 ((s.p : Int) + 1)))
  have lq := fun k hk => (O3.out.lt k hk).1
  replace O3 := hide (own_other (q := q + 1) O3.out (fun k hk => by have := lq k hk; omega) 0 (.int .i64 ((s.p : Int) + 1)))
  clear lq s0 s1 sf tcell hcap
  generalize w3.setCell ⟨q + 1, 0, none⟩ (.int .i64 ((s.p : Int) + 1)) = w4 at K3 O3 ⊢
  have i0 := K3.out.b4.cell (j := 0) rfl
  have i1 := K3.out.b4.cell (j := 1) rfl
  obtain ⟨lb, loff, lu, hlA, _, hlu, lcell⟩ := (HR.out.ro.keep K3.out.bl hB).get (j := k) hkl
  rw [c32_at (by have := HLN.out; omega)] at hlu
  obtain rfl := Option.some.inj hlu
  have lcap := HR.out.ro.cap
  rw [hlA]
  clear hlu hlA
  go_upto_region 35 with (at_builtin; refine wpList_append_at rfl (.tmp 66) (.tmp 71) 25 rfl (q + 1 + 1 + 1) 21 ii _ 4 Try.underlying25 HI.out.1 HI.out.2.1 HI.out.2.2.1 HI.out.2.2.2 rfl _ _ _ rfl (O3.out.alloc _) _ _ _ _ rfl rfl (cell_one _ _ _) (c32_one [gd old k]) (by unfold maxLen; omega) (by omega) (by simp; have := K3.out.b8.lt; omega) (by omega) ?_; intro g5 c5 w5 ho5 hg5 hat5)
  have hb5 : Below w4.heap.size w4 w4 := Below.refl _ _
  have HB5 : Below (q + 1 + 1 + 1) w4 w5 := ((Below.refl _ w4).alloc (by have := K3.out.b8.lt; omega) _).grown hg5 (by simp; have := K3.out.b8.lt; omega) fun k hk => (O3.out.lt k hk).1
  have K5 := hide (show SB w q _ _ w5 from ⟨K3.out.b4.keep HB5 (by omega), K3.out.b5.keep HB5 (by omega), K3.out.b8.keep HB5 (by omega), K3.out.bl.trans (HB5.mono (by have := K3.out.q0; omega)), K3.out.q0⟩)
  have O5 := hide (show w5.ownsRow (q + 1 + 1 + 1) 21 1 _ _ (c32 (_ ++ [gd old k])) from by rw [c32_app]; exact ho5)
  clear hb5 HB5 ho5 hg5 hat5 K3 O3 i0 i1
  clear lcell lcap
  have s0 := K5.out.b5.cell (j := 0) rfl
  have s1 := K5.out.b5.cell (j := 1) rfl
  have s2 := K5.out.b5.cell (j := 2) rfl
  have s3 := K5.out.b5.cell (j := 3) rfl
  have s4 := K5.out.b5.cell (j := 4) rfl
  have sf := K5.out.b5.frozen 1
  have r0 := K5.out.b8.cell (j := 0) rfl
  have r1 := K5.out.b8.cell (j := 1) rfl
  have r2 := K5.out.b8.cell (j := 2) rfl
  have r3 := K5.out.b8.cell (j := 3) rfl
  have r4 := K5.out.b8.cell (j := 4) rfl
  have rf0 := K5.out.b8.frozen 0
  have rf1 := K5.out.b8.frozen 1
  have rf2 := K5.out.b8.frozen 2
  have rf3 := K5.out.b8.frozen 3
  have rf4 := K5.out.b8.frozen 4
  go_wp2
  exact state_end (by simp) rfl rfl K5.out (.inr O5.out) (.inl ⟨B, by have := HQ.out; omega, HR.out.rs.keep K5.out.bl hB⟩) (.inl ⟨B, by have := HQ.out; omega, HR.out.rc.keep K5.out.bl hB⟩) (.inl ⟨B, by have := HQ.out; omega, HR.out.ru.keep K5.out.bl hB⟩)
theorem rs6_P (m : Nat) (hm16 : m ≤ 15) (k : Nat) (hk : k ≤ 65535) (tA sA cA uA oA iA : Option Addr) (tc sn sc cn cc un uc on oc ik ic B : Nat) (s : VS) (old ins : List Int) (w : World) (hB : B ≤ w.heap.size) (hp : s.p ≤ 600) (hR : RS w B tA sA cA uA oA iA (m + 1) tc sn sc cn cc un uc on oc ik ic s old ins) (hrg : rngL s.st) (hkl : k < ik) :
    Calls Try.prog 27 #[.agg #[.int .i64 6, .int .i32 (k : Int)], .agg #[.int .i64 (s.p : Int), .slice tA (m + 1) tc, .slice sA sn sc, .slice cA cn cc, .slice uA un uc], .slice oA on oc, .slice iA ik ic] w (Stated ⟨s.p + 1, List.take (m + 1) s.st ++ [gd ins k], s.sl, s.ce, s.ou⟩ w) := by
  obtain ⟨ii, hi, h1⟩ := Option.map_eq_some_iff.1 infoN
  simp at h1
  obtain ⟨hz0, hz1, hz2⟩ := h1
  have HI := hide (And.intro hi (And.intro hz0 (And.intro hz1 hz2)))
  clear hi hz0 hz1 hz2
  have hst := c32_row hR.rt
  have hsl := c32_row hR.rs
  have hce := c32_row hR.rc
  have hou := c32_row hR.ru
  have hol := c32_row hR.ro
  have hil := c32_row hR.ri
  have HLN := hide (And.intro hst (And.intro hsl (And.intro hce (And.intro hou (And.intro hol hil)))))
  clear hst hsl hce hou hol hil
  have HR := hide hR
  have HG := hide hrg
  clear hR hrg
  go_enter Try.func27, Try.ntmps27
  go_wp2_with fail
  have K := hide (SB.start w [.int .i64 6, .int .i32 (k : Int)] [.int .i64 (s.p : Int), .slice tA (m + 1) tc, .slice sA sn sc, .slice cA cn cc, .slice uA un uc])
  have hsz : (((w.alloc (.cells #[.int .i64 6, .int .i32 (k : Int)] 52)).alloc (.cells #[.int .i64 (s.p : Int), .slice tA (m + 1) tc, .slice sA sn sc, .slice cA cn cc, .slice uA un uc] 66)).alloc (.cells #[.int .i64 0, .slice none 0 0, .slice none 0 0, .slice none 0 0, .slice none 0 0] 66)).heap.size = w.heap.size + 1 + 1 + 1 := by simp
  generalize ((w.alloc (.cells #[.int .i64 6, .int .i32 (k : Int)] 52)).alloc (.cells #[.int .i64 (s.p : Int), .slice tA (m + 1) tc, .slice sA sn sc, .slice cA cn cc, .slice uA un uc] 66)).alloc (.cells #[.int .i64 0, .slice none 0 0, .slice none 0 0, .slice none 0 0, .slice none 0 0] 66) = w1 at K hsz ⊢
  obtain ⟨q, hq⟩ : ∃ q, w.heap.size = q := ⟨_, rfl⟩
  rw [hq] at K hsz ⊢
  have HQ := hide hq
  clear hq
  refine wp_region_still_tail 9 (by kernel_rfl) (by kernel_rfl) ?_
  simp only [List.take_succ_cons, List.take_zero, List.drop_succ_cons, List.drop_zero]
  rw [show ({ heap := w1.heap, tape := w1.tape, drawn := w1.drawn + 1, os := w1.os, output := w1.output } : World) = w1.drew from rfl]
  replace K := hide (K.out.keep (Below.refl _ w1).drew)
  have hsz2 : w1.drew.heap.size = q + 1 + 1 + 1 := hsz
  clear hsz
  generalize w1.drew = w2 at K hsz2 ⊢
  have i0 := K.out.b4.cell (j := 0) rfl
  have s1 := K.out.b5.cell (j := 1) rfl
  have hrow := HR.out.rt.keep K.out.bl hB
  obtain ⟨hA, hc, hsl, hrow2⟩ := hrow.headed Try.underlying25 sizeN (hi := (m + 1)) (by omega) ((m : Int) + 1) (by omega)
  have hw1 : IntKind.i64.wrap ((m : Int) + 1) = (m : Int) + 1 := IntWalk.i64_in _ (by omega)
  clear hrow
  have HROW := hide hrow2
  clear hrow2
  repeat still_step
  still_call (calm_tak 6 0 w2 rfl)
  repeat still_step
  refine wpStill_nil ?_
  clear hw1 i0 s1 hsl
  go_upto_region 5 with (at_builtin; refine wpList_append_row rfl (.tmp 23) (.tmp 31) 25 rfl w2.heap.size 21 ii _ 4 Try.underlying25 HI.out.1 HI.out.2.1 HI.out.2.2.1 HI.out.2.2.2 rfl _ 0 [] rfl (World.ownsRow_nil _ _ _ _) B _ _ _ _ rfl HROW.out (by rw [← c32_take]; exact c32_one _) (by unfold maxLen; omega) (by omega) w2 (Below.refl _ _) (Nat.le_refl _) ?_; intro A2 c2 w3 ho3 hb3 hg3; simp only [Nat.zero_add, List.nil_append] at ho3)
  have K3 := hide (K.out.keep hb3)
  rw [← c32_take] at ho3
  have O3 := hide ho3
  rw [hsz2] at O3
  clear K ho3 hb3 hg3 HROW
  have s0 := K3.out.b5.cell (j := 0) rfl
  have s1 := K3.out.b5.cell (j := 1) rfl
  have sf := K3.out.b5.frozen 0
  obtain ⟨tb, toff, tu, htA, _, htu, tcell⟩ := (HR.out.rt.keep K3.out.bl hB).get (j := m) (by omega)
  rw [c32_at (by have := HLN.out.1; omega)] at htu
  obtain rfl := Option.some.inj htu
  have hcap := HR.out.rt.cap
  have HT := hide (show topV s.st = gd s.st (m) by unfold topV; rw [HLN.out.1]; rfl)
  have HTA := hide htA
  rw [htA] at s1 ⊢
  clear htu htA
  go_upto_region 9 with (fail)
  replace K3 := hide (K3.out.set 0 (.int .i64 ((s.p : Int) + 1)))
  have lq := fun k hk => (O3.out.lt k hk).1
  replace O3 := hide (own_other (q := q + 1) O3.out (fun k hk => by have := lq k hk; omega) 0 (.int .i64 ((s.p : Int) + 1)))
  clear lq s0 s1 sf tcell hcap
  generalize w3.setCell ⟨q + 1, 0, none⟩ (.int .i64 ((s.p : Int) + 1)) = w4 at K3 O3 ⊢
  have i0 := K3.out.b4.cell (j := 0) rfl
  have i1 := K3.out.b4.cell (j := 1) rfl
  obtain ⟨lb, loff, lu, hlA, _, hlu, lcell⟩ := (HR.out.ri.keep K3.out.bl hB).get (j := k) hkl
  rw [c32_at (by have := HLN.out; omega)] at hlu
  obtain rfl := Option.some.inj hlu
  have lcap := HR.out.ri.cap
  rw [hlA]
  clear hlu hlA
  go_upto_region 35 with (at_builtin; refine wpList_append_at rfl (.tmp 75) (.tmp 80) 25 rfl (q + 1 + 1 + 1) 21 ii _ 4 Try.underlying25 HI.out.1 HI.out.2.1 HI.out.2.2.1 HI.out.2.2.2 rfl _ _ _ rfl (O3.out.alloc _) _ _ _ _ rfl rfl (cell_one _ _ _) (c32_one [gd ins k]) (by unfold maxLen; omega) (by omega) (by simp; have := K3.out.b8.lt; omega) (by omega) ?_; intro g5 c5 w5 ho5 hg5 hat5)
  have hb5 : Below w4.heap.size w4 w4 := Below.refl _ _
  have HB5 : Below (q + 1 + 1 + 1) w4 w5 := ((Below.refl _ w4).alloc (by have := K3.out.b8.lt; omega) _).grown hg5 (by simp; have := K3.out.b8.lt; omega) fun k hk => (O3.out.lt k hk).1
  have K5 := hide (show SB w q _ _ w5 from ⟨K3.out.b4.keep HB5 (by omega), K3.out.b5.keep HB5 (by omega), K3.out.b8.keep HB5 (by omega), K3.out.bl.trans (HB5.mono (by have := K3.out.q0; omega)), K3.out.q0⟩)
  have O5 := hide (show w5.ownsRow (q + 1 + 1 + 1) 21 1 _ _ (c32 (_ ++ [gd ins k])) from by rw [c32_app]; exact ho5)
  clear hb5 HB5 ho5 hg5 hat5 K3 O3 i0 i1
  clear lcell lcap
  have s0 := K5.out.b5.cell (j := 0) rfl
  have s1 := K5.out.b5.cell (j := 1) rfl
  have s2 := K5.out.b5.cell (j := 2) rfl
  have s3 := K5.out.b5.cell (j := 3) rfl
  have s4 := K5.out.b5.cell (j := 4) rfl
  have sf := K5.out.b5.frozen 1
  have r0 := K5.out.b8.cell (j := 0) rfl
  have r1 := K5.out.b8.cell (j := 1) rfl
  have r2 := K5.out.b8.cell (j := 2) rfl
  have r3 := K5.out.b8.cell (j := 3) rfl
  have r4 := K5.out.b8.cell (j := 4) rfl
  have rf0 := K5.out.b8.frozen 0
  have rf1 := K5.out.b8.frozen 1
  have rf2 := K5.out.b8.frozen 2
  have rf3 := K5.out.b8.frozen 3
  have rf4 := K5.out.b8.frozen 4
  go_wp2
  exact state_end (by simp) rfl rfl K5.out (.inr O5.out) (.inl ⟨B, by have := HQ.out; omega, HR.out.rs.keep K5.out.bl hB⟩) (.inl ⟨B, by have := HQ.out; omega, HR.out.rc.keep K5.out.bl hB⟩) (.inl ⟨B, by have := HQ.out; omega, HR.out.ru.keep K5.out.bl hB⟩)
theorem rs8 (m : Nat) (hm16 : m ≤ 15) (x : Int) (hx : -2147483648 ≤ x ∧ x ≤ 2147483647) (tA sA cA uA oA iA : Option Addr) (tc sn sc cn cc un uc on oc ik ic B : Nat) (s : VS) (old ins : List Int) (w : World) (hB : B ≤ w.heap.size) (hp : s.p ≤ 600) (hR : RS w B tA sA cA uA oA iA (m + 1) tc sn sc cn cc un uc on oc ik ic s old ins) (hrg : rngL s.st)  :
    Calls Try.prog 27 #[.agg #[.int .i64 8, .int .i32 x], .agg #[.int .i64 (s.p : Int), .slice tA (m + 1) tc, .slice sA sn sc, .slice cA cn cc, .slice uA un uc], .slice oA on oc, .slice iA ik ic] w (Stated ⟨s.p + 1, List.take m s.st ++ [unV x (gd s.st m)], s.sl, s.ce, s.ou⟩ w) := by
  obtain ⟨ii, hi, h1⟩ := Option.map_eq_some_iff.1 infoN
  simp at h1
  obtain ⟨hz0, hz1, hz2⟩ := h1
  have HI := hide (And.intro hi (And.intro hz0 (And.intro hz1 hz2)))
  clear hi hz0 hz1 hz2
  have hst := c32_row hR.rt
  have hsl := c32_row hR.rs
  have hce := c32_row hR.rc
  have hou := c32_row hR.ru
  have hol := c32_row hR.ro
  have hil := c32_row hR.ri
  have HLN := hide (And.intro hst (And.intro hsl (And.intro hce (And.intro hou (And.intro hol hil)))))
  clear hst hsl hce hou hol hil
  have HR := hide hR
  have HG := hide hrg
  clear hR hrg
  go_enter Try.func27, Try.ntmps27
  go_wp2_with fail
  have K := hide (SB.start w [.int .i64 8, .int .i32 x] [.int .i64 (s.p : Int), .slice tA (m + 1) tc, .slice sA sn sc, .slice cA cn cc, .slice uA un uc])
  have hsz : (((w.alloc (.cells #[.int .i64 8, .int .i32 x] 52)).alloc (.cells #[.int .i64 (s.p : Int), .slice tA (m + 1) tc, .slice sA sn sc, .slice cA cn cc, .slice uA un uc] 66)).alloc (.cells #[.int .i64 0, .slice none 0 0, .slice none 0 0, .slice none 0 0, .slice none 0 0] 66)).heap.size = w.heap.size + 1 + 1 + 1 := by simp
  generalize ((w.alloc (.cells #[.int .i64 8, .int .i32 x] 52)).alloc (.cells #[.int .i64 (s.p : Int), .slice tA (m + 1) tc, .slice sA sn sc, .slice cA cn cc, .slice uA un uc] 66)).alloc (.cells #[.int .i64 0, .slice none 0 0, .slice none 0 0, .slice none 0 0, .slice none 0 0] 66) = w1 at K hsz ⊢
  obtain ⟨q, hq⟩ : ∃ q, w.heap.size = q := ⟨_, rfl⟩
  rw [hq] at K hsz ⊢
  have HQ := hide hq
  clear hq
  refine wp_region_still_tail 9 (by kernel_rfl) (by kernel_rfl) ?_
  simp only [List.take_succ_cons, List.take_zero, List.drop_succ_cons, List.drop_zero]
  rw [show ({ heap := w1.heap, tape := w1.tape, drawn := w1.drawn + 1, os := w1.os, output := w1.output } : World) = w1.drew from rfl]
  replace K := hide (K.out.keep (Below.refl _ w1).drew)
  have hsz2 : w1.drew.heap.size = q + 1 + 1 + 1 := hsz
  clear hsz
  generalize w1.drew = w2 at K hsz2 ⊢
  have i0 := K.out.b4.cell (j := 0) rfl
  have s1 := K.out.b5.cell (j := 1) rfl
  have hrow := HR.out.rt.keep K.out.bl hB
  obtain ⟨hA, hc, hsl, hrow2⟩ := hrow.headed Try.underlying25 sizeN (hi := m) (by omega) ((m : Int)) (by omega)
  have hw1 : IntKind.i64.wrap ((m : Int)) = (m : Int) := IntWalk.i64_in _ (by omega)
  clear hrow
  have HROW := hide hrow2
  clear hrow2
  repeat still_step
  still_call (calm_tak 8 1 w2 rfl)
  repeat still_step
  refine wpStill_nil ?_
  clear hw1 i0 s1 hsl
  go_upto_region 5 with (at_builtin; refine wpList_append_row rfl (.tmp 23) (.tmp 31) 25 rfl w2.heap.size 21 ii _ 4 Try.underlying25 HI.out.1 HI.out.2.1 HI.out.2.2.1 HI.out.2.2.2 rfl _ 0 [] rfl (World.ownsRow_nil _ _ _ _) B _ _ _ _ rfl HROW.out (by rw [← c32_take]; exact c32_one _) (by unfold maxLen; omega) (by omega) w2 (Below.refl _ _) (Nat.le_refl _) ?_; intro A2 c2 w3 ho3 hb3 hg3; simp only [Nat.zero_add, List.nil_append] at ho3)
  have K3 := hide (K.out.keep hb3)
  rw [← c32_take] at ho3
  have O3 := hide ho3
  rw [hsz2] at O3
  clear K ho3 hb3 hg3 HROW
  have s0 := K3.out.b5.cell (j := 0) rfl
  have s1 := K3.out.b5.cell (j := 1) rfl
  have sf := K3.out.b5.frozen 0
  obtain ⟨tb, toff, tu, htA, _, htu, tcell⟩ := (HR.out.rt.keep K3.out.bl hB).get (j := m) (by omega)
  rw [c32_at (by have := HLN.out.1; omega)] at htu
  obtain rfl := Option.some.inj htu
  have hcap := HR.out.rt.cap
  have HT := hide (show topV s.st = gd s.st (m) by unfold topV; rw [HLN.out.1]; rfl)
  have HTA := hide htA
  rw [htA] at s1 ⊢
  clear htu htA
  go_upto_region 9 with (fail)
  replace K3 := hide (K3.out.set 0 (.int .i64 ((s.p : Int) + 1)))
  have lq := fun k hk => (O3.out.lt k hk).1
  replace O3 := hide (own_other (q := q + 1) O3.out (fun k hk => by have := lq k hk; omega) 0 (.int .i64 ((s.p : Int) + 1)))
  clear lq s0 s1 sf tcell hcap
  generalize w3.setCell ⟨q + 1, 0, none⟩ (.int .i64 ((s.p : Int) + 1)) = w4 at K3 O3 ⊢
  have i0 := K3.out.b4.cell (j := 0) rfl
  have i1 := K3.out.b4.cell (j := 1) rfl
  go_wp2_with fail
  refine (rUn_any _ _ _ (rng_wf (rng_gd HG.out m))).mono ?_
  rintro e w9 ⟨rfl, rfl⟩
  go_upto_region 35 with (at_builtin; refine wpList_append_at rfl (.tmp 114) (.tmp 116) 25 rfl (q + 1 + 1 + 1) 21 ii _ 4 Try.underlying25 HI.out.1 HI.out.2.1 HI.out.2.2.1 HI.out.2.2.2 rfl _ _ _ rfl (O3.out.alloc _) _ _ _ _ rfl rfl (cell_one _ _ _) (c32_one [unV x (gd s.st m)]) (by unfold maxLen; omega) (by omega) (by simp; have := K3.out.b8.lt; omega) (by omega) ?_; intro g5 c5 w5 ho5 hg5 hat5)
  have hb5 : Below w4.heap.size w4 w4 := Below.refl _ _
  have HB5 : Below (q + 1 + 1 + 1) w4 w5 := ((Below.refl _ w4).alloc (by have := K3.out.b8.lt; omega) _).grown hg5 (by simp; have := K3.out.b8.lt; omega) fun k hk => (O3.out.lt k hk).1
  have K5 := hide (show SB w q _ _ w5 from ⟨K3.out.b4.keep HB5 (by omega), K3.out.b5.keep HB5 (by omega), K3.out.b8.keep HB5 (by omega), K3.out.bl.trans (HB5.mono (by have := K3.out.q0; omega)), K3.out.q0⟩)
  have O5 := hide (show w5.ownsRow (q + 1 + 1 + 1) 21 1 _ _ (c32 (_ ++ [unV x (gd s.st m)])) from by rw [c32_app]; exact ho5)
  clear hb5 HB5 ho5 hg5 hat5 K3 O3 i0 i1
  have s0 := K5.out.b5.cell (j := 0) rfl
  have s1 := K5.out.b5.cell (j := 1) rfl
  have s2 := K5.out.b5.cell (j := 2) rfl
  have s3 := K5.out.b5.cell (j := 3) rfl
  have s4 := K5.out.b5.cell (j := 4) rfl
  have sf := K5.out.b5.frozen 1
  have r0 := K5.out.b8.cell (j := 0) rfl
  have r1 := K5.out.b8.cell (j := 1) rfl
  have r2 := K5.out.b8.cell (j := 2) rfl
  have r3 := K5.out.b8.cell (j := 3) rfl
  have r4 := K5.out.b8.cell (j := 4) rfl
  have rf0 := K5.out.b8.frozen 0
  have rf1 := K5.out.b8.frozen 1
  have rf2 := K5.out.b8.frozen 2
  have rf3 := K5.out.b8.frozen 3
  have rf4 := K5.out.b8.frozen 4
  go_wp2
  exact state_end (by simp) rfl rfl K5.out (.inr O5.out) (.inl ⟨B, by have := HQ.out; omega, HR.out.rs.keep K5.out.bl hB⟩) (.inl ⟨B, by have := HQ.out; omega, HR.out.rc.keep K5.out.bl hB⟩) (.inl ⟨B, by have := HQ.out; omega, HR.out.ru.keep K5.out.bl hB⟩)
theorem rs9 (m : Nat) (hm16 : m ≤ 15) (x : Int) (hx : -2147483648 ≤ x ∧ x ≤ 2147483647) (tA sA cA uA oA iA : Option Addr) (tc sn sc cn cc un uc on oc ik ic B : Nat) (s : VS) (old ins : List Int) (w : World) (hB : B ≤ w.heap.size) (hp : s.p ≤ 600) (hR : RS w B tA sA cA uA oA iA (m + 2) tc sn sc cn cc un uc on oc ik ic s old ins) (hrg : rngL s.st)  :
    Calls Try.prog 27 #[.agg #[.int .i64 9, .int .i32 x], .agg #[.int .i64 (s.p : Int), .slice tA (m + 2) tc, .slice sA sn sc, .slice cA cn cc, .slice uA un uc], .slice oA on oc, .slice iA ik ic] w (Stated ⟨s.p + 1, List.take m s.st ++ [binV x (gd s.st m) (gd s.st (m + 1))], s.sl, s.ce, s.ou⟩ w) := by
  obtain ⟨ii, hi, h1⟩ := Option.map_eq_some_iff.1 infoN
  simp at h1
  obtain ⟨hz0, hz1, hz2⟩ := h1
  have HI := hide (And.intro hi (And.intro hz0 (And.intro hz1 hz2)))
  clear hi hz0 hz1 hz2
  have hst := c32_row hR.rt
  have hsl := c32_row hR.rs
  have hce := c32_row hR.rc
  have hou := c32_row hR.ru
  have hol := c32_row hR.ro
  have hil := c32_row hR.ri
  have HLN := hide (And.intro hst (And.intro hsl (And.intro hce (And.intro hou (And.intro hol hil)))))
  clear hst hsl hce hou hol hil
  have HR := hide hR
  have HG := hide hrg
  clear hR hrg
  go_enter Try.func27, Try.ntmps27
  go_wp2_with fail
  have K := hide (SB.start w [.int .i64 9, .int .i32 x] [.int .i64 (s.p : Int), .slice tA (m + 2) tc, .slice sA sn sc, .slice cA cn cc, .slice uA un uc])
  have hsz : (((w.alloc (.cells #[.int .i64 9, .int .i32 x] 52)).alloc (.cells #[.int .i64 (s.p : Int), .slice tA (m + 2) tc, .slice sA sn sc, .slice cA cn cc, .slice uA un uc] 66)).alloc (.cells #[.int .i64 0, .slice none 0 0, .slice none 0 0, .slice none 0 0, .slice none 0 0] 66)).heap.size = w.heap.size + 1 + 1 + 1 := by simp
  generalize ((w.alloc (.cells #[.int .i64 9, .int .i32 x] 52)).alloc (.cells #[.int .i64 (s.p : Int), .slice tA (m + 2) tc, .slice sA sn sc, .slice cA cn cc, .slice uA un uc] 66)).alloc (.cells #[.int .i64 0, .slice none 0 0, .slice none 0 0, .slice none 0 0, .slice none 0 0] 66) = w1 at K hsz ⊢
  obtain ⟨q, hq⟩ : ∃ q, w.heap.size = q := ⟨_, rfl⟩
  rw [hq] at K hsz ⊢
  have HQ := hide hq
  clear hq
  refine wp_region_still_tail 9 (by kernel_rfl) (by kernel_rfl) ?_
  simp only [List.take_succ_cons, List.take_zero, List.drop_succ_cons, List.drop_zero]
  rw [show ({ heap := w1.heap, tape := w1.tape, drawn := w1.drawn + 1, os := w1.os, output := w1.output } : World) = w1.drew from rfl]
  replace K := hide (K.out.keep (Below.refl _ w1).drew)
  have hsz2 : w1.drew.heap.size = q + 1 + 1 + 1 := hsz
  clear hsz
  generalize w1.drew = w2 at K hsz2 ⊢
  have i0 := K.out.b4.cell (j := 0) rfl
  have s1 := K.out.b5.cell (j := 1) rfl
  have hrow := HR.out.rt.keep K.out.bl hB
  obtain ⟨hA, hc, hsl, hrow2⟩ := hrow.headed Try.underlying25 sizeN (hi := m) (by omega) ((m : Int)) (by omega)
  have hw1 : IntKind.i64.wrap ((m : Int)) = (m : Int) := IntWalk.i64_in _ (by omega)
  clear hrow
  have HROW := hide hrow2
  clear hrow2
  repeat still_step
  still_call (calm_tak 9 2 w2 rfl)
  repeat still_step
  refine wpStill_nil ?_
  clear hw1 i0 s1 hsl
  go_upto_region 5 with (at_builtin; refine wpList_append_row rfl (.tmp 23) (.tmp 31) 25 rfl w2.heap.size 21 ii _ 4 Try.underlying25 HI.out.1 HI.out.2.1 HI.out.2.2.1 HI.out.2.2.2 rfl _ 0 [] rfl (World.ownsRow_nil _ _ _ _) B _ _ _ _ rfl HROW.out (by rw [← c32_take]; exact c32_one _) (by unfold maxLen; omega) (by omega) w2 (Below.refl _ _) (Nat.le_refl _) ?_; intro A2 c2 w3 ho3 hb3 hg3; simp only [Nat.zero_add, List.nil_append] at ho3)
  have K3 := hide (K.out.keep hb3)
  rw [← c32_take] at ho3
  have O3 := hide ho3
  rw [hsz2] at O3
  clear K ho3 hb3 hg3 HROW
  have s0 := K3.out.b5.cell (j := 0) rfl
  have s1 := K3.out.b5.cell (j := 1) rfl
  have sf := K3.out.b5.frozen 0
  obtain ⟨tb, toff, tu, htA, _, htu, tcell⟩ := (HR.out.rt.keep K3.out.bl hB).get (j := m + 1) (by omega)
  rw [c32_at (by have := HLN.out.1; omega)] at htu
  obtain rfl := Option.some.inj htu
  have hcap := HR.out.rt.cap
  have HT := hide (show topV s.st = gd s.st (m + 1) by unfold topV; rw [HLN.out.1]; rfl)
  have HTA := hide htA
  rw [htA] at s1 ⊢
  clear htu htA
  go_upto_region 9 with (fail)
  replace K3 := hide (K3.out.set 0 (.int .i64 ((s.p : Int) + 1)))
  have lq := fun k hk => (O3.out.lt k hk).1
  replace O3 := hide (own_other (q := q + 1) O3.out (fun k hk => by have := lq k hk; omega) 0 (.int .i64 ((s.p : Int) + 1)))
  clear lq s0 s1 sf tcell hcap
  generalize w3.setCell ⟨q + 1, 0, none⟩ (.int .i64 ((s.p : Int) + 1)) = w4 at K3 O3 ⊢
  have i0 := K3.out.b4.cell (j := 0) rfl
  have i1 := K3.out.b4.cell (j := 1) rfl
  have sx := K3.out.b5.cell (j := 1) rfl
  obtain ⟨lb, loff, lu, hlA, _, hlu, lcell⟩ := (HR.out.rt.keep K3.out.bl hB).get (j := m) (by omega)
  rw [c32_at (by have := HLN.out; omega)] at hlu
  obtain rfl := Option.some.inj hlu
  have lcap := HR.out.rt.cap
  rw [hlA] at sx
  clear hlu hlA
  go_wp2_with fail
  refine (rBin_any _ _ _ _ (rng_wf (rng_gd HG.out m)) (rng_wf (rng_gd HG.out (m + 1)))).mono ?_
  rintro e w9 ⟨rfl, rfl⟩
  go_upto_region 35 with (at_builtin; refine wpList_append_at rfl (.tmp 132) (.tmp 134) 25 rfl (q + 1 + 1 + 1) 21 ii _ 4 Try.underlying25 HI.out.1 HI.out.2.1 HI.out.2.2.1 HI.out.2.2.2 rfl _ _ _ rfl (O3.out.alloc _) _ _ _ _ rfl rfl (cell_one _ _ _) (c32_one [binV x (gd s.st m) (gd s.st (m + 1))]) (by unfold maxLen; omega) (by omega) (by simp; have := K3.out.b8.lt; omega) (by omega) ?_; intro g5 c5 w5 ho5 hg5 hat5)
  have hb5 : Below w4.heap.size w4 w4 := Below.refl _ _
  have HB5 : Below (q + 1 + 1 + 1) w4 w5 := ((Below.refl _ w4).alloc (by have := K3.out.b8.lt; omega) _).grown hg5 (by simp; have := K3.out.b8.lt; omega) fun k hk => (O3.out.lt k hk).1
  have K5 := hide (show SB w q _ _ w5 from ⟨K3.out.b4.keep HB5 (by omega), K3.out.b5.keep HB5 (by omega), K3.out.b8.keep HB5 (by omega), K3.out.bl.trans (HB5.mono (by have := K3.out.q0; omega)), K3.out.q0⟩)
  have O5 := hide (show w5.ownsRow (q + 1 + 1 + 1) 21 1 _ _ (c32 (_ ++ [binV x (gd s.st m) (gd s.st (m + 1))])) from by rw [c32_app]; exact ho5)
  clear hb5 HB5 ho5 hg5 hat5 K3 O3 i0 i1
  clear sx lcell lcap
  have s0 := K5.out.b5.cell (j := 0) rfl
  have s1 := K5.out.b5.cell (j := 1) rfl
  have s2 := K5.out.b5.cell (j := 2) rfl
  have s3 := K5.out.b5.cell (j := 3) rfl
  have s4 := K5.out.b5.cell (j := 4) rfl
  have sf := K5.out.b5.frozen 1
  have r0 := K5.out.b8.cell (j := 0) rfl
  have r1 := K5.out.b8.cell (j := 1) rfl
  have r2 := K5.out.b8.cell (j := 2) rfl
  have r3 := K5.out.b8.cell (j := 3) rfl
  have r4 := K5.out.b8.cell (j := 4) rfl
  have rf0 := K5.out.b8.frozen 0
  have rf1 := K5.out.b8.frozen 1
  have rf2 := K5.out.b8.frozen 2
  have rf3 := K5.out.b8.frozen 3
  have rf4 := K5.out.b8.frozen 4
  go_wp2
  exact state_end (by simp) rfl rfl K5.out (.inr O5.out) (.inl ⟨B, by have := HQ.out; omega, HR.out.rs.keep K5.out.bl hB⟩) (.inl ⟨B, by have := HQ.out; omega, HR.out.rc.keep K5.out.bl hB⟩) (.inl ⟨B, by have := HQ.out; omega, HR.out.ru.keep K5.out.bl hB⟩)
theorem rs3 (m : Nat) (hm16 : m ≤ 15) (k : Nat) (hk : k ≤ 65535) (tA sA cA uA oA iA : Option Addr) (tc sn sc cn cc un uc on oc ik ic B : Nat) (s : VS) (old ins : List Int) (w : World) (hB : B ≤ w.heap.size) (hp : s.p ≤ 600) (hR : RS w B tA sA cA uA oA iA (m + 1) tc sn sc cn cc un uc on oc ik ic s old ins) (hrg : rngL s.st) (hkl : k < sn) (hnl : sn ≤ 1000) :
    Calls Try.prog 27 #[.agg #[.int .i64 3, .int .i32 (k : Int)], .agg #[.int .i64 (s.p : Int), .slice tA (m + 1) tc, .slice sA sn sc, .slice cA cn cc, .slice uA un uc], .slice oA on oc, .slice iA ik ic] w (Stated ⟨s.p + 1, List.take m s.st, s.sl.set k (gd s.st m), s.ce, s.ou⟩ w) := by
  obtain ⟨ii, hi, h1⟩ := Option.map_eq_some_iff.1 infoN
  simp at h1
  obtain ⟨hz0, hz1, hz2⟩ := h1
  have HI := hide (And.intro hi (And.intro hz0 (And.intro hz1 hz2)))
  clear hi hz0 hz1 hz2
  have hst := c32_row hR.rt
  have hsl := c32_row hR.rs
  have hce := c32_row hR.rc
  have hou := c32_row hR.ru
  have hol := c32_row hR.ro
  have hil := c32_row hR.ri
  have HLN := hide (And.intro hst (And.intro hsl (And.intro hce (And.intro hou (And.intro hol hil)))))
  clear hst hsl hce hou hol hil
  have HR := hide hR
  have HG := hide hrg
  clear hR hrg
  go_enter Try.func27, Try.ntmps27
  go_wp2_with fail
  have K := hide (SB.start w [.int .i64 3, .int .i32 (k : Int)] [.int .i64 (s.p : Int), .slice tA (m + 1) tc, .slice sA sn sc, .slice cA cn cc, .slice uA un uc])
  have hsz : (((w.alloc (.cells #[.int .i64 3, .int .i32 (k : Int)] 52)).alloc (.cells #[.int .i64 (s.p : Int), .slice tA (m + 1) tc, .slice sA sn sc, .slice cA cn cc, .slice uA un uc] 66)).alloc (.cells #[.int .i64 0, .slice none 0 0, .slice none 0 0, .slice none 0 0, .slice none 0 0] 66)).heap.size = w.heap.size + 1 + 1 + 1 := by simp
  generalize ((w.alloc (.cells #[.int .i64 3, .int .i32 (k : Int)] 52)).alloc (.cells #[.int .i64 (s.p : Int), .slice tA (m + 1) tc, .slice sA sn sc, .slice cA cn cc, .slice uA un uc] 66)).alloc (.cells #[.int .i64 0, .slice none 0 0, .slice none 0 0, .slice none 0 0, .slice none 0 0] 66) = w1 at K hsz ⊢
  obtain ⟨q, hq⟩ : ∃ q, w.heap.size = q := ⟨_, rfl⟩
  rw [hq] at K hsz ⊢
  have HQ := hide hq
  clear hq
  refine wp_region_still_tail 9 (by kernel_rfl) (by kernel_rfl) ?_
  simp only [List.take_succ_cons, List.take_zero, List.drop_succ_cons, List.drop_zero]
  rw [show ({ heap := w1.heap, tape := w1.tape, drawn := w1.drawn + 1, os := w1.os, output := w1.output } : World) = w1.drew from rfl]
  replace K := hide (K.out.keep (Below.refl _ w1).drew)
  have hsz2 : w1.drew.heap.size = q + 1 + 1 + 1 := hsz
  clear hsz
  generalize w1.drew = w2 at K hsz2 ⊢
  have i0 := K.out.b4.cell (j := 0) rfl
  have s1 := K.out.b5.cell (j := 1) rfl
  have hrow := HR.out.rt.keep K.out.bl hB
  obtain ⟨hA, hc, hsl, hrow2⟩ := hrow.headed Try.underlying25 sizeN (hi := m) (by omega) ((m : Int)) (by omega)
  have hw1 : IntKind.i64.wrap ((m : Int)) = (m : Int) := IntWalk.i64_in _ (by omega)
  clear hrow
  have HROW := hide hrow2
  clear hrow2
  repeat still_step
  still_call (calm_tak 3 1 w2 rfl)
  repeat still_step
  refine wpStill_nil ?_
  clear hw1 i0 s1 hsl
  go_upto_region 5 with (at_builtin; refine wpList_append_row rfl (.tmp 23) (.tmp 31) 25 rfl w2.heap.size 21 ii _ 4 Try.underlying25 HI.out.1 HI.out.2.1 HI.out.2.2.1 HI.out.2.2.2 rfl _ 0 [] rfl (World.ownsRow_nil _ _ _ _) B _ _ _ _ rfl HROW.out (by rw [← c32_take]; exact c32_one _) (by unfold maxLen; omega) (by omega) w2 (Below.refl _ _) (Nat.le_refl _) ?_; intro A2 c2 w3 ho3 hb3 hg3; simp only [Nat.zero_add, List.nil_append] at ho3)
  have K3 := hide (K.out.keep hb3)
  rw [← c32_take] at ho3
  have O3 := hide ho3
  rw [hsz2] at O3
  clear K ho3 hb3 hg3 HROW
  have s0 := K3.out.b5.cell (j := 0) rfl
  have s1 := K3.out.b5.cell (j := 1) rfl
  have sf := K3.out.b5.frozen 0
  obtain ⟨tb, toff, tu, htA, _, htu, tcell⟩ := (HR.out.rt.keep K3.out.bl hB).get (j := m) (by omega)
  rw [c32_at (by have := HLN.out.1; omega)] at htu
  obtain rfl := Option.some.inj htu
  have hcap := HR.out.rt.cap
  have HT := hide (show topV s.st = gd s.st (m) by unfold topV; rw [HLN.out.1]; rfl)
  have HTA := hide htA
  rw [htA] at s1 ⊢
  clear htu htA
  go_upto_region 9 with (fail)
  replace K3 := hide (K3.out.set 0 (.int .i64 ((s.p : Int) + 1)))
  have lq := fun k hk => (O3.out.lt k hk).1
  replace O3 := hide (own_other (q := q + 1) O3.out (fun k hk => by have := lq k hk; omega) 0 (.int .i64 ((s.p : Int) + 1)))
  clear lq s0 s1 sf tcell hcap
  generalize w3.setCell ⟨q + 1, 0, none⟩ (.int .i64 ((s.p : Int) + 1)) = w4 at K3 O3 ⊢
  have i0 := K3.out.b4.cell (j := 0) rfl
  have i1 := K3.out.b4.cell (j := 1) rfl
  have sx := K3.out.b5.cell (j := 2) rfl
  go_wp2_with fail
  refine (with_any B sA sn sc k (gd s.st m) s.sl w4 (HR.out.rs.keep K3.out.bl hB) hkl (by omega)).mono ?_
  rintro e w5 ⟨A5, c5, rfl, o5, hb5⟩
  rw [List.length_set] at o5 ⊢
  have l4 := K3.out.b8.lt
  have K4 := hide (K3.out.keep hb5)
  have sx := K4.out.b5.cell (j := 2) rfl
  have sf := K4.out.b5.frozen 2
  have K5 := hide (K4.out.set 2 (.slice A5 s.sl.length c5))
  have O4 := own_below O3.out hb5 (Nat.le_refl _)
  have O5 := hide (own_other (q := q + 1) O4 (fun k hk => by have := (O4.lt k hk).1; omega) 2 (.slice A5 s.sl.length c5))
  have o6 := own_lower (base' := q + 1 + 1 + 1) (by omega) o5
  have O6 := hide (own_other (q := q + 1) o6 (fun k hk => by have := (o6.lt k hk).1; omega) 2 (.slice A5 s.sl.length c5))
  clear K3 O3 o5 o6 O4 hb5
  go_upto_region 35 with (fail)
  clear sx sf K4
  generalize w5.setCell ⟨q + 1, 2, none⟩ (.slice A5 s.sl.length c5) = w6 at K5 O5 O6 ⊢
  have s0 := K5.out.b5.cell (j := 0) rfl
  have s1 := K5.out.b5.cell (j := 1) rfl
  have s2 := K5.out.b5.cell (j := 2) rfl
  have s3 := K5.out.b5.cell (j := 3) rfl
  have s4 := K5.out.b5.cell (j := 4) rfl
  have sf := K5.out.b5.frozen 1
  have r0 := K5.out.b8.cell (j := 0) rfl
  have r1 := K5.out.b8.cell (j := 1) rfl
  have r2 := K5.out.b8.cell (j := 2) rfl
  have r3 := K5.out.b8.cell (j := 3) rfl
  have r4 := K5.out.b8.cell (j := 4) rfl
  have rf0 := K5.out.b8.frozen 0
  have rf1 := K5.out.b8.frozen 1
  have rf2 := K5.out.b8.frozen 2
  have rf3 := K5.out.b8.frozen 3
  have rf4 := K5.out.b8.frozen 4
  go_wp2
  exact state_end (by simp) rfl rfl K5.out (.inr O5.out) (.inr O6.out) (.inl ⟨B, by have := HQ.out; omega, HR.out.rc.keep K5.out.bl hB⟩) (.inl ⟨B, by have := HQ.out; omega, HR.out.ru.keep K5.out.bl hB⟩)
theorem rs5 (m : Nat) (hm16 : m ≤ 15) (k : Nat) (hk : k ≤ 65535) (tA sA cA uA oA iA : Option Addr) (tc sn sc cn cc un uc on oc ik ic B : Nat) (s : VS) (old ins : List Int) (w : World) (hB : B ≤ w.heap.size) (hp : s.p ≤ 600) (hR : RS w B tA sA cA uA oA iA (m + 1) tc sn sc cn cc un uc on oc ik ic s old ins) (hrg : rngL s.st) (hkl : k < cn) (hnl : cn ≤ 1000) :
    Calls Try.prog 27 #[.agg #[.int .i64 5, .int .i32 (k : Int)], .agg #[.int .i64 (s.p : Int), .slice tA (m + 1) tc, .slice sA sn sc, .slice cA cn cc, .slice uA un uc], .slice oA on oc, .slice iA ik ic] w (Stated ⟨s.p + 1, List.take m s.st, s.sl, s.ce.set k (gd s.st m), s.ou⟩ w) := by
  obtain ⟨ii, hi, h1⟩ := Option.map_eq_some_iff.1 infoN
  simp at h1
  obtain ⟨hz0, hz1, hz2⟩ := h1
  have HI := hide (And.intro hi (And.intro hz0 (And.intro hz1 hz2)))
  clear hi hz0 hz1 hz2
  have hst := c32_row hR.rt
  have hsl := c32_row hR.rs
  have hce := c32_row hR.rc
  have hou := c32_row hR.ru
  have hol := c32_row hR.ro
  have hil := c32_row hR.ri
  have HLN := hide (And.intro hst (And.intro hsl (And.intro hce (And.intro hou (And.intro hol hil)))))
  clear hst hsl hce hou hol hil
  have HR := hide hR
  have HG := hide hrg
  clear hR hrg
  go_enter Try.func27, Try.ntmps27
  go_wp2_with fail
  have K := hide (SB.start w [.int .i64 5, .int .i32 (k : Int)] [.int .i64 (s.p : Int), .slice tA (m + 1) tc, .slice sA sn sc, .slice cA cn cc, .slice uA un uc])
  have hsz : (((w.alloc (.cells #[.int .i64 5, .int .i32 (k : Int)] 52)).alloc (.cells #[.int .i64 (s.p : Int), .slice tA (m + 1) tc, .slice sA sn sc, .slice cA cn cc, .slice uA un uc] 66)).alloc (.cells #[.int .i64 0, .slice none 0 0, .slice none 0 0, .slice none 0 0, .slice none 0 0] 66)).heap.size = w.heap.size + 1 + 1 + 1 := by simp
  generalize ((w.alloc (.cells #[.int .i64 5, .int .i32 (k : Int)] 52)).alloc (.cells #[.int .i64 (s.p : Int), .slice tA (m + 1) tc, .slice sA sn sc, .slice cA cn cc, .slice uA un uc] 66)).alloc (.cells #[.int .i64 0, .slice none 0 0, .slice none 0 0, .slice none 0 0, .slice none 0 0] 66) = w1 at K hsz ⊢
  obtain ⟨q, hq⟩ : ∃ q, w.heap.size = q := ⟨_, rfl⟩
  rw [hq] at K hsz ⊢
  have HQ := hide hq
  clear hq
  refine wp_region_still_tail 9 (by kernel_rfl) (by kernel_rfl) ?_
  simp only [List.take_succ_cons, List.take_zero, List.drop_succ_cons, List.drop_zero]
  rw [show ({ heap := w1.heap, tape := w1.tape, drawn := w1.drawn + 1, os := w1.os, output := w1.output } : World) = w1.drew from rfl]
  replace K := hide (K.out.keep (Below.refl _ w1).drew)
  have hsz2 : w1.drew.heap.size = q + 1 + 1 + 1 := hsz
  clear hsz
  generalize w1.drew = w2 at K hsz2 ⊢
  have i0 := K.out.b4.cell (j := 0) rfl
  have s1 := K.out.b5.cell (j := 1) rfl
  have hrow := HR.out.rt.keep K.out.bl hB
  obtain ⟨hA, hc, hsl, hrow2⟩ := hrow.headed Try.underlying25 sizeN (hi := m) (by omega) ((m : Int)) (by omega)
  have hw1 : IntKind.i64.wrap ((m : Int)) = (m : Int) := IntWalk.i64_in _ (by omega)
  clear hrow
  have HROW := hide hrow2
  clear hrow2
  repeat still_step
  still_call (calm_tak 5 1 w2 rfl)
  repeat still_step
  refine wpStill_nil ?_
  clear hw1 i0 s1 hsl
  go_upto_region 5 with (at_builtin; refine wpList_append_row rfl (.tmp 23) (.tmp 31) 25 rfl w2.heap.size 21 ii _ 4 Try.underlying25 HI.out.1 HI.out.2.1 HI.out.2.2.1 HI.out.2.2.2 rfl _ 0 [] rfl (World.ownsRow_nil _ _ _ _) B _ _ _ _ rfl HROW.out (by rw [← c32_take]; exact c32_one _) (by unfold maxLen; omega) (by omega) w2 (Below.refl _ _) (Nat.le_refl _) ?_; intro A2 c2 w3 ho3 hb3 hg3; simp only [Nat.zero_add, List.nil_append] at ho3)
  have K3 := hide (K.out.keep hb3)
  rw [← c32_take] at ho3
  have O3 := hide ho3
  rw [hsz2] at O3
  clear K ho3 hb3 hg3 HROW
  have s0 := K3.out.b5.cell (j := 0) rfl
  have s1 := K3.out.b5.cell (j := 1) rfl
  have sf := K3.out.b5.frozen 0
  obtain ⟨tb, toff, tu, htA, _, htu, tcell⟩ := (HR.out.rt.keep K3.out.bl hB).get (j := m) (by omega)
  rw [c32_at (by have := HLN.out.1; omega)] at htu
  obtain rfl := Option.some.inj htu
  have hcap := HR.out.rt.cap
  have HT := hide (show topV s.st = gd s.st (m) by unfold topV; rw [HLN.out.1]; rfl)
  have HTA := hide htA
  rw [htA] at s1 ⊢
  clear htu htA
  go_upto_region 9 with (fail)
  replace K3 := hide (K3.out.set 0 (.int .i64 ((s.p : Int) + 1)))
  have lq := fun k hk => (O3.out.lt k hk).1
  replace O3 := hide (own_other (q := q + 1) O3.out (fun k hk => by have := lq k hk; omega) 0 (.int .i64 ((s.p : Int) + 1)))
  clear lq s0 s1 sf tcell hcap
  generalize w3.setCell ⟨q + 1, 0, none⟩ (.int .i64 ((s.p : Int) + 1)) = w4 at K3 O3 ⊢
  have i0 := K3.out.b4.cell (j := 0) rfl
  have i1 := K3.out.b4.cell (j := 1) rfl
  have sx := K3.out.b5.cell (j := 3) rfl
  go_wp2_with fail
  refine (with_any B cA cn cc k (gd s.st m) s.ce w4 (HR.out.rc.keep K3.out.bl hB) hkl (by omega)).mono ?_
  rintro e w5 ⟨A5, c5, rfl, o5, hb5⟩
  rw [List.length_set] at o5 ⊢
  have l4 := K3.out.b8.lt
  have K4 := hide (K3.out.keep hb5)
  have sx := K4.out.b5.cell (j := 3) rfl
  have sf := K4.out.b5.frozen 3
  have K5 := hide (K4.out.set 3 (.slice A5 s.ce.length c5))
  have O4 := own_below O3.out hb5 (Nat.le_refl _)
  have O5 := hide (own_other (q := q + 1) O4 (fun k hk => by have := (O4.lt k hk).1; omega) 3 (.slice A5 s.ce.length c5))
  have o6 := own_lower (base' := q + 1 + 1 + 1) (by omega) o5
  have O6 := hide (own_other (q := q + 1) o6 (fun k hk => by have := (o6.lt k hk).1; omega) 3 (.slice A5 s.ce.length c5))
  clear K3 O3 o5 o6 O4 hb5
  go_upto_region 35 with (fail)
  clear sx sf K4
  generalize w5.setCell ⟨q + 1, 3, none⟩ (.slice A5 s.ce.length c5) = w6 at K5 O5 O6 ⊢
  have s0 := K5.out.b5.cell (j := 0) rfl
  have s1 := K5.out.b5.cell (j := 1) rfl
  have s2 := K5.out.b5.cell (j := 2) rfl
  have s3 := K5.out.b5.cell (j := 3) rfl
  have s4 := K5.out.b5.cell (j := 4) rfl
  have sf := K5.out.b5.frozen 1
  have r0 := K5.out.b8.cell (j := 0) rfl
  have r1 := K5.out.b8.cell (j := 1) rfl
  have r2 := K5.out.b8.cell (j := 2) rfl
  have r3 := K5.out.b8.cell (j := 3) rfl
  have r4 := K5.out.b8.cell (j := 4) rfl
  have rf0 := K5.out.b8.frozen 0
  have rf1 := K5.out.b8.frozen 1
  have rf2 := K5.out.b8.frozen 2
  have rf3 := K5.out.b8.frozen 3
  have rf4 := K5.out.b8.frozen 4
  go_wp2
  exact state_end (by simp) rfl rfl K5.out (.inr O5.out) (.inl ⟨B, by have := HQ.out; omega, HR.out.rs.keep K5.out.bl hB⟩) (.inr O6.out) (.inl ⟨B, by have := HQ.out; omega, HR.out.ru.keep K5.out.bl hB⟩)
theorem rs7 (m : Nat) (hm16 : m ≤ 15) (k : Nat) (hk : k ≤ 65535) (tA sA cA uA oA iA : Option Addr) (tc sn sc cn cc un uc on oc ik ic B : Nat) (s : VS) (old ins : List Int) (w : World) (hB : B ≤ w.heap.size) (hp : s.p ≤ 600) (hR : RS w B tA sA cA uA oA iA (m + 1) tc sn sc cn cc un uc on oc ik ic s old ins) (hrg : rngL s.st) (hkl : k < un) (hnl : un ≤ 1000) :
    Calls Try.prog 27 #[.agg #[.int .i64 7, .int .i32 (k : Int)], .agg #[.int .i64 (s.p : Int), .slice tA (m + 1) tc, .slice sA sn sc, .slice cA cn cc, .slice uA un uc], .slice oA on oc, .slice iA ik ic] w (Stated ⟨s.p + 1, List.take m s.st, s.sl, s.ce, s.ou.set k (gd s.st m)⟩ w) := by
  obtain ⟨ii, hi, h1⟩ := Option.map_eq_some_iff.1 infoN
  simp at h1
  obtain ⟨hz0, hz1, hz2⟩ := h1
  have HI := hide (And.intro hi (And.intro hz0 (And.intro hz1 hz2)))
  clear hi hz0 hz1 hz2
  have hst := c32_row hR.rt
  have hsl := c32_row hR.rs
  have hce := c32_row hR.rc
  have hou := c32_row hR.ru
  have hol := c32_row hR.ro
  have hil := c32_row hR.ri
  have HLN := hide (And.intro hst (And.intro hsl (And.intro hce (And.intro hou (And.intro hol hil)))))
  clear hst hsl hce hou hol hil
  have HR := hide hR
  have HG := hide hrg
  clear hR hrg
  go_enter Try.func27, Try.ntmps27
  go_wp2_with fail
  have K := hide (SB.start w [.int .i64 7, .int .i32 (k : Int)] [.int .i64 (s.p : Int), .slice tA (m + 1) tc, .slice sA sn sc, .slice cA cn cc, .slice uA un uc])
  have hsz : (((w.alloc (.cells #[.int .i64 7, .int .i32 (k : Int)] 52)).alloc (.cells #[.int .i64 (s.p : Int), .slice tA (m + 1) tc, .slice sA sn sc, .slice cA cn cc, .slice uA un uc] 66)).alloc (.cells #[.int .i64 0, .slice none 0 0, .slice none 0 0, .slice none 0 0, .slice none 0 0] 66)).heap.size = w.heap.size + 1 + 1 + 1 := by simp
  generalize ((w.alloc (.cells #[.int .i64 7, .int .i32 (k : Int)] 52)).alloc (.cells #[.int .i64 (s.p : Int), .slice tA (m + 1) tc, .slice sA sn sc, .slice cA cn cc, .slice uA un uc] 66)).alloc (.cells #[.int .i64 0, .slice none 0 0, .slice none 0 0, .slice none 0 0, .slice none 0 0] 66) = w1 at K hsz ⊢
  obtain ⟨q, hq⟩ : ∃ q, w.heap.size = q := ⟨_, rfl⟩
  rw [hq] at K hsz ⊢
  have HQ := hide hq
  clear hq
  refine wp_region_still_tail 9 (by kernel_rfl) (by kernel_rfl) ?_
  simp only [List.take_succ_cons, List.take_zero, List.drop_succ_cons, List.drop_zero]
  rw [show ({ heap := w1.heap, tape := w1.tape, drawn := w1.drawn + 1, os := w1.os, output := w1.output } : World) = w1.drew from rfl]
  replace K := hide (K.out.keep (Below.refl _ w1).drew)
  have hsz2 : w1.drew.heap.size = q + 1 + 1 + 1 := hsz
  clear hsz
  generalize w1.drew = w2 at K hsz2 ⊢
  have i0 := K.out.b4.cell (j := 0) rfl
  have s1 := K.out.b5.cell (j := 1) rfl
  have hrow := HR.out.rt.keep K.out.bl hB
  obtain ⟨hA, hc, hsl, hrow2⟩ := hrow.headed Try.underlying25 sizeN (hi := m) (by omega) ((m : Int)) (by omega)
  have hw1 : IntKind.i64.wrap ((m : Int)) = (m : Int) := IntWalk.i64_in _ (by omega)
  clear hrow
  have HROW := hide hrow2
  clear hrow2
  repeat still_step
  still_call (calm_tak 7 1 w2 rfl)
  repeat still_step
  refine wpStill_nil ?_
  clear hw1 i0 s1 hsl
  go_upto_region 5 with (at_builtin; refine wpList_append_row rfl (.tmp 23) (.tmp 31) 25 rfl w2.heap.size 21 ii _ 4 Try.underlying25 HI.out.1 HI.out.2.1 HI.out.2.2.1 HI.out.2.2.2 rfl _ 0 [] rfl (World.ownsRow_nil _ _ _ _) B _ _ _ _ rfl HROW.out (by rw [← c32_take]; exact c32_one _) (by unfold maxLen; omega) (by omega) w2 (Below.refl _ _) (Nat.le_refl _) ?_; intro A2 c2 w3 ho3 hb3 hg3; simp only [Nat.zero_add, List.nil_append] at ho3)
  have K3 := hide (K.out.keep hb3)
  rw [← c32_take] at ho3
  have O3 := hide ho3
  rw [hsz2] at O3
  clear K ho3 hb3 hg3 HROW
  have s0 := K3.out.b5.cell (j := 0) rfl
  have s1 := K3.out.b5.cell (j := 1) rfl
  have sf := K3.out.b5.frozen 0
  obtain ⟨tb, toff, tu, htA, _, htu, tcell⟩ := (HR.out.rt.keep K3.out.bl hB).get (j := m) (by omega)
  rw [c32_at (by have := HLN.out.1; omega)] at htu
  obtain rfl := Option.some.inj htu
  have hcap := HR.out.rt.cap
  have HT := hide (show topV s.st = gd s.st (m) by unfold topV; rw [HLN.out.1]; rfl)
  have HTA := hide htA
  rw [htA] at s1 ⊢
  clear htu htA
  go_upto_region 9 with (fail)
  replace K3 := hide (K3.out.set 0 (.int .i64 ((s.p : Int) + 1)))
  have lq := fun k hk => (O3.out.lt k hk).1
  replace O3 := hide (own_other (q := q + 1) O3.out (fun k hk => by have := lq k hk; omega) 0 (.int .i64 ((s.p : Int) + 1)))
  clear lq s0 s1 sf tcell hcap
  generalize w3.setCell ⟨q + 1, 0, none⟩ (.int .i64 ((s.p : Int) + 1)) = w4 at K3 O3 ⊢
  have i0 := K3.out.b4.cell (j := 0) rfl
  have i1 := K3.out.b4.cell (j := 1) rfl
  have sx := K3.out.b5.cell (j := 4) rfl
  go_wp2_with fail
  refine (with_any B uA un uc k (gd s.st m) s.ou w4 (HR.out.ru.keep K3.out.bl hB) hkl (by omega)).mono ?_
  rintro e w5 ⟨A5, c5, rfl, o5, hb5⟩
  rw [List.length_set] at o5 ⊢
  have l4 := K3.out.b8.lt
  have K4 := hide (K3.out.keep hb5)
  have sx := K4.out.b5.cell (j := 4) rfl
  have sf := K4.out.b5.frozen 4
  have K5 := hide (K4.out.set 4 (.slice A5 s.ou.length c5))
  have O4 := own_below O3.out hb5 (Nat.le_refl _)
  have O5 := hide (own_other (q := q + 1) O4 (fun k hk => by have := (O4.lt k hk).1; omega) 4 (.slice A5 s.ou.length c5))
  have o6 := own_lower (base' := q + 1 + 1 + 1) (by omega) o5
  have O6 := hide (own_other (q := q + 1) o6 (fun k hk => by have := (o6.lt k hk).1; omega) 4 (.slice A5 s.ou.length c5))
  clear K3 O3 o5 o6 O4 hb5
  go_upto_region 35 with (fail)
  clear sx sf K4
  generalize w5.setCell ⟨q + 1, 4, none⟩ (.slice A5 s.ou.length c5) = w6 at K5 O5 O6 ⊢
  have s0 := K5.out.b5.cell (j := 0) rfl
  have s1 := K5.out.b5.cell (j := 1) rfl
  have s2 := K5.out.b5.cell (j := 2) rfl
  have s3 := K5.out.b5.cell (j := 3) rfl
  have s4 := K5.out.b5.cell (j := 4) rfl
  have sf := K5.out.b5.frozen 1
  have r0 := K5.out.b8.cell (j := 0) rfl
  have r1 := K5.out.b8.cell (j := 1) rfl
  have r2 := K5.out.b8.cell (j := 2) rfl
  have r3 := K5.out.b8.cell (j := 3) rfl
  have r4 := K5.out.b8.cell (j := 4) rfl
  have rf0 := K5.out.b8.frozen 0
  have rf1 := K5.out.b8.frozen 1
  have rf2 := K5.out.b8.frozen 2
  have rf3 := K5.out.b8.frozen 3
  have rf4 := K5.out.b8.frozen 4
  go_wp2
  exact state_end (by simp) rfl rfl K5.out (.inr O5.out) (.inl ⟨B, by have := HQ.out; omega, HR.out.rs.keep K5.out.bl hB⟩) (.inl ⟨B, by have := HQ.out; omega, HR.out.rc.keep K5.out.bl hB⟩) (.inr O6.out)
theorem rs10_E (k : Nat) (hk : k ≤ 65535) (tA sA cA uA oA iA : Option Addr) (tc sn sc cn cc un uc on oc ik ic B : Nat) (s : VS) (old ins : List Int) (w : World) (hB : B ≤ w.heap.size) (hp : s.p ≤ 600) (hR : RS w B tA sA cA uA oA iA 0 tc sn sc cn cc un uc on oc ik ic s old ins) (hrg : rngL s.st)  :
    Calls Try.prog 27 #[.agg #[.int .i64 10, .int .i32 (k : Int)], .agg #[.int .i64 (s.p : Int), .slice tA 0 tc, .slice sA sn sc, .slice cA cn cc, .slice uA un uc], .slice oA on oc, .slice iA ik ic] w (Stated ⟨s.p + 1 + k, List.take 0 s.st, s.sl, s.ce, s.ou⟩ w) := by
  obtain ⟨ii, hi, h1⟩ := Option.map_eq_some_iff.1 infoN
  simp at h1
  obtain ⟨hz0, hz1, hz2⟩ := h1
  have HI := hide (And.intro hi (And.intro hz0 (And.intro hz1 hz2)))
  clear hi hz0 hz1 hz2
  have hst := c32_row hR.rt
  have hsl := c32_row hR.rs
  have hce := c32_row hR.rc
  have hou := c32_row hR.ru
  have hol := c32_row hR.ro
  have hil := c32_row hR.ri
  have HLN := hide (And.intro hst (And.intro hsl (And.intro hce (And.intro hou (And.intro hol hil)))))
  clear hst hsl hce hou hol hil
  have HR := hide hR
  have HG := hide hrg
  clear hR hrg
  go_enter Try.func27, Try.ntmps27
  go_wp2_with fail
  have K := hide (SB.start w [.int .i64 10, .int .i32 (k : Int)] [.int .i64 (s.p : Int), .slice tA 0 tc, .slice sA sn sc, .slice cA cn cc, .slice uA un uc])
  have hsz : (((w.alloc (.cells #[.int .i64 10, .int .i32 (k : Int)] 52)).alloc (.cells #[.int .i64 (s.p : Int), .slice tA 0 tc, .slice sA sn sc, .slice cA cn cc, .slice uA un uc] 66)).alloc (.cells #[.int .i64 0, .slice none 0 0, .slice none 0 0, .slice none 0 0, .slice none 0 0] 66)).heap.size = w.heap.size + 1 + 1 + 1 := by simp
  generalize ((w.alloc (.cells #[.int .i64 10, .int .i32 (k : Int)] 52)).alloc (.cells #[.int .i64 (s.p : Int), .slice tA 0 tc, .slice sA sn sc, .slice cA cn cc, .slice uA un uc] 66)).alloc (.cells #[.int .i64 0, .slice none 0 0, .slice none 0 0, .slice none 0 0, .slice none 0 0] 66) = w1 at K hsz ⊢
  obtain ⟨q, hq⟩ : ∃ q, w.heap.size = q := ⟨_, rfl⟩
  rw [hq] at K hsz ⊢
  have HQ := hide hq
  clear hq
  refine wp_region_still_tail 9 (by kernel_rfl) (by kernel_rfl) ?_
  simp only [List.take_succ_cons, List.take_zero, List.drop_succ_cons, List.drop_zero]
  rw [show ({ heap := w1.heap, tape := w1.tape, drawn := w1.drawn + 1, os := w1.os, output := w1.output } : World) = w1.drew from rfl]
  replace K := hide (K.out.keep (Below.refl _ w1).drew)
  have hsz2 : w1.drew.heap.size = q + 1 + 1 + 1 := hsz
  clear hsz
  generalize w1.drew = w2 at K hsz2 ⊢
  have i0 := K.out.b4.cell (j := 0) rfl
  have s1 := K.out.b5.cell (j := 1) rfl
  have hrow := HR.out.rt.keep K.out.bl hB
  obtain ⟨hA, hc, hsl, hrow2⟩ := hrow.headed Try.underlying25 sizeN (hi := 0) (by omega) (0) (by omega)
  have hw1 : IntKind.i64.wrap (0) = 0 := IntWalk.i64_in _ (by omega)
  clear hrow
  have HROW := hide hrow2
  clear hrow2
  repeat still_step
  still_call (calm_tak 10 0 w2 rfl)
  repeat still_step
  refine wpStill_nil ?_
  clear hw1 i0 s1 hsl
  go_upto_region 5 with (at_builtin; refine wpList_append_row rfl (.tmp 23) (.tmp 31) 25 rfl w2.heap.size 21 ii _ 4 Try.underlying25 HI.out.1 HI.out.2.1 HI.out.2.2.1 HI.out.2.2.2 rfl _ 0 [] rfl (World.ownsRow_nil _ _ _ _) B _ _ _ _ rfl HROW.out (by rw [← c32_take]; exact c32_one _) (by unfold maxLen; omega) (by omega) w2 (Below.refl _ _) (Nat.le_refl _) ?_; intro A2 c2 w3 ho3 hb3 hg3; simp only [Nat.zero_add, List.nil_append] at ho3)
  have K3 := hide (K.out.keep hb3)
  rw [← c32_take] at ho3
  have O3 := hide ho3
  rw [hsz2] at O3
  clear K ho3 hb3 hg3 HROW
  have s0 := K3.out.b5.cell (j := 0) rfl
  have s1 := K3.out.b5.cell (j := 1) rfl
  have sf := K3.out.b5.frozen 0
  have HT := hide (show topV s.st = 0 by unfold topV; exact gd_out (by have := HLN.out.1; omega))
  go_upto_region 9 with (fail)
  replace K3 := hide (K3.out.set 0 (.int .i64 ((s.p : Int) + 1)))
  have lq := fun k hk => (O3.out.lt k hk).1
  replace O3 := hide (own_other (q := q + 1) O3.out (fun k hk => by have := lq k hk; omega) 0 (.int .i64 ((s.p : Int) + 1)))
  clear lq s0 s1 sf
  generalize w3.setCell ⟨q + 1, 0, none⟩ (.int .i64 ((s.p : Int) + 1)) = w4 at K3 O3 ⊢
  have i0 := K3.out.b4.cell (j := 0) rfl
  have i1 := K3.out.b4.cell (j := 1) rfl
  have sx := K3.out.b5.cell (j := 0) rfl
  have sf := K3.out.b5.frozen 0
  go_upto_region 35 with (fail)
  clear sx sf
  have lq := fun j hj => (O3.out.lt j hj).1
  have K5 := hide (K3.out.set 0 (.int .i64 ((s.p : Int) + 1 + (k : Int))))
  have O5 := hide (own_other (q := q + 1) O3.out (fun j hj => by have := lq j hj; omega) 0 (.int .i64 ((s.p : Int) + 1 + (k : Int))))
  clear K3 O3 lq
  generalize w4.setCell ⟨q + 1, 0, none⟩ (.int .i64 ((s.p : Int) + 1 + (k : Int))) = w5 at K5 O5 ⊢
  have s0 := K5.out.b5.cell (j := 0) rfl
  have s1 := K5.out.b5.cell (j := 1) rfl
  have s2 := K5.out.b5.cell (j := 2) rfl
  have s3 := K5.out.b5.cell (j := 3) rfl
  have s4 := K5.out.b5.cell (j := 4) rfl
  have sf := K5.out.b5.frozen 1
  have r0 := K5.out.b8.cell (j := 0) rfl
  have r1 := K5.out.b8.cell (j := 1) rfl
  have r2 := K5.out.b8.cell (j := 2) rfl
  have r3 := K5.out.b8.cell (j := 3) rfl
  have r4 := K5.out.b8.cell (j := 4) rfl
  have rf0 := K5.out.b8.frozen 0
  have rf1 := K5.out.b8.frozen 1
  have rf2 := K5.out.b8.frozen 2
  have rf3 := K5.out.b8.frozen 3
  have rf4 := K5.out.b8.frozen 4
  go_wp2
  exact state_end (by simp) rfl rfl K5.out (.inr O5.out) (.inl ⟨B, by have := HQ.out; omega, HR.out.rs.keep K5.out.bl hB⟩) (.inl ⟨B, by have := HQ.out; omega, HR.out.rc.keep K5.out.bl hB⟩) (.inl ⟨B, by have := HQ.out; omega, HR.out.ru.keep K5.out.bl hB⟩)
theorem rs10_P (m : Nat) (hm16 : m ≤ 15) (k : Nat) (hk : k ≤ 65535) (tA sA cA uA oA iA : Option Addr) (tc sn sc cn cc un uc on oc ik ic B : Nat) (s : VS) (old ins : List Int) (w : World) (hB : B ≤ w.heap.size) (hp : s.p ≤ 600) (hR : RS w B tA sA cA uA oA iA (m + 1) tc sn sc cn cc un uc on oc ik ic s old ins) (hrg : rngL s.st)  :
    Calls Try.prog 27 #[.agg #[.int .i64 10, .int .i32 (k : Int)], .agg #[.int .i64 (s.p : Int), .slice tA (m + 1) tc, .slice sA sn sc, .slice cA cn cc, .slice uA un uc], .slice oA on oc, .slice iA ik ic] w (Stated ⟨s.p + 1 + k, List.take (m + 1) s.st, s.sl, s.ce, s.ou⟩ w) := by
  obtain ⟨ii, hi, h1⟩ := Option.map_eq_some_iff.1 infoN
  simp at h1
  obtain ⟨hz0, hz1, hz2⟩ := h1
  have HI := hide (And.intro hi (And.intro hz0 (And.intro hz1 hz2)))
  clear hi hz0 hz1 hz2
  have hst := c32_row hR.rt
  have hsl := c32_row hR.rs
  have hce := c32_row hR.rc
  have hou := c32_row hR.ru
  have hol := c32_row hR.ro
  have hil := c32_row hR.ri
  have HLN := hide (And.intro hst (And.intro hsl (And.intro hce (And.intro hou (And.intro hol hil)))))
  clear hst hsl hce hou hol hil
  have HR := hide hR
  have HG := hide hrg
  clear hR hrg
  go_enter Try.func27, Try.ntmps27
  go_wp2_with fail
  have K := hide (SB.start w [.int .i64 10, .int .i32 (k : Int)] [.int .i64 (s.p : Int), .slice tA (m + 1) tc, .slice sA sn sc, .slice cA cn cc, .slice uA un uc])
  have hsz : (((w.alloc (.cells #[.int .i64 10, .int .i32 (k : Int)] 52)).alloc (.cells #[.int .i64 (s.p : Int), .slice tA (m + 1) tc, .slice sA sn sc, .slice cA cn cc, .slice uA un uc] 66)).alloc (.cells #[.int .i64 0, .slice none 0 0, .slice none 0 0, .slice none 0 0, .slice none 0 0] 66)).heap.size = w.heap.size + 1 + 1 + 1 := by simp
  generalize ((w.alloc (.cells #[.int .i64 10, .int .i32 (k : Int)] 52)).alloc (.cells #[.int .i64 (s.p : Int), .slice tA (m + 1) tc, .slice sA sn sc, .slice cA cn cc, .slice uA un uc] 66)).alloc (.cells #[.int .i64 0, .slice none 0 0, .slice none 0 0, .slice none 0 0, .slice none 0 0] 66) = w1 at K hsz ⊢
  obtain ⟨q, hq⟩ : ∃ q, w.heap.size = q := ⟨_, rfl⟩
  rw [hq] at K hsz ⊢
  have HQ := hide hq
  clear hq
  refine wp_region_still_tail 9 (by kernel_rfl) (by kernel_rfl) ?_
  simp only [List.take_succ_cons, List.take_zero, List.drop_succ_cons, List.drop_zero]
  rw [show ({ heap := w1.heap, tape := w1.tape, drawn := w1.drawn + 1, os := w1.os, output := w1.output } : World) = w1.drew from rfl]
  replace K := hide (K.out.keep (Below.refl _ w1).drew)
  have hsz2 : w1.drew.heap.size = q + 1 + 1 + 1 := hsz
  clear hsz
  generalize w1.drew = w2 at K hsz2 ⊢
  have i0 := K.out.b4.cell (j := 0) rfl
  have s1 := K.out.b5.cell (j := 1) rfl
  have hrow := HR.out.rt.keep K.out.bl hB
  obtain ⟨hA, hc, hsl, hrow2⟩ := hrow.headed Try.underlying25 sizeN (hi := (m + 1)) (by omega) ((m : Int) + 1) (by omega)
  have hw1 : IntKind.i64.wrap ((m : Int) + 1) = (m : Int) + 1 := IntWalk.i64_in _ (by omega)
  clear hrow
  have HROW := hide hrow2
  clear hrow2
  repeat still_step
  still_call (calm_tak 10 0 w2 rfl)
  repeat still_step
  refine wpStill_nil ?_
  clear hw1 i0 s1 hsl
  go_upto_region 5 with (at_builtin; refine wpList_append_row rfl (.tmp 23) (.tmp 31) 25 rfl w2.heap.size 21 ii _ 4 Try.underlying25 HI.out.1 HI.out.2.1 HI.out.2.2.1 HI.out.2.2.2 rfl _ 0 [] rfl (World.ownsRow_nil _ _ _ _) B _ _ _ _ rfl HROW.out (by rw [← c32_take]; exact c32_one _) (by unfold maxLen; omega) (by omega) w2 (Below.refl _ _) (Nat.le_refl _) ?_; intro A2 c2 w3 ho3 hb3 hg3; simp only [Nat.zero_add, List.nil_append] at ho3)
  have K3 := hide (K.out.keep hb3)
  rw [← c32_take] at ho3
  have O3 := hide ho3
  rw [hsz2] at O3
  clear K ho3 hb3 hg3 HROW
  have s0 := K3.out.b5.cell (j := 0) rfl
  have s1 := K3.out.b5.cell (j := 1) rfl
  have sf := K3.out.b5.frozen 0
  obtain ⟨tb, toff, tu, htA, _, htu, tcell⟩ := (HR.out.rt.keep K3.out.bl hB).get (j := m) (by omega)
  rw [c32_at (by have := HLN.out.1; omega)] at htu
  obtain rfl := Option.some.inj htu
  have hcap := HR.out.rt.cap
  have HT := hide (show topV s.st = gd s.st (m) by unfold topV; rw [HLN.out.1]; rfl)
  have HTA := hide htA
  rw [htA] at s1 ⊢
  clear htu htA
  go_upto_region 9 with (fail)
  replace K3 := hide (K3.out.set 0 (.int .i64 ((s.p : Int) + 1)))
  have lq := fun k hk => (O3.out.lt k hk).1
  replace O3 := hide (own_other (q := q + 1) O3.out (fun k hk => by have := lq k hk; omega) 0 (.int .i64 ((s.p : Int) + 1)))
  clear lq s0 s1 sf tcell hcap
  generalize w3.setCell ⟨q + 1, 0, none⟩ (.int .i64 ((s.p : Int) + 1)) = w4 at K3 O3 ⊢
  have i0 := K3.out.b4.cell (j := 0) rfl
  have i1 := K3.out.b4.cell (j := 1) rfl
  have sx := K3.out.b5.cell (j := 0) rfl
  have sf := K3.out.b5.frozen 0
  go_upto_region 35 with (fail)
  clear sx sf
  have lq := fun j hj => (O3.out.lt j hj).1
  have K5 := hide (K3.out.set 0 (.int .i64 ((s.p : Int) + 1 + (k : Int))))
  have O5 := hide (own_other (q := q + 1) O3.out (fun j hj => by have := lq j hj; omega) 0 (.int .i64 ((s.p : Int) + 1 + (k : Int))))
  clear K3 O3 lq
  generalize w4.setCell ⟨q + 1, 0, none⟩ (.int .i64 ((s.p : Int) + 1 + (k : Int))) = w5 at K5 O5 ⊢
  have s0 := K5.out.b5.cell (j := 0) rfl
  have s1 := K5.out.b5.cell (j := 1) rfl
  have s2 := K5.out.b5.cell (j := 2) rfl
  have s3 := K5.out.b5.cell (j := 3) rfl
  have s4 := K5.out.b5.cell (j := 4) rfl
  have sf := K5.out.b5.frozen 1
  have r0 := K5.out.b8.cell (j := 0) rfl
  have r1 := K5.out.b8.cell (j := 1) rfl
  have r2 := K5.out.b8.cell (j := 2) rfl
  have r3 := K5.out.b8.cell (j := 3) rfl
  have r4 := K5.out.b8.cell (j := 4) rfl
  have rf0 := K5.out.b8.frozen 0
  have rf1 := K5.out.b8.frozen 1
  have rf2 := K5.out.b8.frozen 2
  have rf3 := K5.out.b8.frozen 3
  have rf4 := K5.out.b8.frozen 4
  go_wp2
  exact state_end (by simp) rfl rfl K5.out (.inr O5.out) (.inl ⟨B, by have := HQ.out; omega, HR.out.rs.keep K5.out.bl hB⟩) (.inl ⟨B, by have := HQ.out; omega, HR.out.rc.keep K5.out.bl hB⟩) (.inl ⟨B, by have := HQ.out; omega, HR.out.ru.keep K5.out.bl hB⟩)
theorem rs11_z (m : Nat) (hm16 : m ≤ 15) (k : Nat) (hk : k ≤ 65535) (tA sA cA uA oA iA : Option Addr) (tc sn sc cn cc un uc on oc ik ic B : Nat) (s : VS) (old ins : List Int) (w : World) (hB : B ≤ w.heap.size) (hp : s.p ≤ 600) (hR : RS w B tA sA cA uA oA iA (m + 1) tc sn sc cn cc un uc on oc ik ic s old ins) (hrg : rngL s.st) (hv : (gd s.st m == 0) = true) :
    Calls Try.prog 27 #[.agg #[.int .i64 11, .int .i32 (k : Int)], .agg #[.int .i64 (s.p : Int), .slice tA (m + 1) tc, .slice sA sn sc, .slice cA cn cc, .slice uA un uc], .slice oA on oc, .slice iA ik ic] w (Stated ⟨s.p + 1 + k, List.take m s.st, s.sl, s.ce, s.ou⟩ w) := by
  obtain ⟨ii, hi, h1⟩ := Option.map_eq_some_iff.1 infoN
  simp at h1
  obtain ⟨hz0, hz1, hz2⟩ := h1
  have HI := hide (And.intro hi (And.intro hz0 (And.intro hz1 hz2)))
  clear hi hz0 hz1 hz2
  have hst := c32_row hR.rt
  have hsl := c32_row hR.rs
  have hce := c32_row hR.rc
  have hou := c32_row hR.ru
  have hol := c32_row hR.ro
  have hil := c32_row hR.ri
  have HLN := hide (And.intro hst (And.intro hsl (And.intro hce (And.intro hou (And.intro hol hil)))))
  clear hst hsl hce hou hol hil
  have HR := hide hR
  have HG := hide hrg
  clear hR hrg
  go_enter Try.func27, Try.ntmps27
  go_wp2_with fail
  have K := hide (SB.start w [.int .i64 11, .int .i32 (k : Int)] [.int .i64 (s.p : Int), .slice tA (m + 1) tc, .slice sA sn sc, .slice cA cn cc, .slice uA un uc])
  have hsz : (((w.alloc (.cells #[.int .i64 11, .int .i32 (k : Int)] 52)).alloc (.cells #[.int .i64 (s.p : Int), .slice tA (m + 1) tc, .slice sA sn sc, .slice cA cn cc, .slice uA un uc] 66)).alloc (.cells #[.int .i64 0, .slice none 0 0, .slice none 0 0, .slice none 0 0, .slice none 0 0] 66)).heap.size = w.heap.size + 1 + 1 + 1 := by simp
  generalize ((w.alloc (.cells #[.int .i64 11, .int .i32 (k : Int)] 52)).alloc (.cells #[.int .i64 (s.p : Int), .slice tA (m + 1) tc, .slice sA sn sc, .slice cA cn cc, .slice uA un uc] 66)).alloc (.cells #[.int .i64 0, .slice none 0 0, .slice none 0 0, .slice none 0 0, .slice none 0 0] 66) = w1 at K hsz ⊢
  obtain ⟨q, hq⟩ : ∃ q, w.heap.size = q := ⟨_, rfl⟩
  rw [hq] at K hsz ⊢
  have HQ := hide hq
  clear hq
  refine wp_region_still_tail 9 (by kernel_rfl) (by kernel_rfl) ?_
  simp only [List.take_succ_cons, List.take_zero, List.drop_succ_cons, List.drop_zero]
  rw [show ({ heap := w1.heap, tape := w1.tape, drawn := w1.drawn + 1, os := w1.os, output := w1.output } : World) = w1.drew from rfl]
  replace K := hide (K.out.keep (Below.refl _ w1).drew)
  have hsz2 : w1.drew.heap.size = q + 1 + 1 + 1 := hsz
  clear hsz
  generalize w1.drew = w2 at K hsz2 ⊢
  have i0 := K.out.b4.cell (j := 0) rfl
  have s1 := K.out.b5.cell (j := 1) rfl
  have hrow := HR.out.rt.keep K.out.bl hB
  obtain ⟨hA, hc, hsl, hrow2⟩ := hrow.headed Try.underlying25 sizeN (hi := m) (by omega) ((m : Int)) (by omega)
  have hw1 : IntKind.i64.wrap ((m : Int)) = (m : Int) := IntWalk.i64_in _ (by omega)
  clear hrow
  have HROW := hide hrow2
  clear hrow2
  repeat still_step
  still_call (calm_tak 11 1 w2 rfl)
  repeat still_step
  refine wpStill_nil ?_
  clear hw1 i0 s1 hsl
  go_upto_region 5 with (at_builtin; refine wpList_append_row rfl (.tmp 23) (.tmp 31) 25 rfl w2.heap.size 21 ii _ 4 Try.underlying25 HI.out.1 HI.out.2.1 HI.out.2.2.1 HI.out.2.2.2 rfl _ 0 [] rfl (World.ownsRow_nil _ _ _ _) B _ _ _ _ rfl HROW.out (by rw [← c32_take]; exact c32_one _) (by unfold maxLen; omega) (by omega) w2 (Below.refl _ _) (Nat.le_refl _) ?_; intro A2 c2 w3 ho3 hb3 hg3; simp only [Nat.zero_add, List.nil_append] at ho3)
  have K3 := hide (K.out.keep hb3)
  rw [← c32_take] at ho3
  have O3 := hide ho3
  rw [hsz2] at O3
  clear K ho3 hb3 hg3 HROW
  have s0 := K3.out.b5.cell (j := 0) rfl
  have s1 := K3.out.b5.cell (j := 1) rfl
  have sf := K3.out.b5.frozen 0
  obtain ⟨tb, toff, tu, htA, _, htu, tcell⟩ := (HR.out.rt.keep K3.out.bl hB).get (j := m) (by omega)
  rw [c32_at (by have := HLN.out.1; omega)] at htu
  obtain rfl := Option.some.inj htu
  have hcap := HR.out.rt.cap
  have HT := hide (show topV s.st = gd s.st (m) by unfold topV; rw [HLN.out.1]; rfl)
  have HTA := hide htA
  rw [htA] at s1 ⊢
  clear htu htA
  go_upto_region 9 with (fail)
  replace K3 := hide (K3.out.set 0 (.int .i64 ((s.p : Int) + 1)))
  have lq := fun k hk => (O3.out.lt k hk).1
  replace O3 := hide (own_other (q := q + 1) O3.out (fun k hk => by have := lq k hk; omega) 0 (.int .i64 ((s.p : Int) + 1)))
  clear lq s0 s1 sf tcell hcap
  generalize w3.setCell ⟨q + 1, 0, none⟩ (.int .i64 ((s.p : Int) + 1)) = w4 at K3 O3 ⊢
  have i0 := K3.out.b4.cell (j := 0) rfl
  have i1 := K3.out.b4.cell (j := 1) rfl
  have sx := K3.out.b5.cell (j := 0) rfl
  have sf := K3.out.b5.frozen 0
  go_upto_region 35 with (fail)
  clear sx sf
  have lq := fun j hj => (O3.out.lt j hj).1
  have K5 := hide (K3.out.set 0 (.int .i64 ((s.p : Int) + 1 + (k : Int))))
  have O5 := hide (own_other (q := q + 1) O3.out (fun j hj => by have := lq j hj; omega) 0 (.int .i64 ((s.p : Int) + 1 + (k : Int))))
  clear K3 O3 lq
  generalize w4.setCell ⟨q + 1, 0, none⟩ (.int .i64 ((s.p : Int) + 1 + (k : Int))) = w5 at K5 O5 ⊢
  have s0 := K5.out.b5.cell (j := 0) rfl
  have s1 := K5.out.b5.cell (j := 1) rfl
  have s2 := K5.out.b5.cell (j := 2) rfl
  have s3 := K5.out.b5.cell (j := 3) rfl
  have s4 := K5.out.b5.cell (j := 4) rfl
  have sf := K5.out.b5.frozen 1
  have r0 := K5.out.b8.cell (j := 0) rfl
  have r1 := K5.out.b8.cell (j := 1) rfl
  have r2 := K5.out.b8.cell (j := 2) rfl
  have r3 := K5.out.b8.cell (j := 3) rfl
  have r4 := K5.out.b8.cell (j := 4) rfl
  have rf0 := K5.out.b8.frozen 0
  have rf1 := K5.out.b8.frozen 1
  have rf2 := K5.out.b8.frozen 2
  have rf3 := K5.out.b8.frozen 3
  have rf4 := K5.out.b8.frozen 4
  go_wp2
  exact state_end (by simp) rfl rfl K5.out (.inr O5.out) (.inl ⟨B, by have := HQ.out; omega, HR.out.rs.keep K5.out.bl hB⟩) (.inl ⟨B, by have := HQ.out; omega, HR.out.rc.keep K5.out.bl hB⟩) (.inl ⟨B, by have := HQ.out; omega, HR.out.ru.keep K5.out.bl hB⟩)
theorem rs11_n (m : Nat) (hm16 : m ≤ 15) (k : Nat) (hk : k ≤ 65535) (tA sA cA uA oA iA : Option Addr) (tc sn sc cn cc un uc on oc ik ic B : Nat) (s : VS) (old ins : List Int) (w : World) (hB : B ≤ w.heap.size) (hp : s.p ≤ 600) (hR : RS w B tA sA cA uA oA iA (m + 1) tc sn sc cn cc un uc on oc ik ic s old ins) (hrg : rngL s.st) (hv : (gd s.st m == 0) = false) :
    Calls Try.prog 27 #[.agg #[.int .i64 11, .int .i32 (k : Int)], .agg #[.int .i64 (s.p : Int), .slice tA (m + 1) tc, .slice sA sn sc, .slice cA cn cc, .slice uA un uc], .slice oA on oc, .slice iA ik ic] w (Stated ⟨s.p + 1, List.take m s.st, s.sl, s.ce, s.ou⟩ w) := by
  obtain ⟨ii, hi, h1⟩ := Option.map_eq_some_iff.1 infoN
  simp at h1
  obtain ⟨hz0, hz1, hz2⟩ := h1
  have HI := hide (And.intro hi (And.intro hz0 (And.intro hz1 hz2)))
  clear hi hz0 hz1 hz2
  have hst := c32_row hR.rt
  have hsl := c32_row hR.rs
  have hce := c32_row hR.rc
  have hou := c32_row hR.ru
  have hol := c32_row hR.ro
  have hil := c32_row hR.ri
  have HLN := hide (And.intro hst (And.intro hsl (And.intro hce (And.intro hou (And.intro hol hil)))))
  clear hst hsl hce hou hol hil
  have HR := hide hR
  have HG := hide hrg
  clear hR hrg
  go_enter Try.func27, Try.ntmps27
  go_wp2_with fail
  have K := hide (SB.start w [.int .i64 11, .int .i32 (k : Int)] [.int .i64 (s.p : Int), .slice tA (m + 1) tc, .slice sA sn sc, .slice cA cn cc, .slice uA un uc])
  have hsz : (((w.alloc (.cells #[.int .i64 11, .int .i32 (k : Int)] 52)).alloc (.cells #[.int .i64 (s.p : Int), .slice tA (m + 1) tc, .slice sA sn sc, .slice cA cn cc, .slice uA un uc] 66)).alloc (.cells #[.int .i64 0, .slice none 0 0, .slice none 0 0, .slice none 0 0, .slice none 0 0] 66)).heap.size = w.heap.size + 1 + 1 + 1 := by simp
  generalize ((w.alloc (.cells #[.int .i64 11, .int .i32 (k : Int)] 52)).alloc (.cells #[.int .i64 (s.p : Int), .slice tA (m + 1) tc, .slice sA sn sc, .slice cA cn cc, .slice uA un uc] 66)).alloc (.cells #[.int .i64 0, .slice none 0 0, .slice none 0 0, .slice none 0 0, .slice none 0 0] 66) = w1 at K hsz ⊢
  obtain ⟨q, hq⟩ : ∃ q, w.heap.size = q := ⟨_, rfl⟩
  rw [hq] at K hsz ⊢
  have HQ := hide hq
  clear hq
  refine wp_region_still_tail 9 (by kernel_rfl) (by kernel_rfl) ?_
  simp only [List.take_succ_cons, List.take_zero, List.drop_succ_cons, List.drop_zero]
  rw [show ({ heap := w1.heap, tape := w1.tape, drawn := w1.drawn + 1, os := w1.os, output := w1.output } : World) = w1.drew from rfl]
  replace K := hide (K.out.keep (Below.refl _ w1).drew)
  have hsz2 : w1.drew.heap.size = q + 1 + 1 + 1 := hsz
  clear hsz
  generalize w1.drew = w2 at K hsz2 ⊢
  have i0 := K.out.b4.cell (j := 0) rfl
  have s1 := K.out.b5.cell (j := 1) rfl
  have hrow := HR.out.rt.keep K.out.bl hB
  obtain ⟨hA, hc, hsl, hrow2⟩ := hrow.headed Try.underlying25 sizeN (hi := m) (by omega) ((m : Int)) (by omega)
  have hw1 : IntKind.i64.wrap ((m : Int)) = (m : Int) := IntWalk.i64_in _ (by omega)
  clear hrow
  have HROW := hide hrow2
  clear hrow2
  repeat still_step
  still_call (calm_tak 11 1 w2 rfl)
  repeat still_step
  refine wpStill_nil ?_
  clear hw1 i0 s1 hsl
  go_upto_region 5 with (at_builtin; refine wpList_append_row rfl (.tmp 23) (.tmp 31) 25 rfl w2.heap.size 21 ii _ 4 Try.underlying25 HI.out.1 HI.out.2.1 HI.out.2.2.1 HI.out.2.2.2 rfl _ 0 [] rfl (World.ownsRow_nil _ _ _ _) B _ _ _ _ rfl HROW.out (by rw [← c32_take]; exact c32_one _) (by unfold maxLen; omega) (by omega) w2 (Below.refl _ _) (Nat.le_refl _) ?_; intro A2 c2 w3 ho3 hb3 hg3; simp only [Nat.zero_add, List.nil_append] at ho3)
  have K3 := hide (K.out.keep hb3)
  rw [← c32_take] at ho3
  have O3 := hide ho3
  rw [hsz2] at O3
  clear K ho3 hb3 hg3 HROW
  have s0 := K3.out.b5.cell (j := 0) rfl
  have s1 := K3.out.b5.cell (j := 1) rfl
  have sf := K3.out.b5.frozen 0
  obtain ⟨tb, toff, tu, htA, _, htu, tcell⟩ := (HR.out.rt.keep K3.out.bl hB).get (j := m) (by omega)
  rw [c32_at (by have := HLN.out.1; omega)] at htu
  obtain rfl := Option.some.inj htu
  have hcap := HR.out.rt.cap
  have HT := hide (show topV s.st = gd s.st (m) by unfold topV; rw [HLN.out.1]; rfl)
  have HTA := hide htA
  rw [htA] at s1 ⊢
  clear htu htA
  go_upto_region 9 with (fail)
  replace K3 := hide (K3.out.set 0 (.int .i64 ((s.p : Int) + 1)))
  have lq := fun k hk => (O3.out.lt k hk).1
  replace O3 := hide (own_other (q := q + 1) O3.out (fun k hk => by have := lq k hk; omega) 0 (.int .i64 ((s.p : Int) + 1)))
  clear lq s0 s1 sf tcell hcap
  generalize w3.setCell ⟨q + 1, 0, none⟩ (.int .i64 ((s.p : Int) + 1)) = w4 at K3 O3 ⊢
  have i0 := K3.out.b4.cell (j := 0) rfl
  have i1 := K3.out.b4.cell (j := 1) rfl
  go_upto_region 35 with (fail)
  have s0 := K3.out.b5.cell (j := 0) rfl
  have s1 := K3.out.b5.cell (j := 1) rfl
  have s2 := K3.out.b5.cell (j := 2) rfl
  have s3 := K3.out.b5.cell (j := 3) rfl
  have s4 := K3.out.b5.cell (j := 4) rfl
  have sf := K3.out.b5.frozen 1
  have r0 := K3.out.b8.cell (j := 0) rfl
  have r1 := K3.out.b8.cell (j := 1) rfl
  have r2 := K3.out.b8.cell (j := 2) rfl
  have r3 := K3.out.b8.cell (j := 3) rfl
  have r4 := K3.out.b8.cell (j := 4) rfl
  have rf0 := K3.out.b8.frozen 0
  have rf1 := K3.out.b8.frozen 1
  have rf2 := K3.out.b8.frozen 2
  have rf3 := K3.out.b8.frozen 3
  have rf4 := K3.out.b8.frozen 4
  go_wp2
  exact state_end (by simp) rfl rfl K3.out (.inr O3.out) (.inl ⟨B, by have := HQ.out; omega, HR.out.rs.keep K3.out.bl hB⟩) (.inl ⟨B, by have := HQ.out; omega, HR.out.rc.keep K3.out.bl hB⟩) (.inl ⟨B, by have := HQ.out; omega, HR.out.ru.keep K3.out.bl hB⟩)
end Go.Proofs.Ytmjelcoljmefeaa
