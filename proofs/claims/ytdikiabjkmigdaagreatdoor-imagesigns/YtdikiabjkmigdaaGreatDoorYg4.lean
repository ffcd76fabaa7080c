/-
  Contract of image.decoded.
-/
import Derived.Test.YtdikiabjkmigdaaGreatDoorYg3
import Derived.Test.YtdikiabjkmigdaaGreatDoorYg1
import Derived.IntWalk
namespace Go.Proofs.YtdikiabjkmigdaaGreatDoor
open Go.RowKit
set_option maxRecDepth 20000
set_option maxHeartbeats 2000000

/-- Bytes and a fault; what was there is as it was. -/
def GivesE (w : World) (r : List UInt8) (er : Int) (e : Ending) (w' : World) : Prop := ∃ A n c, e = .returned (.tuple #[.slice A n c, .int .i64 er]) ∧ Row w' w'.heap.size A n c (cs8 r) ∧ Below w.heap.size w w'
theorem GivesE.none_ {w w' : World} {r : List UInt8} {er k : Int} (hr : r = []) (he : er = k) (hb : Below w.heap.size w w') : GivesE w r er (.returned (.tuple #[.slice none 0 0, .int .i64 k])) w' := by
  subst hr; subst he; exact ⟨none, 0, 0, rfl, Row.none_, hb⟩
theorem Encode11_any (K : IV) (w : World) (hK : Held w w.heap.size K) :
    Calls Tryz.prog 11 #[.agg #[.int .u32 K.v, .int .u32 K.f, .int .i64 K.e, .int .i64 K.s, .int .i64 K.o, .int .i64 K.n, .int .i64 K.i, .int .i64 K.u, .slice K.fA K.fn K.fc, .slice K.sA K.sn K.sc, .slice K.mA K.mn K.mc, .int .i64 K.x, .int .i64 K.y]] w (GivesE w (enL K.m) (enE K.m)) := by
  obtain ⟨z, hz⟩ : ∃ z, chkM K.m = z := ⟨_, rfl⟩
  have HZ := hide hz
  by_cases h0 : z = 0
  · subst h0
    have hF := hide (chk_fit hK.wf hz)
    have hfs := chk_zero hz
    have hl : (encM K.m).length ≤ 100000 := by
      have a1 := encL_small hF.out.st
      have a2 := encL_small hF.out.mv
      have a3 := hF.out.fs
      rw [encM_len, fsB_len]; omega
    by_cases hb : 2016 < (encM K.m).length
    · have HE := hide (show enE K.m = 3 by unfold enE; rw [if_neg (by rw [hz]; decide), if_pos hb])
      have HL := hide (show enL K.m = [] by unfold enL; rw [HE.out]; rfl)
      obtain ⟨L, hL⟩ : ∃ L, encM K.m = L := ⟨_, rfl⟩
      rw [hL] at hb hl
      have HB := hide hL
      clear hL hz hfs
      go_enter Tryz.func11, Tryz.ntmps11
      go_wp2_with fail
      refine (Check11_any K 0 _ ((hK.keep (below_box w _) (Nat.le_refl _)).more (below_box w _).size) HZ).mono ?_
      rintro e w2 ⟨rfl, hb2⟩
      have bC := (Blk.new w 28 [.int .u32 K.v, .int .u32 K.f, .int .i64 K.e, .int .i64 K.s, .int .i64 K.o, .int .i64 K.n, .int .i64 K.i, .int .i64 K.u, .slice K.fA K.fn K.fc, .slice K.sA K.sn K.sc, .slice K.mA K.mn K.mc, .int .i64 K.x, .int .i64 K.y]).keep hb2 (by simp)
      have hb1 := box_then hb2
      obtain ⟨k0, k1, k2, k3, k4, k5, k6, k7, k8, k9, k10, k11, k12⟩ := cells13 bC
      go_wp2_with fail
      clear k0 k1 k2 k3 k4 k5 k6 k7 k8 k9 k10 k11 k12
      refine (encoding_any K w2 ((hK.keep hb1 (Nat.le_refl _)).more hb1.size) hF.out hF.out.fs).mono ?_
      rw [HB.out]
      rintro e w3 ⟨A3, n3, c3, rfl, r3, hb3⟩
      have hn3 := r3.len
      rw [cs8_len] at hn3
      have hbig : decide ((2016 : Int) < (n3 : Int)) = true := by simp; omega
      go_wp2
      go_ret2
      exact GivesE.none_ HL.out HE.out (hb1.trans (hb3.mono hb1.size))
    · have HE := hide (show enE K.m = 0 by unfold enE; rw [if_neg (by rw [hz]; decide), if_neg hb])
      have HL := hide (show enL K.m = encM K.m by unfold enL; rw [HE.out]; rfl)
      obtain ⟨L, hL⟩ : ∃ L, encM K.m = L := ⟨_, rfl⟩
      rw [hL] at hb hl
      have HB := hide hL
      clear hL hz hfs
      go_enter Tryz.func11, Tryz.ntmps11
      go_wp2_with fail
      refine (Check11_any K 0 _ ((hK.keep (below_box w _) (Nat.le_refl _)).more (below_box w _).size) HZ).mono ?_
      rintro e w2 ⟨rfl, hb2⟩
      have bC := (Blk.new w 28 [.int .u32 K.v, .int .u32 K.f, .int .i64 K.e, .int .i64 K.s, .int .i64 K.o, .int .i64 K.n, .int .i64 K.i, .int .i64 K.u, .slice K.fA K.fn K.fc, .slice K.sA K.sn K.sc, .slice K.mA K.mn K.mc, .int .i64 K.x, .int .i64 K.y]).keep hb2 (by simp)
      have hb1 := box_then hb2
      obtain ⟨k0, k1, k2, k3, k4, k5, k6, k7, k8, k9, k10, k11, k12⟩ := cells13 bC
      go_wp2_with fail
      clear k0 k1 k2 k3 k4 k5 k6 k7 k8 k9 k10 k11 k12
      refine (encoding_any K w2 ((hK.keep hb1 (Nat.le_refl _)).more hb1.size) hF.out hF.out.fs).mono ?_
      rw [HB.out]
      rintro e w3 ⟨A3, n3, c3, rfl, r3, hb3⟩
      have hn3 := r3.len
      rw [cs8_len] at hn3
      have hsm : decide ((2016 : Int) < (n3 : Int)) = false := by simp; omega
      go_wp2
      go_ret2
      exact ⟨A3, n3, c3, by rw [HE.out]; rfl, by rw [HL.out, HB.out]; exact r3, hb1.trans (hb3.mono hb1.size)⟩
  · have HE := hide (show enE K.m = z by unfold enE; rw [if_pos (by rw [hz]; exact h0)]; exact hz)
    have HL := hide (show enL K.m = [] by unfold enL; rw [if_neg (by rw [HE.out]; exact h0)])
    have g0 : (z == 0) = false := beq_eq_false_iff_ne.2 h0
    have g1 := bne_of g0
    clear hz h0
    go_enter Tryz.func11, Tryz.ntmps11
    go_wp2_with fail
    refine (Check11_any K z _ ((hK.keep (below_box w _) (Nat.le_refl _)).more (below_box w _).size) HZ).mono ?_
    rintro e w2 ⟨rfl, hb2⟩
    go_wp2
    go_ret2
    exact GivesE.none_ HL.out HE.out (box_then hb2)

end Go.Proofs.YtdikiabjkmigdaaGreatDoor
namespace Go.Proofs.YtdikiabjkmigdaaGreatDoor
open Go.RowKit
set_option maxRecDepth 20000
set_option maxHeartbeats 2000000

theorem beq_l (l m : List UInt8) (b : Bool) (h : decide (l = m) = b) : (l == m) = b := by
  subst h
  by_cases e : l = m
  · subst e; simp
  · rw [decide_eq_false e, beq_eq_false_iff_ne]; exact e
theorem Equal_any (B B' : Nat) (A A' : Option Addr) (n n' c c' : Nat) (l m : List UInt8) (w : World) (b : Bool) (hr : Row w B A n c (cs8 l)) (hr' : Row w B' A' n' c' (cs8 m)) (hb : decide (l = m) = b) :
    Calls Tryz.prog 73 #[.slice A n c, .slice A' n' c'] w fun e w' => e = .returned (.bool b) ∧ w = w' := by
  have hs1 := hr.str Tryz.underlying29 Tryz.underlying5 Tryz.underlying9
  have hs2 := hr'.str Tryz.underlying29 Tryz.underlying5 Tryz.underlying9
  have he := beq_l l m b hb
  clear hb
  go_enter Tryz.func73, Tryz.ntmps73
  go_wp2
  go_ret
  exact ⟨rfl, rfl⟩
theorem HasPrefix_mids (B B' : Nat) (A A' : Option Addr) (n c c' : Nat) (l : List UInt8) (w : World) (b : Bool) (hr : Row w B A n c (cs8 l)) (hr' : Row w B' A' 4 c' (cs8 mids)) (hb : decide (l.take 4 = mids) = b) :
    Calls Tryz.prog 42 #[.slice A n c, .slice A' 4 c'] w fun e w' => e = .returned (.bool b) ∧ w = w' := by
  have hn := hr.len
  rw [cs8_len] at hn
  by_cases h4 : 4 ≤ n
  · have hd : decide ((4 : Int) ≤ (n : Int)) = true := by simp; omega
    obtain ⟨A1, c1, hsl, hp⟩ := hr.headed Tryz.underlying29 size8 (hi := 4) h4 4 rfl
    rw [show (cs8 l).take 4 = cs8 (l.take 4) by simp [cs8]] at hp
    have HB := hide hb
    clear hb hn
    go_enter Tryz.func42, Tryz.ntmps42
    go_wp2_with (go_at_call 73; refine (Equal_any B B' A1 A' 4 4 c1 c' (l.take 4) mids _ b hp hr' HB.out).mono ?_; rintro e w' ⟨rfl, rfl⟩)
    go_ret
    exact ⟨rfl, rfl⟩
  · have hb2 : b = false := by
      rw [← hb]
      refine decide_eq_false fun hn2 => ?_
      have := congrArg List.length hn2
      rw [List.length_take, show mids.length = 4 from rfl] at this
      omega
    subst hb2
    have hd : decide ((4 : Int) ≤ (n : Int)) = false := by simp; omega
    clear hb
    go_enter Tryz.func42, Tryz.ntmps42
    go_wp2
    go_ret
    exact ⟨rfl, rfl⟩
/-- What the closures of decoded share: the bytes, the fault and the place, in a block each. -/
structure DS (B gb ge ga : Nat) (A : Option Addr) (n c : Nat) (l : List UInt8) (s : Int × Int) (w : World) : Prop where
  ne : gb ≠ ge ∧ gb ≠ ga ∧ ge ≠ ga
  b : Blk w gb 29 [.slice A n c]
  e : Blk w ge 32 [.int .i64 s.2]
  a : Blk w ga 3 [.int .i64 s.1]
  row : Row w B A n c (cs8 l)
  out : B ≤ gb ∧ B ≤ ge ∧ B ≤ ga
theorem DS.keep {B gb ge ga n c : Nat} {A : Option Addr} {l : List UInt8} {s : Int × Int} {w w' : World} (h : DS B gb ge ga A n c l s w) (hb : Below w.heap.size w w') : DS B gb ge ga A n c l s w' :=
  ⟨h.ne, h.b.keep hb h.b.lt, h.e.keep hb h.e.lt, h.a.keep hb h.a.lt, h.row.keep hb (by have := h.b.lt; have := h.out.1; omega), h.out⟩
theorem row_set {w : World} {B g j n c : Nat} {A : Option Addr} {xs : List Value} (h : Row w B A n c xs) (hg : B ≤ g) (v : Value) : Row (w.setCell ⟨g, j, none⟩ v) B A n c xs :=
  h.keep (below_set (Below.refl B w) hg v) (Nat.le_refl _)
theorem DS.setE {B gb ge ga n c : Nat} {A : Option Addr} {l : List UInt8} {a e e' : Int} {w : World} (h : DS B gb ge ga A n c l (a, e) w) : DS B gb ge ga A n c l (a, e') (w.setCell ⟨ge, 0, none⟩ (.int .i64 e')) :=
  ⟨h.ne, h.b.other h.ne.1 _ _, h.e.set 0 _, h.a.other h.ne.2.2.symm _ _, row_set h.row h.out.2.1 _, h.out⟩
theorem DS.setA {B gb ge ga n c : Nat} {A : Option Addr} {l : List UInt8} {a e a' : Int} {w : World} (h : DS B gb ge ga A n c l (a, e) w) : DS B gb ge ga A n c l (a', e) (w.setCell ⟨ga, 0, none⟩ (.int .i64 a')) :=
  ⟨h.ne, h.b.other h.ne.2.1 _ _, h.e.other h.ne.2.2 _ _, h.a.set 0 _, row_set h.row h.out.2.2 _, h.out⟩
theorem DS.other {B gb ge ga n c g j : Nat} {A : Option Addr} {l : List UInt8} {s : Int × Int} {w : World} (h : DS B gb ge ga A n c l s w) (hg : gb ≠ g ∧ ge ≠ g ∧ ga ≠ g) (hB : B ≤ g) (v : Value) : DS B gb ge ga A n c l s (w.setCell ⟨g, j, none⟩ v) :=
  ⟨h.ne, h.b.other hg.1 _ _, h.e.other hg.2.1 _ _, h.a.other hg.2.2 _ _, row_set h.row hB _, h.out⟩
/-- The closure that reads a number. -/
theorem getNum_any (B gb ge ga n c k : Nat) (ki : Int) (A : Option Addr) (l : List UInt8) (s : Int × Int) (w : World) (h : DS B gb ge ga A n c l s w) (hki : ki = (k : Int)) (hk : k ≤ 8) (hs : 0 ≤ s.1 ∧ s.1 ≤ 1000000) :
    Calls Tryz.prog 43 #[.int .i64 ki, .pointer (some ⟨ge, 0, none⟩), .pointer (some ⟨gb, 0, none⟩), .pointer (some ⟨ga, 0, none⟩)] w fun e w' => e = .returned (.int .u64 (val l s k : Int)) ∧ DS B gb ge ga A n c l (nxt l s k) w' ∧ Keeps [ge, ga] w w' := by
  subst hki
  obtain ⟨a, er⟩ := s
  simp only at hs
  have ce := h.e.cell (j := 0) rfl
  have ca := h.a.cell (j := 0) rfl
  have cb := h.b.cell (j := 0) rfl
  have fe := h.e.frozen 0
  have fa := h.a.frozen 0
  have le_ := h.e.lt
  have la := h.a.lt
  have hne := h.ne.2.2
  simp only at ce ca cb
  have HH := hide h
  clear h
  by_cases h0 : er = 0
  · subst h0
    have HV := hide (show val l (a, 0) k = getN l a (k : Int) from if_pos rfl)
    have HN := hide (show nxt l (a, 0) k = (a + k, getE l.length a (k : Int)) by unfold nxt; rw [if_pos rfl, if_pos rfl])
    obtain ⟨v, hv⟩ : ∃ v, getN l a (k : Int) = v := ⟨_, rfl⟩
    obtain ⟨z, hz⟩ : ∃ z, getE l.length a (k : Int) = z := ⟨_, rfl⟩
    have HG := hide hv
    have HZ := hide hz
    clear hv hz
    have wr : IntKind.i64.wrap (a + (k : Int)) = a + k := IntWalk.i64_in _ (by omega)
    go_enter Tryz.func43, Tryz.ntmps43
    go_wp2_with fail
    refine (Get_any B A n c l a (k : Int) w HH.out.row).mono ?_
    rw [HG.out, HZ.out]
    rintro e w' ⟨rfl, rfl⟩
    go_wp2
    go_ret
    refine ⟨by rw [HV.out, HG.out]; rfl, ?_, ?_⟩
    · rw [HN.out, HZ.out]
      exact (HH.out.setE (e' := z)).setA
    · exact ((Keeps.refl _ w).set (.inl (by simp)) _).set (.inl (by simp)) _
  · have HV := hide (show val l (a, er) k = 0 from if_neg h0)
    have HN := hide (show nxt l (a, er) k = (a, er) by unfold nxt; rw [if_neg h0, if_neg h0])
    have g0 : (er == 0) = false := beq_eq_false_iff_ne.2 h0
    clear h0
    go_enter Tryz.func43, Tryz.ntmps43
    go_wp2
    go_ret
    exact ⟨by rw [HV.out]; rfl, by rw [HN.out]; exact HH.out, Keeps.refl _ w⟩

end Go.Proofs.YtdikiabjkmigdaaGreatDoor
namespace Go.Proofs.YtdikiabjkmigdaaGreatDoor
open Go.RowKit
set_option maxRecDepth 20000
set_option maxHeartbeats 2000000

theorem int_no {z : Int} : ∀ u ∈ [Value.int .i64 z], ∀ v, u ≠ Value.int .u8 v := by
  intro u hu v; rw [List.mem_singleton] at hu; subst hu; intro hn; injection hn with h1 _; exact absurd h1 (by decide)
theorem size_set (w : World) (p : Addr) (v : Value) : (w.setCell p v).heap.size = w.heap.size := by simp [World.setCell]
/-- The closure that reads a run. -/
theorem getRun_any (B gb ge ga n c : Nat) (A : Option Addr) (l : List UInt8) (s : Int × Int) (w : World) (h : DS B gb ge ga A n c l s w) (hn : n ≤ 1099511627776) :
    Calls Tryz.prog 45 #[.pointer (some ⟨ge, 0, none⟩), .pointer (some ⟨gb, 0, none⟩), .pointer (some ⟨ga, 0, none⟩)] w fun e w' => (∃ A' n' c', e = .returned (.slice A' n' c') ∧ Row w' w'.heap.size A' n' c' (cs8 (valr l s))) ∧ DS B gb ge ga A n c l (nxr l s) w' ∧ Keeps [ge, ga] w w' := by
  obtain ⟨a, er⟩ := s
  have ce := h.e.cell (j := 0) rfl
  have ca := h.a.cell (j := 0) rfl
  have cb := h.b.cell (j := 0) rfl
  have le_ := h.e.lt
  have la := h.a.lt
  have hne := h.ne.2.2
  simp only at ce ca cb
  have HH := hide h
  clear h
  by_cases h0 : er = 0
  · subst h0
    have HV := hide (show valr l (a, 0) = grL l a from if_pos rfl)
    have HN := hide (show nxr l (a, 0) = (grT l a, grE l a) by unfold nxr; rw [if_pos rfl, if_pos rfl])
    obtain ⟨x, hx⟩ : ∃ x, grL l a = x := ⟨_, rfl⟩
    obtain ⟨t, ht⟩ : ∃ t, grT l a = t := ⟨_, rfl⟩
    obtain ⟨z, hz⟩ : ∃ z, grE l a = z := ⟨_, rfl⟩
    have HX := hide hx
    have HT := hide ht
    have HZ := hide hz
    clear hx ht hz
    go_enter Tryz.func45, Tryz.ntmps45
    go_wp2_with fail
    refine (GetRun_any B A n c l a w HH.out.row (by have := HH.out.out.1; have := HH.out.b.lt; omega) hn).mono ?_
    rw [HX.out, HT.out, HZ.out]
    rintro e w2 ⟨A2, n2, c2, rfl, o2, hb2⟩
    have h2 := HH.out.keep hb2
    have H2 := hide h2
    have R2 := hide (Row.of_own o2)
    have fe := h2.e.frozen 0
    have fa := h2.a.frozen 0
    have fce := h2.e.cell (j := 0) rfl
    have fca := h2.a.cell (j := 0) rfl
    have le2 := h2.e.lt
    have la2 := h2.a.lt
    simp only at fce fca
    clear h2 o2 ce ca cb
    go_wp2
    go_ret
    have k1 : DS B gb ge ga A n c l (t, 0) (w2.setCell ⟨ga, 0, none⟩ (.int .i64 t)) := H2.out.setA
    refine ⟨⟨A2, n2, c2, rfl, ?_⟩, ?_, ?_⟩
    · rw [HV.out, HX.out, size_set, size_set]
      exact Row.off8 k1.e int_no (Row.off8 H2.out.a int_no R2.out fun k hk => heap_setCell_other w2 ⟨ga, 0, none⟩ k _ hk) fun k hk => heap_setCell_other _ ⟨ge, 0, none⟩ k _ hk
    · rw [HN.out, HT.out, HZ.out]
      exact k1.setE
    · exact ((Keeps.of_below hb2).set (.inl (by simp)) _).set (.inl (by simp)) _
  · have HV := hide (show valr l (a, er) = [] from if_neg h0)
    have HN := hide (show nxr l (a, er) = (a, er) by unfold nxr; rw [if_neg h0, if_neg h0])
    have g0 : (er == 0) = false := beq_eq_false_iff_ne.2 h0
    clear h0
    go_enter Tryz.func45, Tryz.ntmps45
    go_wp2
    go_ret
    exact ⟨⟨none, 0, 0, rfl, by rw [HV.out]; exact Row.none_⟩, by rw [HN.out]; exact HH.out, Keeps.refl _ w⟩

end Go.Proofs.YtdikiabjkmigdaaGreatDoor
namespace Go.Proofs.YtdikiabjkmigdaaGreatDoor
open Go.RowKit
set_option maxRecDepth 20000
set_option maxHeartbeats 2000000

/-- All cells of an image are written. -/
theorem Blk.put13 {w : World} {g : Nat} {t : TypeId} {d0 d1 d2 d3 d4 d5 d6 d7 d8 d9 d10 d11 d12 : Value} (b : Blk w g t [d0, d1, d2, d3, d4, d5, d6, d7, d8, d9, d10, d11, d12]) (c0 c1 c2 c3 c4 c5 c6 c7 c8 c9 c10 c11 c12 : Value) : Blk (((((((((((((w.setCell ⟨g, 0, none⟩ c0).setCell ⟨g, 1, none⟩ c1).setCell ⟨g, 2, none⟩ c2).setCell ⟨g, 3, none⟩ c3).setCell ⟨g, 4, none⟩ c4).setCell ⟨g, 5, none⟩ c5).setCell ⟨g, 6, none⟩ c6).setCell ⟨g, 7, none⟩ c7).setCell ⟨g, 8, none⟩ c8).setCell ⟨g, 9, none⟩ c9).setCell ⟨g, 10, none⟩ c10).setCell ⟨g, 11, none⟩ c11).setCell ⟨g, 12, none⟩ c12) g t [c0, c1, c2, c3, c4, c5, c6, c7, c8, c9, c10, c11, c12] :=
  (((((((((((((b.set 0 c0).set 1 c1).set 2 c2).set 3 c3).set 4 c4).set 5 c5).set 6 c6).set 7 c7).set 8 c8).set 9 c9).set 10 c10).set 11 c11).set 12 c12)
theorem keeps13 (w : World) (g : Nat) (c0 c1 c2 c3 c4 c5 c6 c7 c8 c9 c10 c11 c12 : Value) : Keeps [g] w (((((((((((((w.setCell ⟨g, 0, none⟩ c0).setCell ⟨g, 1, none⟩ c1).setCell ⟨g, 2, none⟩ c2).setCell ⟨g, 3, none⟩ c3).setCell ⟨g, 4, none⟩ c4).setCell ⟨g, 5, none⟩ c5).setCell ⟨g, 6, none⟩ c6).setCell ⟨g, 7, none⟩ c7).setCell ⟨g, 8, none⟩ c8).setCell ⟨g, 9, none⟩ c9).setCell ⟨g, 10, none⟩ c10).setCell ⟨g, 11, none⟩ c11).setCell ⟨g, 12, none⟩ c12) :=
  ((((((((((((((Keeps.refl [g] w).set (.inl (by simp)) c0).set (.inl (by simp)) c1).set (.inl (by simp)) c2).set (.inl (by simp)) c3).set (.inl (by simp)) c4).set (.inl (by simp)) c5).set (.inl (by simp)) c6).set (.inl (by simp)) c7).set (.inl (by simp)) c8).set (.inl (by simp)) c9).set (.inl (by simp)) c10).set (.inl (by simp)) c11).set (.inl (by simp)) c12)
theorem img_two (w : World) (o : Obj) (cs : List Value) : Blk ((w.alloc o).alloc (.cells cs.toArray 28)) (w.heap.size + 1) 28 cs := Blk.at _ _ _ (by simp)
theorem own_offk {w : World} {base n q m : Nat} {e : TypeId} {v : Value} {xs : List Value} (h : w.ownsRow base e m v n xs) (hq : ∀ k, v.ownBlock = some k → k ≠ q) (j : Nat) (u : Value) : (w.setCell ⟨q, j, none⟩ u).ownsRow base e m v n xs := by
  refine ⟨h.1, ?_⟩
  rcases h.2 with h2 | ⟨g, cap, cur, rfl, hb, hg, r⟩
  · exact .inl h2
  · exact .inr ⟨g, cap, cur, rfl, hb, (heap_setCell_other w ⟨q, j, none⟩ g u (hq g rfl)).trans hg, r⟩
theorem own_lower {w : World} {base base' n m : Nat} {e : TypeId} {v : Value} {xs : List Value} (h : w.ownsRow base e m v n xs) (hb : base' ≤ base) : w.ownsRow base' e m v n xs := by
  refine ⟨h.1, ?_⟩
  rcases h.2 with h2 | ⟨g, cap, cur, hv, hb', r⟩
  · exact .inl h2
  · exact .inr ⟨g, cap, cur, hv, by omega, r⟩
theorem own13 {w : World} {base n g m : Nat} {e : TypeId} {v : Value} {xs : List Value} (h : w.ownsRow base e m v n xs) (hq : ∀ k, v.ownBlock = some k → k ≠ g) (c0 c1 c2 c3 c4 c5 c6 c7 c8 c9 c10 c11 c12 : Value) : ((((((((((((((w.setCell ⟨g, 0, none⟩ c0).setCell ⟨g, 1, none⟩ c1).setCell ⟨g, 2, none⟩ c2).setCell ⟨g, 3, none⟩ c3).setCell ⟨g, 4, none⟩ c4).setCell ⟨g, 5, none⟩ c5).setCell ⟨g, 6, none⟩ c6).setCell ⟨g, 7, none⟩ c7).setCell ⟨g, 8, none⟩ c8).setCell ⟨g, 9, none⟩ c9).setCell ⟨g, 10, none⟩ c10).setCell ⟨g, 11, none⟩ c11).setCell ⟨g, 12, none⟩ c12)).ownsRow base e m v n xs :=
  (own_offk (own_offk (own_offk (own_offk (own_offk (own_offk (own_offk (own_offk (own_offk (own_offk (own_offk (own_offk (own_offk h hq 0 c0) hq 1 c1) hq 2 c2) hq 3 c3) hq 4 c4) hq 5 c5) hq 6 c6) hq 7 c7) hq 8 c8) hq 9 c9) hq 10 c10) hq 11 c11) hq 12 c12)
theorem below13 {w w0 : World} {g : Nat} (h : Below w0.heap.size w0 w) (hg : w0.heap.size ≤ g) (c0 c1 c2 c3 c4 c5 c6 c7 c8 c9 c10 c11 c12 : Value) : Below w0.heap.size w0 (((((((((((((w.setCell ⟨g, 0, none⟩ c0).setCell ⟨g, 1, none⟩ c1).setCell ⟨g, 2, none⟩ c2).setCell ⟨g, 3, none⟩ c3).setCell ⟨g, 4, none⟩ c4).setCell ⟨g, 5, none⟩ c5).setCell ⟨g, 6, none⟩ c6).setCell ⟨g, 7, none⟩ c7).setCell ⟨g, 8, none⟩ c8).setCell ⟨g, 9, none⟩ c9).setCell ⟨g, 10, none⟩ c10).setCell ⟨g, 11, none⟩ c11).setCell ⟨g, 12, none⟩ c12) :=
  (keeps13 w g c0 c1 c2 c3 c4 c5 c6 c7 c8 c9 c10 c11 c12).below h (by simpa using hg) (Nat.le_refl _)
/-- An image with both of its codes in new memory. -/
def CodedR (w : World) (mk : Value → Value → Value) (l1 l2 : List (Int × Int)) (r : Ending) (w' : World) : Prop :=
  ∃ sA sn sc mA mn mc, r = .returned (.tuple #[mk (.slice sA sn sc) (.slice mA mn mc), .int .i64 0]) ∧ w'.ownsRow w.heap.size 56 2 (.slice sA sn sc) sn (csI l1) ∧ w'.ownsRow w.heap.size 56 2 (.slice mA mn mc) mn (csI l2) ∧ Below w.heap.size w w'
theorem withCodes_ok (v f e s o n i u x y : Int) (fA : Option Addr) (fn fc : Nat) (A1 A2 : Option Addr) (n1 c1 n2 c2 : Nat) (b1 b2 : List UInt8) (w : World) (hr1 : Row w w.heap.size A1 n1 c1 (cs8 b1)) (hr2 : Row w w.heap.size A2 n2 c2 (cs8 b2)) (h1 : n1 ≤ 1000000) (h2 : n2 ≤ 1000000)
    (D1 : Hid ((decA b1).2.1 = 0)) (D2 : Hid ((decA b2).2.1 = 0)) :
    Calls Tryz.prog 48 #[.agg #[.int .u32 v, .int .u32 f, .int .i64 e, .int .i64 s, .int .i64 o, .int .i64 n, .int .i64 i, .int .i64 u, .slice fA fn fc, .slice none 0 0, .slice none 0 0, .int .i64 x, .int .i64 y], .slice A1 n1 c1, .slice A2 n2 c2] w (CodedR w (fun a b => .agg #[.int .u32 v, .int .u32 f, .int .i64 e, .int .i64 s, .int .i64 o, .int .i64 n, .int .i64 i, .int .i64 u, .slice fA fn fc, a, b, .int .i64 x, .int .i64 y]) (decA b1).1 (decA b2).1) := by
  go_enter Tryz.func48, Tryz.ntmps48
  go_wp2_with fail
  have hb0 := two_below w (.cells #[.int .u32 v, .int .u32 f, .int .i64 e, .int .i64 s, .int .i64 o, .int .i64 n, .int .i64 i, .int .i64 u, .slice fA fn fc, .slice none 0 0, .slice none 0 0, .int .i64 x, .int .i64 y] 28) (.cells #[.int .u32 0, .int .u32 0, .int .i64 0, .int .i64 0, .int .i64 0, .int .i64 0, .int .i64 0, .int .i64 0, .slice none 0 0, .slice none 0 0, .slice none 0 0, .int .i64 0, .int .i64 0] 28)
  have bM := (Blk.new w 28 [.int .u32 v, .int .u32 f, .int .i64 e, .int .i64 s, .int .i64 o, .int .i64 n, .int .i64 i, .int .i64 u, .slice fA fn fc, .slice none 0 0, .slice none 0 0, .int .i64 x, .int .i64 y]).alloc (.cells #[.int .u32 0, .int .u32 0, .int .i64 0, .int .i64 0, .int .i64 0, .int .i64 0, .int .i64 0, .int .i64 0, .slice none 0 0, .slice none 0 0, .slice none 0 0, .int .i64 0, .int .i64 0] 28)
  have bZ := img_two w (.cells #[.int .u32 v, .int .u32 f, .int .i64 e, .int .i64 s, .int .i64 o, .int .i64 n, .int .i64 i, .int .i64 u, .slice fA fn fc, .slice none 0 0, .slice none 0 0, .int .i64 x, .int .i64 y] 28) [.int .u32 0, .int .u32 0, .int .i64 0, .int .i64 0, .int .i64 0, .int .i64 0, .int .i64 0, .int .i64 0, .slice none 0 0, .slice none 0 0, .slice none 0 0, .int .i64 0, .int .i64 0]
  generalize (w.alloc (.cells #[.int .u32 v, .int .u32 f, .int .i64 e, .int .i64 s, .int .i64 o, .int .i64 n, .int .i64 i, .int .i64 u, .slice fA fn fc, .slice none 0 0, .slice none 0 0, .int .i64 x, .int .i64 y] 28)).alloc (.cells #[.int .u32 0, .int .u32 0, .int .i64 0, .int .i64 0, .int .i64 0, .int .i64 0, .int .i64 0, .int .i64 0, .slice none 0 0, .slice none 0 0, .slice none 0 0, .int .i64 0, .int .i64 0] 28) = w0 at hb0 bM bZ ⊢
  have hs0 := hb0.size
  refine (Decode_any w.heap.size A1 n1 c1 b1 w0 (hr1.keep hb0 (Nat.le_refl _)) hs0 (by omega)).mono ?_
  rintro r w1 ⟨sA, sn, sc, rfl, o1, q1⟩
  have bM1 := bM.keep q1 bM.lt
  have bZ1 := bZ.keep q1 bZ.lt
  have fM := bM1.frozen 9
  have kM := bM1.cell (j := 9) rfl
  have lM := bM1.lt
  have hb1 := hb0.trans (q1.mono hs0)
  have lZ := bZ.lt
  rw [D1.out]
  have bM2 := bM1.set 9 (.slice sA sn sc)
  have bZ2 := bZ1.other (h := w.heap.size) (by omega) 9 (.slice sA sn sc)
  have p2 := own_offk o1 (q := w.heap.size) (fun k hk => by have := (o1.lt k hk).1; omega) 9 (.slice sA sn sc)
  have hb2 := below_set hb1 (Nat.le_refl _) (g := w.heap.size) (j := 9) (.slice sA sn sc)
  have hr3 := (hr2.keep hb2 (Nat.le_refl _)).more hb2.size
  go_wp2_with fail
  clear kM fM bM1 bZ1 o1 bM bZ hb1
  generalize w1.setCell ⟨w.heap.size, 9, none⟩ (.slice sA sn sc) = w2 at bM2 bZ2 p2 hb2 hr3 ⊢
  refine (Decode_any _ A2 n2 c2 b2 w2 hr3 (Nat.le_refl _) (by omega)).mono ?_
  rintro r w3 ⟨mA, mn, mc, rfl, o3, q3⟩
  have bM3 := bM2.keep q3 bM2.lt
  have bZ3 := bZ2.keep q3 bZ2.lt
  have p3 := ownI_keep p2 q3
  have lM3 := bM3.lt
  have lZ3 := bZ3.lt
  have hs2 := hb2.size
  have hb3 := hb2.trans (q3.mono hs2)
  have lM2 := bM2.lt
  have lZ2 := bZ2.lt
  have fM3 := fun j => bM3.frozen j
  have fZ3 := fun j => bZ3.frozen j
  obtain ⟨k0, k1, k2, k3, k4, k5, k6, k7, k8, k9, k10, k11, k12⟩ := cells13 bM3
  obtain ⟨z0, z1, z2, z3, z4, z5, z6, z7, z8, z9, z10, z11, z12⟩ := cells13 bZ3
  have bM4 := bM3.set 10 (.slice mA mn mc)
  have bZ4 := bZ3.other (h := w.heap.size) (by omega) 10 (.slice mA mn mc)
  have p4 := own_offk p3 (q := w.heap.size) (fun k hk => by have := (p3.lt k hk).1; omega) 10 (.slice mA mn mc)
  have o4 := own_offk o3 (q := w.heap.size) (fun k hk => by have := (o3.lt k hk).1; omega) 10 (.slice mA mn mc)
  have hb4 := below_set hb3 (Nat.le_refl _) (g := w.heap.size) (j := 10) (.slice mA mn mc)
  rw [D2.out]
  have LZ := hide (And.intro lZ lZ2)
  have B4 := hide (And.intro bZ4 (And.intro p4 (And.intro o4 hb4)))
  clear bM3 bZ3 bM4 bZ4 p3 p4 o3 o4 hb4 hb3 p2 bM2 bZ2 hr3 hb2 q3
  go_wp2
  obtain ⟨bZ4, p4, o4, hb4⟩ := B4.out
  refine ret_im (g := w.heap.size + 1) rfl rfl rfl (bZ4.put13 _ _ _ _ _ _ _ _ _ _ _ _ _) rfl ?_
  refine ⟨sA, sn, sc, mA, mn, mc, rfl, ?_, ?_, below13 hb4 (by omega) _ _ _ _ _ _ _ _ _ _ _ _ _⟩
  · exact own_lower (own13 p4 (fun k hk => by have := (p4.lt k hk).1; have := LZ.out.1; omega) _ _ _ _ _ _ _ _ _ _ _ _ _) (by omega)
  · exact own_lower (own13 o4 (fun k hk => by have := (o4.lt k hk).1; have := LZ.out.2; omega) _ _ _ _ _ _ _ _ _ _ _ _ _) (by omega)
theorem withCodes_bad2 (v f e s o n i u x y : Int) (fA : Option Addr) (fn fc : Nat) (A1 A2 : Option Addr) (n1 c1 n2 c2 : Nat) (b1 b2 : List UInt8) (w : World) (hr1 : Row w w.heap.size A1 n1 c1 (cs8 b1)) (hr2 : Row w w.heap.size A2 n2 c2 (cs8 b2)) (h1 : n1 ≤ 1000000) (h2 : n2 ≤ 1000000)
    (D1 : Hid ((decA b1).2.1 = 0)) (D2 : Hid ((decA b2).2.1 ≠ 0)) :
    Calls Tryz.prog 48 #[.agg #[.int .u32 v, .int .u32 f, .int .i64 e, .int .i64 s, .int .i64 o, .int .i64 n, .int .i64 i, .int .i64 u, .slice fA fn fc, .slice none 0 0, .slice none 0 0, .int .i64 x, .int .i64 y], .slice A1 n1 c1, .slice A2 n2 c2] w fun r w' => r = .returned (.tuple #[.agg #[.int .u32 0, .int .u32 0, .int .i64 0, .int .i64 0, .int .i64 0, .int .i64 0, .int .i64 0, .int .i64 0, .slice none 0 0, .slice none 0 0, .slice none 0 0, .int .i64 0, .int .i64 0], .int .i64 4]) ∧ Below w.heap.size w w' := by
  obtain ⟨z, hz⟩ : ∃ z, (decA b2).2.1 = z := ⟨_, rfl⟩
  have HZ := hide hz
  have g0 : (z == 0) = false := beq_eq_false_iff_ne.2 (by rw [← hz]; exact D2.out)
  have g1 := bne_of g0
  clear hz D2
  go_enter Tryz.func48, Tryz.ntmps48
  go_wp2_with fail
  have hb0 := two_below w (.cells #[.int .u32 v, .int .u32 f, .int .i64 e, .int .i64 s, .int .i64 o, .int .i64 n, .int .i64 i, .int .i64 u, .slice fA fn fc, .slice none 0 0, .slice none 0 0, .int .i64 x, .int .i64 y] 28) (.cells #[.int .u32 0, .int .u32 0, .int .i64 0, .int .i64 0, .int .i64 0, .int .i64 0, .int .i64 0, .int .i64 0, .slice none 0 0, .slice none 0 0, .slice none 0 0, .int .i64 0, .int .i64 0] 28)
  have bM := (Blk.new w 28 [.int .u32 v, .int .u32 f, .int .i64 e, .int .i64 s, .int .i64 o, .int .i64 n, .int .i64 i, .int .i64 u, .slice fA fn fc, .slice none 0 0, .slice none 0 0, .int .i64 x, .int .i64 y]).alloc (.cells #[.int .u32 0, .int .u32 0, .int .i64 0, .int .i64 0, .int .i64 0, .int .i64 0, .int .i64 0, .int .i64 0, .slice none 0 0, .slice none 0 0, .slice none 0 0, .int .i64 0, .int .i64 0] 28)
  have bZ := img_two w (.cells #[.int .u32 v, .int .u32 f, .int .i64 e, .int .i64 s, .int .i64 o, .int .i64 n, .int .i64 i, .int .i64 u, .slice fA fn fc, .slice none 0 0, .slice none 0 0, .int .i64 x, .int .i64 y] 28) [.int .u32 0, .int .u32 0, .int .i64 0, .int .i64 0, .int .i64 0, .int .i64 0, .int .i64 0, .int .i64 0, .slice none 0 0, .slice none 0 0, .slice none 0 0, .int .i64 0, .int .i64 0]
  generalize (w.alloc (.cells #[.int .u32 v, .int .u32 f, .int .i64 e, .int .i64 s, .int .i64 o, .int .i64 n, .int .i64 i, .int .i64 u, .slice fA fn fc, .slice none 0 0, .slice none 0 0, .int .i64 x, .int .i64 y] 28)).alloc (.cells #[.int .u32 0, .int .u32 0, .int .i64 0, .int .i64 0, .int .i64 0, .int .i64 0, .int .i64 0, .int .i64 0, .slice none 0 0, .slice none 0 0, .slice none 0 0, .int .i64 0, .int .i64 0] 28) = w0 at hb0 bM bZ ⊢
  have hs0 := hb0.size
  refine (Decode_any w.heap.size A1 n1 c1 b1 w0 (hr1.keep hb0 (Nat.le_refl _)) hs0 (by omega)).mono ?_
  rintro r w1 ⟨sA, sn, sc, rfl, o1, q1⟩
  have bM1 := bM.keep q1 bM.lt
  have bZ1 := bZ.keep q1 bZ.lt
  have fM := bM1.frozen 9
  have kM := bM1.cell (j := 9) rfl
  have lM := bM1.lt
  have hb1 := hb0.trans (q1.mono hs0)
  have lZ := bZ.lt
  rw [D1.out]
  have bM2 := bM1.set 9 (.slice sA sn sc)
  have bZ2 := bZ1.other (h := w.heap.size) (by omega) 9 (.slice sA sn sc)
  have p2 := own_offk o1 (q := w.heap.size) (fun k hk => by have := (o1.lt k hk).1; omega) 9 (.slice sA sn sc)
  have hb2 := below_set hb1 (Nat.le_refl _) (g := w.heap.size) (j := 9) (.slice sA sn sc)
  have hr3 := (hr2.keep hb2 (Nat.le_refl _)).more hb2.size
  go_wp2_with fail
  clear kM fM bM1 bZ1 o1 bM bZ hb1
  generalize w1.setCell ⟨w.heap.size, 9, none⟩ (.slice sA sn sc) = w2 at bM2 bZ2 p2 hb2 hr3 ⊢
  refine (Decode_any _ A2 n2 c2 b2 w2 hr3 (Nat.le_refl _) (by omega)).mono ?_
  rintro r w3 ⟨mA, mn, mc, rfl, o3, q3⟩
  have bM3 := bM2.keep q3 bM2.lt
  have bZ3 := bZ2.keep q3 bZ2.lt
  have p3 := ownI_keep p2 q3
  have lM3 := bM3.lt
  have lZ3 := bZ3.lt
  have hs2 := hb2.size
  have hb3 := hb2.trans (q3.mono hs2)
  have lM2 := bM2.lt
  have lZ2 := bZ2.lt
  have fM3 := fun j => bM3.frozen j
  have fZ3 := fun j => bZ3.frozen j
  obtain ⟨k0, k1, k2, k3, k4, k5, k6, k7, k8, k9, k10, k11, k12⟩ := cells13 bM3
  obtain ⟨z0, z1, z2, z3, z4, z5, z6, z7, z8, z9, z10, z11, z12⟩ := cells13 bZ3
  have bM4 := bM3.set 10 (.slice mA mn mc)
  have bZ4 := bZ3.other (h := w.heap.size) (by omega) 10 (.slice mA mn mc)
  have p4 := own_offk p3 (q := w.heap.size) (fun k hk => by have := (p3.lt k hk).1; omega) 10 (.slice mA mn mc)
  have o4 := own_offk o3 (q := w.heap.size) (fun k hk => by have := (o3.lt k hk).1; omega) 10 (.slice mA mn mc)
  have hb4 := below_set hb3 (Nat.le_refl _) (g := w.heap.size) (j := 10) (.slice mA mn mc)
  rw [HZ.out]
  have B4 := hide (And.intro bZ4 (And.intro p4 (And.intro o4 hb4)))
  clear bM3 bZ3 bM4 bZ4 p3 p4 o3 o4 hb4 hb3 p2 bM2 bZ2 hr3 hb2 q3
  go_wp2
  obtain ⟨bZ4, p4, o4, hb4⟩ := B4.out
  refine ret_im (g := w.heap.size + 1) rfl rfl rfl (bZ4.put13 _ _ _ _ _ _ _ _ _ _ _ _ _) rfl ?_
  exact ⟨rfl, below13 hb4 (by omega) _ _ _ _ _ _ _ _ _ _ _ _ _⟩
theorem withCodes_bad1 (v f e s o n i u x y : Int) (fA : Option Addr) (fn fc : Nat) (A1 A2 : Option Addr) (n1 c1 n2 c2 : Nat) (b1 b2 : List UInt8) (w : World) (hr1 : Row w w.heap.size A1 n1 c1 (cs8 b1)) (_hr2 : Row w w.heap.size A2 n2 c2 (cs8 b2)) (h1 : n1 ≤ 1000000) (_h2 : n2 ≤ 1000000)
    (D1 : Hid ((decA b1).2.1 ≠ 0)) :
    Calls Tryz.prog 48 #[.agg #[.int .u32 v, .int .u32 f, .int .i64 e, .int .i64 s, .int .i64 o, .int .i64 n, .int .i64 i, .int .i64 u, .slice fA fn fc, .slice none 0 0, .slice none 0 0, .int .i64 x, .int .i64 y], .slice A1 n1 c1, .slice A2 n2 c2] w fun r w' => r = .returned (.tuple #[.agg #[.int .u32 0, .int .u32 0, .int .i64 0, .int .i64 0, .int .i64 0, .int .i64 0, .int .i64 0, .int .i64 0, .slice none 0 0, .slice none 0 0, .slice none 0 0, .int .i64 0, .int .i64 0], .int .i64 4]) ∧ Below w.heap.size w w' := by
  obtain ⟨z, hz⟩ : ∃ z, (decA b1).2.1 = z := ⟨_, rfl⟩
  have HZ := hide hz
  have g0 : (z == 0) = false := beq_eq_false_iff_ne.2 (by rw [← hz]; exact D1.out)
  have g1 := bne_of g0
  clear hz D1
  go_enter Tryz.func48, Tryz.ntmps48
  go_wp2_with fail
  have hb0 := two_below w (.cells #[.int .u32 v, .int .u32 f, .int .i64 e, .int .i64 s, .int .i64 o, .int .i64 n, .int .i64 i, .int .i64 u, .slice fA fn fc, .slice none 0 0, .slice none 0 0, .int .i64 x, .int .i64 y] 28) (.cells #[.int .u32 0, .int .u32 0, .int .i64 0, .int .i64 0, .int .i64 0, .int .i64 0, .int .i64 0, .int .i64 0, .slice none 0 0, .slice none 0 0, .slice none 0 0, .int .i64 0, .int .i64 0] 28)
  have bM := (Blk.new w 28 [.int .u32 v, .int .u32 f, .int .i64 e, .int .i64 s, .int .i64 o, .int .i64 n, .int .i64 i, .int .i64 u, .slice fA fn fc, .slice none 0 0, .slice none 0 0, .int .i64 x, .int .i64 y]).alloc (.cells #[.int .u32 0, .int .u32 0, .int .i64 0, .int .i64 0, .int .i64 0, .int .i64 0, .int .i64 0, .int .i64 0, .slice none 0 0, .slice none 0 0, .slice none 0 0, .int .i64 0, .int .i64 0] 28)
  have bZ := img_two w (.cells #[.int .u32 v, .int .u32 f, .int .i64 e, .int .i64 s, .int .i64 o, .int .i64 n, .int .i64 i, .int .i64 u, .slice fA fn fc, .slice none 0 0, .slice none 0 0, .int .i64 x, .int .i64 y] 28) [.int .u32 0, .int .u32 0, .int .i64 0, .int .i64 0, .int .i64 0, .int .i64 0, .int .i64 0, .int .i64 0, .slice none 0 0, .slice none 0 0, .slice none 0 0, .int .i64 0, .int .i64 0]
  generalize (w.alloc (.cells #[.int .u32 v, .int .u32 f, .int .i64 e, .int .i64 s, .int .i64 o, .int .i64 n, .int .i64 i, .int .i64 u, .slice fA fn fc, .slice none 0 0, .slice none 0 0, .int .i64 x, .int .i64 y] 28)).alloc (.cells #[.int .u32 0, .int .u32 0, .int .i64 0, .int .i64 0, .int .i64 0, .int .i64 0, .int .i64 0, .int .i64 0, .slice none 0 0, .slice none 0 0, .slice none 0 0, .int .i64 0, .int .i64 0] 28) = w0 at hb0 bM bZ ⊢
  have hs0 := hb0.size
  refine (Decode_any w.heap.size A1 n1 c1 b1 w0 (hr1.keep hb0 (Nat.le_refl _)) hs0 (by omega)).mono ?_
  rintro r w1 ⟨sA, sn, sc, rfl, o1, q1⟩
  have bM1 := bM.keep q1 bM.lt
  have bZ1 := bZ.keep q1 bZ.lt
  have fM := bM1.frozen 9
  have kM := bM1.cell (j := 9) rfl
  have lM := bM1.lt
  have hb1 := hb0.trans (q1.mono hs0)
  have lZ := bZ.lt
  rw [HZ.out]
  have fZ1 := fun j => bZ1.frozen j
  obtain ⟨z0, z1, z2, z3, z4, z5, z6, z7, z8, z9, z10, z11, z12⟩ := cells13 bZ1
  have B1 := hide (And.intro bZ1 hb1)
  clear hb1 bM1 o1 q1
  have lz := bZ1.lt
  clear bZ1
  go_wp2
  obtain ⟨bZ1, hb1⟩ := B1.out
  refine ret_im (g := w.heap.size + 1) rfl rfl rfl ((bZ1.other (h := w.heap.size) (by omega) 9 _).put13 _ _ _ _ _ _ _ _ _ _ _ _ _) rfl ?_
  exact ⟨rfl, below13 (below_set hb1 (Nat.le_refl _) _) (by omega) _ _ _ _ _ _ _ _ _ _ _ _ _⟩

end Go.Proofs.YtdikiabjkmigdaaGreatDoor
namespace Go.Proofs.YtdikiabjkmigdaaGreatDoor
open Go.RowKit
set_option maxRecDepth 20000
set_option maxHeartbeats 4000000

/-- Where things are while bytes are read. -/
structure DZ (w0 : World) (gb ge ga q2 q8 : Nat) (A : Option Addr) (n c : Nat) (l : List UInt8) (s : Int × Int) (cs : List Value) (w : World) : Prop where
  ds : DS w0.heap.size gb ge ga A n c l s w
  m : Blk w q8 28 cs
  z : Blk w q2 28 [.int .u32 0, .int .u32 0, .int .i64 0, .int .i64 0, .int .i64 0, .int .i64 0, .int .i64 0, .int .i64 0, .slice none 0 0, .slice none 0 0, .slice none 0 0, .int .i64 0, .int .i64 0]
  bl : Below w0.heap.size w0 w
  ne : gb ≠ q8 ∧ ge ≠ q8 ∧ ga ≠ q8 ∧ q2 ≠ ge ∧ q2 ≠ ga ∧ q2 ≠ q8
  pos : w0.heap.size ≤ q8 ∧ w0.heap.size ≤ q2 ∧ w0.heap.size ≤ ge ∧ w0.heap.size ≤ ga
theorem DZ.num {w0 w w' : World} {gb ge ga q2 q8 n c : Nat} {A : Option Addr} {l : List UInt8} {s s' : Int × Int} {cs : List Value} (h : DZ w0 gb ge ga q2 q8 A n c l s cs w) (k : Keeps [ge, ga] w w') (d : DS w0.heap.size gb ge ga A n c l s' w') : DZ w0 gb ge ga q2 q8 A n c l s' cs w' := by
  have hn := h.ne
  have hp := h.pos
  refine ⟨d, k.blk h.m ?_, k.blk h.z ?_, k.below h.bl ?_ (Nat.le_refl _), h.ne, h.pos⟩
  · simp; omega
  · simp; omega
  · intro i hi; simp at hi; omega
theorem DZ.put {w0 w : World} {gb ge ga q2 q8 n c : Nat} {A : Option Addr} {l : List UInt8} {s : Int × Int} {cs : List Value} (h : DZ w0 gb ge ga q2 q8 A n c l s cs w) (j : Nat) (v : Value) : DZ w0 gb ge ga q2 q8 A n c l s (cs.set j v) (w.setCell ⟨q8, j, none⟩ v) :=
  ⟨h.ds.other ⟨h.ne.1, h.ne.2.1, h.ne.2.2.1⟩ h.pos.1 v, h.m.set j v, h.z.other h.ne.2.2.2.2.2 j v, below_set h.bl h.pos.1 v, h.ne, h.pos⟩
theorem DZ.keep {w0 w w' : World} {gb ge ga q2 q8 n c : Nat} {A : Option Addr} {l : List UInt8} {s : Int × Int} {cs : List Value} (h : DZ w0 gb ge ga q2 q8 A n c l s cs w) (hb : Below w.heap.size w w') : DZ w0 gb ge ga q2 q8 A n c l s cs w' :=
  ⟨h.ds.keep hb, h.m.keep hb h.m.lt, h.z.keep hb h.z.lt, h.bl.trans (hb.mono h.bl.size), h.ne, h.pos⟩
theorem DZ.row {w0 w w' : World} {gb ge ga q2 q8 n c B n' c' : Nat} {A A' : Option Addr} {l x : List UInt8} {s : Int × Int} {cs : List Value} (h : DZ w0 gb ge ga q2 q8 A n c l s cs w) (k : Keeps [ge, ga] w w') (r : Row w B A' n' c' (cs8 x)) (hB : B ≤ w.heap.size) : Row w' B A' n' c' (cs8 x) := by
  refine ⟨r.len, r.cap, r.max, r.nil, fun hn => ?_⟩
  obtain ⟨b, o, rfl, hlt, hc⟩ := r.cells hn
  have hl := r.len
  rw [cs8_len] at hl
  have h1 := hc 0 _ (cs8_at (by omega))
  have he : b ≠ ge := by
    rintro rfl
    rw [cell_of_row w b _ _ _ (0, 0) h.ds.e] at h1
    simp at h1
    exact int_no _ (List.mem_of_getElem? h1) _ rfl
  have ha : b ≠ ga := by
    rintro rfl
    rw [cell_of_row w b _ _ _ (0, 0) h.ds.a] at h1
    simp at h1
    exact int_no _ (List.mem_of_getElem? h1) _ rfl
  exact ⟨b, o, rfl, hlt, fun j u hu => (cell_same (k.block b (by omega) (by simp; exact ⟨he, ha⟩))).trans (hc j u hu)⟩
theorem d_bd (l : List UInt8) : (0 ≤ (d1 l).1 ∧ (d1 l).1 ≤ 8) ∧ (0 ≤ (d2 l).1 ∧ (d2 l).1 ≤ 12) ∧ (0 ≤ (d3 l).1 ∧ (d3 l).1 ≤ 13) ∧ (0 ≤ (d4 l).1 ∧ (d4 l).1 ≤ 14) ∧ (0 ≤ (d5 l).1 ∧ (d5 l).1 ≤ 15) ∧ (0 ≤ (d6 l).1 ∧ (d6 l).1 ≤ 16) ∧ (0 ≤ (d7 l).1 ∧ (d7 l).1 ≤ 17) ∧ (0 ≤ (d8 l).1 ∧ (d8 l).1 ≤ 19) := by
  have a1 := nxt_bd (l := l) (s := d0) (k := 4) (a := 4) ⟨by decide, by decide⟩
  have a2 := nxt_bd (l := l) (k := 4) a1
  have a3 := nxt_bd (l := l) (k := 1) a2
  have a4 := nxt_bd (l := l) (k := 1) a3
  have a5 := nxt_bd (l := l) (k := 1) a4
  have a6 := nxt_bd (l := l) (k := 1) a5
  have a7 := nxt_bd (l := l) (k := 1) a6
  have a8 := nxt_bd (l := l) (k := 2) a7
  exact ⟨a1, a2, a3, a4, a5, a6, a7, a8⟩
theorem conv_three (w : World) (o o2 : Obj) (C : Array Value) (n c : Nat) : (convert 29 29 (.slice (some ⟨w.heap.size + 1 + 1, 0, none⟩) n c)).run Tryz.prog (((w.alloc o).alloc o2).alloc (.cells C 5)) =
    .ok (.slice (some ⟨w.heap.size + 1 + 1, 0, none⟩) n c) (((w.alloc o).alloc o2).alloc (.cells C 5 (C.size, C.size + 1))) := by
  have h := conv_two (w.alloc o) o2 C n c
  rw [show (w.alloc o).heap.size = w.heap.size + 1 by simp] at h
  exact h
/-- An image, of new memory, and a fault. -/
def GivesM (w : World) (m : Im) (er : Int) (e : Ending) (w' : World) : Prop :=
  ∃ K : IV, e = .returned (.tuple #[.agg #[.int .u32 K.v, .int .u32 K.f, .int .i64 K.e, .int .i64 K.s, .int .i64 K.o, .int .i64 K.n, .int .i64 K.i, .int .i64 K.u, .slice K.fA K.fn K.fc, .slice K.sA K.sn K.sc, .slice K.mA K.mn K.mc, .int .i64 K.x, .int .i64 K.y], .int .i64 er]) ∧ K.m = m ∧ w'.ownsRow w.heap.size 21 1 (.slice K.fA K.fn K.fc) K.fn (c32 K.fs) ∧ w'.ownsRow w.heap.size 56 2 (.slice K.sA K.sn K.sc) K.sn (csI K.st) ∧ w'.ownsRow w.heap.size 56 2 (.slice K.mA K.mn K.mc) K.mn (csI K.mv) ∧ Below w.heap.size w w'
theorem GivesM.zero {w w' : World} {er k : Int} {m : Im} (hm : m = zeroM) (he : er = k) (hb : Below w.heap.size w w') : GivesM w m er (.returned (.tuple #[.agg #[.int .u32 0, .int .u32 0, .int .i64 0, .int .i64 0, .int .i64 0, .int .i64 0, .int .i64 0, .int .i64 0, .slice none 0 0, .slice none 0 0, .slice none 0 0, .int .i64 0, .int .i64 0], .int .i64 k])) w' := by
  subst hm; subst he
  exact ⟨⟨0, 0, 0, 0, 0, 0, 0, 0, 0, 0, [], [], [], none, 0, 0, none, 0, 0, none, 0, 0⟩, rfl, rfl, World.ownsRow_nil _ _ _ _, World.ownsRow_nil _ _ _ _, World.ownsRow_nil _ _ _ _, hb⟩
open Classical in
noncomputable def decM (l : List UInt8) : Im := if Frm l then rdM l else zeroM
open Classical in
noncomputable def decE (l : List UInt8) : Int := if Frm l then 0 else 4
theorem dec_no {l : List UInt8} (h : ¬ Frm l) : decM l = zeroM ∧ decE l = 4 := ⟨if_neg h, if_neg h⟩
theorem dec_yes {l : List UInt8} (h : Frm l) : decM l = rdM l ∧ decE l = 0 := ⟨if_pos h, if_pos h⟩
theorem head_world (w : World) (A : Option Addr) (n c : Nat) : Below w.heap.size w (((w.alloc (.cells #[.slice A n c] 29)).alloc (.cells #[.int .u32 0, .int .u32 0, .int .i64 0, .int .i64 0, .int .i64 0, .int .i64 0, .int .i64 0, .int .i64 0, .slice none 0 0, .slice none 0 0, .slice none 0 0, .int .i64 0, .int .i64 0] 28)).alloc (.cells #[.int .u8 77, .int .u8 73, .int .u8 68, .int .u8 83] 5 (4, 5))) ∧
    Row (((w.alloc (.cells #[.slice A n c] 29)).alloc (.cells #[.int .u32 0, .int .u32 0, .int .i64 0, .int .i64 0, .int .i64 0, .int .i64 0, .int .i64 0, .int .i64 0, .slice none 0 0, .slice none 0 0, .slice none 0 0, .int .i64 0, .int .i64 0] 28)).alloc (.cells #[.int .u8 77, .int .u8 73, .int .u8 68, .int .u8 83] 5 (4, 5))) (w.heap.size + 1 + 1 + 1) (some ⟨w.heap.size + 1 + 1, 0, none⟩) 4 4 (cs8 mids) ∧
    Blk (((w.alloc (.cells #[.slice A n c] 29)).alloc (.cells #[.int .u32 0, .int .u32 0, .int .i64 0, .int .i64 0, .int .i64 0, .int .i64 0, .int .i64 0, .int .i64 0, .slice none 0 0, .slice none 0 0, .slice none 0 0, .int .i64 0, .int .i64 0] 28)).alloc (.cells #[.int .u8 77, .int .u8 73, .int .u8 68, .int .u8 83] 5 (4, 5))) w.heap.size 29 [.slice A n c] ∧
    Blk (((w.alloc (.cells #[.slice A n c] 29)).alloc (.cells #[.int .u32 0, .int .u32 0, .int .i64 0, .int .i64 0, .int .i64 0, .int .i64 0, .int .i64 0, .int .i64 0, .slice none 0 0, .slice none 0 0, .slice none 0 0, .int .i64 0, .int .i64 0] 28)).alloc (.cells #[.int .u8 77, .int .u8 73, .int .u8 68, .int .u8 83] 5 (4, 5))) (w.heap.size + 1) 28 [.int .u32 0, .int .u32 0, .int .i64 0, .int .i64 0, .int .i64 0, .int .i64 0, .int .i64 0, .int .i64 0, .slice none 0 0, .slice none 0 0, .slice none 0 0, .int .i64 0, .int .i64 0] ∧
    (((w.alloc (.cells #[.slice A n c] 29)).alloc (.cells #[.int .u32 0, .int .u32 0, .int .i64 0, .int .i64 0, .int .i64 0, .int .i64 0, .int .i64 0, .int .i64 0, .slice none 0 0, .slice none 0 0, .slice none 0 0, .int .i64 0, .int .i64 0] 28)).alloc (.cells #[.int .u8 77, .int .u8 73, .int .u8 68, .int .u8 83] 5 (4, 5))).heap.size = w.heap.size + 1 + 1 + 1 := by
  have h := row_lit ((w.alloc (.cells #[.slice A n c] 29)).alloc (.cells #[.int .u32 0, .int .u32 0, .int .i64 0, .int .i64 0, .int .i64 0, .int .i64 0, .int .i64 0, .int .i64 0, .slice none 0 0, .slice none 0 0, .slice none 0 0, .int .i64 0, .int .i64 0] 28)) #[.int .u8 77, .int .u8 73, .int .u8 68, .int .u8 83] 5 (4, 5) 4 rfl (by unfold maxLen; omega) (cs8 mids) rfl
  rw [show ((w.alloc (.cells #[.slice A n c] 29)).alloc (.cells #[.int .u32 0, .int .u32 0, .int .i64 0, .int .i64 0, .int .i64 0, .int .i64 0, .int .i64 0, .int .i64 0, .slice none 0 0, .slice none 0 0, .slice none 0 0, .int .i64 0, .int .i64 0] 28)).heap.size = w.heap.size + 1 + 1 by simp] at h
  exact ⟨(two_below w _ _).alloc (by simp; omega) _, h, ((Blk.new w _ _).alloc _).alloc _, (img_two w _ _).alloc _, by simp⟩
theorem decoded_head (B : Nat) (A : Option Addr) (n c : Nat) (l : List UInt8) (w : World) (hr : Row w B A n c (cs8 l)) (hB : B ≤ w.heap.size) (hh : l.take 4 ≠ mids) :
    Calls Tryz.prog 23 #[.slice A n c] w (GivesM w (decM l) (decE l)) := by
  have kc := fun (o o2 : Obj) => conv_three w o o2 #[.int .u8 77, .int .u8 73, .int .u8 68, .int .u8 83] 4 4
  obtain ⟨e1, e2⟩ := dec_no (l := l) fun h => hh h.head
  have HD := hide (And.intro e1 e2)
  have HH := hide (decide_eq_false hh)
  clear e1 e2 hh
  go_enter Tryz.func23, Tryz.ntmps23
  go_wp2_with fail
  obtain ⟨hb, hm, bB, bZ, hsz⟩ := head_world w A n c
  have HB := hide (And.intro hb (And.intro bZ bB))
  have HZ := hide hsz
  clear kc
  refine (HasPrefix_mids B (w.heap.size + 1 + 1 + 1) A _ n c 4 l _ false (hr.keep hb hB) hm HH.out).mono ?_
  rintro e' w' ⟨rfl, rfl⟩
  clear hb hm bB hsz
  generalize ((w.alloc (.cells #[.slice A n c] 29)).alloc (.cells #[.int .u32 0, .int .u32 0, .int .i64 0, .int .i64 0, .int .i64 0, .int .i64 0, .int .i64 0, .int .i64 0, .slice none 0 0, .slice none 0 0, .slice none 0 0, .int .i64 0, .int .i64 0] 28)).alloc (.cells #[.int .u8 77, .int .u8 73, .int .u8 68, .int .u8 83] 5 (4, 5)) = w1 at HB HZ bZ ⊢
  have fZ := fun j => bZ.frozen j
  obtain ⟨z0, z1, z2, z3, z4, z5, z6, z7, z8, z9, z10, z11, z12⟩ := cells13 bZ
  have lZ := bZ.lt
  clear bZ
  go_wp2
  obtain ⟨hb, bZ, _⟩ := HB.out
  refine ret_im (g := w.heap.size + 1) rfl rfl rfl (bZ.put13 _ _ _ _ _ _ _ _ _ _ _ _ _) rfl ?_
  exact GivesM.zero HD.out.1 HD.out.2 (below13 hb (by omega) _ _ _ _ _ _ _ _ _ _ _ _ _)

end Go.Proofs.YtdikiabjkmigdaaGreatDoor
