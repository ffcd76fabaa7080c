/-
  Contract of the reference of layer 10: Run.
-/
import Derived.Test.YtmjelcoljmefeaaVRef4
import Derived.Deep.DeepCutAuto
namespace Go.Proofs.Ytmjelcoljmefeaa
open Go.RowKit
set_option maxRecDepth 20000
set_option maxHeartbeats 2000000

theorem rRun_bad (f : Fr) (A oA fA iA : Option Addr) (n cc no oc nf fc ni ic : Nat) (l : List (Int × Int)) (old first ins : List Int) (fuel : Int) (w : World)
    (ho : old.length = no) (hf : first.length = nf) (hi : ins.length = ni) (hbad : vbad f no nf ni fuel) :
    Calls Try.prog 13 #[.slice A n cc, .agg #[.int .i64 f.s, .int .i64 f.o, .int .i64 f.n, .int .i64 f.i, .int .i64 f.u], .slice oA no oc, .slice fA nf fc, .slice iA ni ic, .int .i64 fuel] w (RunQ (vmV f l old first ins fuel) w) := by
  have HV := hide (vm_bad (l := l) (old := old) (first := first) (ins := ins) (fuel := fuel) (f := f) (by rw [ho, hf, hi]; exact hbad))
  obtain ⟨er, he⟩ : ∃ er, frmE f = er := ⟨_, rfl⟩
  have cs : er ≠ 0 ∨ (er = 0 ∧ ((no : Int) ≠ f.o ∨ ((no : Int) = f.o ∧ ((nf : Int) ≠ f.n ∨ ((nf : Int) = f.n ∧ ((ni : Int) ≠ f.i ∨ ((ni : Int) = f.i ∧ fuel < 0))))))) := by
    by_cases hk : okF f
    · right
      rw [frm_zero hk] at he
      refine ⟨he.symm, ?_⟩
      by_cases h1 : (no : Int) = f.o
      · right; refine ⟨h1, ?_⟩
        by_cases h2 : (nf : Int) = f.n
        · right; refine ⟨h2, ?_⟩
          by_cases h3 : (ni : Int) = f.i
          · right; refine ⟨h3, ?_⟩
            rcases hbad with h | h | h | h | h
            · exact absurd hk h
            · exact absurd h1 h
            · exact absurd h2 h
            · exact absurd h3 h
            · exact h
          · exact .inl h3
        · exact .inl h2
      · exact .inl h1
    · left; rw [frm_one hk] at he; omega
  have HF := hide he
  clear hbad ho hf hi he
  rcases cs with h | ⟨h, h1 | ⟨h1, h2 | ⟨h2, h3 | ⟨h3, h4⟩⟩⟩⟩
  · have e1 : (er != 0) = true := by simpa using h
    clear h
    go_enter Try.func13, Try.ntmps13
    go_wp2_with fail
    have K := hide (QK.start w [.int .i64 f.s, .int .i64 f.o, .int .i64 f.n, .int .i64 f.i, .int .i64 f.u])
    generalize (w.alloc (.cells #[.int .i64 f.s, .int .i64 f.o, .int .i64 f.n, .int .i64 f.i, .int .i64 f.u] 24)).alloc (.cells #[.slice none 0 0, .slice none 0 0, .int .i64 0] 37) = w1 at K ⊢
    obtain ⟨q, hq⟩ : ∃ q, w.heap.size = q := ⟨_, rfl⟩
    rw [hq] at K ⊢
    have HQ := hide hq
    clear hq
    refine (rFrame_any f w1).mono ?_
    rw [HF.out]
    rintro e w2 ⟨rfl, hb2⟩
    have K2 := hide (K.out.keep hb2)
    clear K hb2
    have k1 := K2.out.bF.cell (j := 1) rfl
    have k2 := K2.out.bF.cell (j := 2) rfl
    have k3 := K2.out.bF.cell (j := 3) rfl
    have r0 := K2.out.bR.cell (j := 0) rfl
    have rf0 := K2.out.bR.frozen 0
    have r1 := K2.out.bR.cell (j := 1) rfl
    have rf1 := K2.out.bR.frozen 1
    have r2 := K2.out.bR.cell (j := 2) rfl
    have rf2 := K2.out.bR.frozen 2
    go_wp2
    exact qk_fault K2.out rfl rfl rfl rfl HV.out
  · have e1 : (er != 0) = false := by simpa using h
    have e_no : ((no : Int) != f.o) = true := by rw [bne_iff_ne]; exact h1
    clear h h1
    go_enter Try.func13, Try.ntmps13
    go_wp2_with fail
    have K := hide (QK.start w [.int .i64 f.s, .int .i64 f.o, .int .i64 f.n, .int .i64 f.i, .int .i64 f.u])
    generalize (w.alloc (.cells #[.int .i64 f.s, .int .i64 f.o, .int .i64 f.n, .int .i64 f.i, .int .i64 f.u] 24)).alloc (.cells #[.slice none 0 0, .slice none 0 0, .int .i64 0] 37) = w1 at K ⊢
    obtain ⟨q, hq⟩ : ∃ q, w.heap.size = q := ⟨_, rfl⟩
    rw [hq] at K ⊢
    have HQ := hide hq
    clear hq
    refine (rFrame_any f w1).mono ?_
    rw [HF.out]
    rintro e w2 ⟨rfl, hb2⟩
    have K2 := hide (K.out.keep hb2)
    clear K hb2
    have k1 := K2.out.bF.cell (j := 1) rfl
    have k2 := K2.out.bF.cell (j := 2) rfl
    have k3 := K2.out.bF.cell (j := 3) rfl
    have r0 := K2.out.bR.cell (j := 0) rfl
    have rf0 := K2.out.bR.frozen 0
    have r1 := K2.out.bR.cell (j := 1) rfl
    have rf1 := K2.out.bR.frozen 1
    have r2 := K2.out.bR.cell (j := 2) rfl
    have rf2 := K2.out.bR.frozen 2
    go_wp2
    exact qk_fault K2.out rfl rfl rfl rfl HV.out
  · have e1 : (er != 0) = false := by simpa using h
    have e_no : ((no : Int) != f.o) = false := by rw [bne_eq_false_iff_eq]; exact h1
    have e_nf : ((nf : Int) != f.n) = true := by rw [bne_iff_ne]; exact h2
    clear h h1 h2
    go_enter Try.func13, Try.ntmps13
    go_wp2_with fail
    have K := hide (QK.start w [.int .i64 f.s, .int .i64 f.o, .int .i64 f.n, .int .i64 f.i, .int .i64 f.u])
    generalize (w.alloc (.cells #[.int .i64 f.s, .int .i64 f.o, .int .i64 f.n, .int .i64 f.i, .int .i64 f.u] 24)).alloc (.cells #[.slice none 0 0, .slice none 0 0, .int .i64 0] 37) = w1 at K ⊢
    obtain ⟨q, hq⟩ : ∃ q, w.heap.size = q := ⟨_, rfl⟩
    rw [hq] at K ⊢
    have HQ := hide hq
    clear hq
    refine (rFrame_any f w1).mono ?_
    rw [HF.out]
    rintro e w2 ⟨rfl, hb2⟩
    have K2 := hide (K.out.keep hb2)
    clear K hb2
    have k1 := K2.out.bF.cell (j := 1) rfl
    have k2 := K2.out.bF.cell (j := 2) rfl
    have k3 := K2.out.bF.cell (j := 3) rfl
    have r0 := K2.out.bR.cell (j := 0) rfl
    have rf0 := K2.out.bR.frozen 0
    have r1 := K2.out.bR.cell (j := 1) rfl
    have rf1 := K2.out.bR.frozen 1
    have r2 := K2.out.bR.cell (j := 2) rfl
    have rf2 := K2.out.bR.frozen 2
    go_wp2
    exact qk_fault K2.out rfl rfl rfl rfl HV.out
  · have e1 : (er != 0) = false := by simpa using h
    have e_no : ((no : Int) != f.o) = false := by rw [bne_eq_false_iff_eq]; exact h1
    have e_nf : ((nf : Int) != f.n) = false := by rw [bne_eq_false_iff_eq]; exact h2
    have e_ni : ((ni : Int) != f.i) = true := by rw [bne_iff_ne]; exact h3
    clear h h1 h2 h3
    go_enter Try.func13, Try.ntmps13
    go_wp2_with fail
    have K := hide (QK.start w [.int .i64 f.s, .int .i64 f.o, .int .i64 f.n, .int .i64 f.i, .int .i64 f.u])
    generalize (w.alloc (.cells #[.int .i64 f.s, .int .i64 f.o, .int .i64 f.n, .int .i64 f.i, .int .i64 f.u] 24)).alloc (.cells #[.slice none 0 0, .slice none 0 0, .int .i64 0] 37) = w1 at K ⊢
    obtain ⟨q, hq⟩ : ∃ q, w.heap.size = q := ⟨_, rfl⟩
    rw [hq] at K ⊢
    have HQ := hide hq
    clear hq
    refine (rFrame_any f w1).mono ?_
    rw [HF.out]
    rintro e w2 ⟨rfl, hb2⟩
    have K2 := hide (K.out.keep hb2)
    clear K hb2
    have k1 := K2.out.bF.cell (j := 1) rfl
    have k2 := K2.out.bF.cell (j := 2) rfl
    have k3 := K2.out.bF.cell (j := 3) rfl
    have r0 := K2.out.bR.cell (j := 0) rfl
    have rf0 := K2.out.bR.frozen 0
    have r1 := K2.out.bR.cell (j := 1) rfl
    have rf1 := K2.out.bR.frozen 1
    have r2 := K2.out.bR.cell (j := 2) rfl
    have rf2 := K2.out.bR.frozen 2
    go_wp2
    exact qk_fault K2.out rfl rfl rfl rfl HV.out
  · have e1 : (er != 0) = false := by simpa using h
    have e_no : ((no : Int) != f.o) = false := by rw [bne_eq_false_iff_eq]; exact h1
    have e_nf : ((nf : Int) != f.n) = false := by rw [bne_eq_false_iff_eq]; exact h2
    have e_ni : ((ni : Int) != f.i) = false := by rw [bne_eq_false_iff_eq]; exact h3
    have e4 : decide (fuel < 0) = true := decide_eq_true h4
    clear h h1 h2 h3 h4
    go_enter Try.func13, Try.ntmps13
    go_wp2_with fail
    have K := hide (QK.start w [.int .i64 f.s, .int .i64 f.o, .int .i64 f.n, .int .i64 f.i, .int .i64 f.u])
    generalize (w.alloc (.cells #[.int .i64 f.s, .int .i64 f.o, .int .i64 f.n, .int .i64 f.i, .int .i64 f.u] 24)).alloc (.cells #[.slice none 0 0, .slice none 0 0, .int .i64 0] 37) = w1 at K ⊢
    obtain ⟨q, hq⟩ : ∃ q, w.heap.size = q := ⟨_, rfl⟩
    rw [hq] at K ⊢
    have HQ := hide hq
    clear hq
    refine (rFrame_any f w1).mono ?_
    rw [HF.out]
    rintro e w2 ⟨rfl, hb2⟩
    have K2 := hide (K.out.keep hb2)
    clear K hb2
    have k1 := K2.out.bF.cell (j := 1) rfl
    have k2 := K2.out.bF.cell (j := 2) rfl
    have k3 := K2.out.bF.cell (j := 3) rfl
    have r0 := K2.out.bR.cell (j := 0) rfl
    have rf0 := K2.out.bR.frozen 0
    have r1 := K2.out.bR.cell (j := 1) rfl
    have rf1 := K2.out.bR.frozen 1
    have r2 := K2.out.bR.cell (j := 2) rfl
    have rf2 := K2.out.bR.frozen 2
    go_wp2
    exact qk_fault K2.out rfl rfl rfl rfl HV.out
theorem rRun_big (f : Fr) (A oA fA iA : Option Addr) (n cc no oc nf fc ni ic : Nat) (l : List (Int × Int)) (old first ins : List Int) (fuel : Int) (w : World)
    (ho : old.length = no) (hf : first.length = nf) (hi : ins.length = ni) (hl : l.length = n) (hbad : ¬ vbad f no nf ni fuel) (h6 : 600 < n) :
    Calls Try.prog 13 #[.slice A n cc, .agg #[.int .i64 f.s, .int .i64 f.o, .int .i64 f.n, .int .i64 f.i, .int .i64 f.u], .slice oA no oc, .slice fA nf fc, .slice iA ni ic, .int .i64 fuel] w (RunQ (vmV f l old first ins fuel) w) := by
  have HV := hide (vm_big (l := l) (old := old) (first := first) (ins := ins) (fuel := fuel) (f := f) (by rw [ho, hf, hi]; exact hbad) (by omega))
  have HF := hide (frm_zero (show okF f from Decidable.byContradiction fun h => hbad (.inl h)))
  have e_no : ((no : Int) != f.o) = false := by rw [bne_eq_false_iff_eq]; exact Decidable.byContradiction fun h => hbad (.inr (.inl h))
  have e_nf : ((nf : Int) != f.n) = false := by rw [bne_eq_false_iff_eq]; exact Decidable.byContradiction fun h => hbad (.inr (.inr (.inl h)))
  have e_ni : ((ni : Int) != f.i) = false := by rw [bne_eq_false_iff_eq]; exact Decidable.byContradiction fun h => hbad (.inr (.inr (.inr (.inl h))))
  have e4 : decide (fuel < 0) = false := decide_eq_false fun h => hbad (.inr (.inr (.inr (.inr h))))
  have hd : decide ((600 : Int) < (n : Int)) = true := by simp; omega
  clear hbad ho hf hi hl
  go_enter Try.func13, Try.ntmps13
  go_wp2_with fail
  have K := hide (QK.start w [.int .i64 f.s, .int .i64 f.o, .int .i64 f.n, .int .i64 f.i, .int .i64 f.u])
  generalize (w.alloc (.cells #[.int .i64 f.s, .int .i64 f.o, .int .i64 f.n, .int .i64 f.i, .int .i64 f.u] 24)).alloc (.cells #[.slice none 0 0, .slice none 0 0, .int .i64 0] 37) = w1 at K ⊢
  obtain ⟨q, hq⟩ : ∃ q, w.heap.size = q := ⟨_, rfl⟩
  rw [hq] at K ⊢
  have HQ := hide hq
  clear hq
  refine (rFrame_any f w1).mono ?_
  rw [HF.out]
  rintro e w2 ⟨rfl, hb2⟩
  have K2 := hide (K.out.keep hb2)
  clear K hb2
  have k1 := K2.out.bF.cell (j := 1) rfl
  have k2 := K2.out.bF.cell (j := 2) rfl
  have k3 := K2.out.bF.cell (j := 3) rfl
  have r0 := K2.out.bR.cell (j := 0) rfl
  have rf0 := K2.out.bR.frozen 0
  have r1 := K2.out.bR.cell (j := 1) rfl
  have rf1 := K2.out.bR.frozen 1
  have r2 := K2.out.bR.cell (j := 2) rfl
  have rf2 := K2.out.bR.frozen 2
  go_wp2
  exact qk_fault K2.out rfl rfl rfl rfl HV.out
theorem cell_eq {w w' : World} {b o : Nat} (h : w'.heap[b]? = w.heap[b]?) : w'.cell? ⟨b, o, none⟩ = w.cell? ⟨b, o, none⟩ := by
  unfold World.cell?
  simp [h]
theorem Row.off {w w' : World} {B g n c : Nat} {A : Option Addr} {t : TypeId} {cs : List Value} {l : List Int} (hb : Blk w g t cs) (hcs : ∀ u ∈ cs, ∀ v, u ≠ Value.int .i32 v) (h : Row w B A n c (c32 l)) (hk : ∀ k, k ≠ g → w'.heap[k]? = w.heap[k]?) : Row w' B A n c (c32 l) := by
  refine ⟨h.len, h.cap, h.max, h.nil, fun hn => ?_⟩
  obtain ⟨b, o, rfl, hlt, hc⟩ := h.cells hn
  have hl := h.len
  rw [c32_len] at hl
  have hne : b ≠ g := by
    rintro rfl
    have h1 := hc 0 _ (c32_at (by omega))
    rw [cell_of_row w b _ _ t (0, 0) hb] at h1
    simp at h1
    exact hcs _ (List.mem_of_getElem? h1) _ rfl
  exact ⟨b, o, rfl, hlt, fun j u hu => (cell_eq (hk b hne)).trans (hc j u hu)⟩
/-- The state in its variable, and its rows. -/
structure LS (w0 : World) (q g B : Nat) (F : List Value) (tA sA cA uA oA iA : Option Addr) (tn tc sn sc cn cc un uc on oc ik ic : Nat) (s : VS) (old ins : List Int) (w : World) : Prop where
  K : QK w0 q F w
  b : Blk w g 66 [.int .i64 (s.p : Int), .slice tA tn tc, .slice sA sn sc, .slice cA cn cc, .slice uA un uc]
  r : RS w w.heap.size tA sA cA uA oA iA tn tc sn sc cn cc un uc on oc ik ic s old ins
  hg : q + 1 < g
section
variable {w0 w w' : World} {q g B : Nat} {F : List Value} {tA sA cA uA oA iA : Option Addr} {tn tc sn sc cn cc un uc on oc ik ic : Nat} {s : VS} {old ins : List Int}
theorem LS.keep (h : LS w0 q g B F tA sA cA uA oA iA tn tc sn sc cn cc un uc on oc ik ic s old ins w) (hb : Below w.heap.size w w') : LS w0 q g B F tA sA cA uA oA iA tn tc sn sc cn cc un uc on oc ik ic s old ins w' :=
  ⟨h.K.keep hb, h.b.keep hb h.b.lt, let k := h.r.keep hb (Nat.le_refl _); ⟨k.rt.more hb.size, k.rs.more hb.size, k.rc.more hb.size, k.ru.more hb.size, k.ro.more hb.size, k.ri.more hb.size⟩, h.hg⟩
theorem st_no {a : Int} {x1 x2 x3 x4 : Option Addr} {n1 n2 n3 n4 m1 m2 m3 m4 : Nat} : ∀ u ∈ [Value.int .i64 a, .slice x1 n1 m1, .slice x2 n2 m2, .slice x3 n3 m3, .slice x4 n4 m4], ∀ v, u ≠ Value.int .i32 v := by
  intro u hu v
  simp at hu
  rcases hu with rfl | rfl | rfl | rfl | rfl <;> simp
/-- The state's five cells are written anew. -/
theorem LS.put {a : Int} {x1 x2 x3 x4 : Option Addr} {n1 n2 n3 n4 m1 m2 m3 m4 : Nat} {s' : VS} {P : Int} (hP : P = (s'.p : Int)) (K : QK w0 q F w) (b : Blk w g 66 [.int .i64 a, .slice x1 n1 m1, .slice x2 n2 m2, .slice x3 n3 m3, .slice x4 n4 m4]) (hg : q + 1 < g)
    (r : RS w w.heap.size tA sA cA uA oA iA tn tc sn sc cn cc un uc on oc ik ic s' old ins) :
    LS w0 q g B F tA sA cA uA oA iA tn tc sn sc cn cc un uc on oc ik ic s' old ins (((((w.setCell ⟨g, 0, none⟩ (.int .i64 P)).setCell ⟨g, 1, none⟩ (.slice tA tn tc)).setCell ⟨g, 2, none⟩ (.slice sA sn sc)).setCell ⟨g, 3, none⟩ (.slice cA cn cc)).setCell ⟨g, 4, none⟩ (.slice uA un uc)) := by
  subst hP
  have h0 := K.q0
  have hk : ∀ k, k ≠ g → (((((w.setCell ⟨g, 0, none⟩ (.int .i64 (s'.p : Int))).setCell ⟨g, 1, none⟩ (.slice tA tn tc)).setCell ⟨g, 2, none⟩ (.slice sA sn sc)).setCell ⟨g, 3, none⟩ (.slice cA cn cc)).setCell ⟨g, 4, none⟩ (.slice uA un uc)).heap[k]? = w.heap[k]? := by
    intro k hk
    rw [heap_setCell_other _ ⟨g, 4, none⟩ k _ hk, heap_setCell_other _ ⟨g, 3, none⟩ k _ hk, heap_setCell_other _ ⟨g, 2, none⟩ k _ hk, heap_setCell_other _ ⟨g, 1, none⟩ k _ hk, heap_setCell_other _ ⟨g, 0, none⟩ k _ hk]
  have hs : (((((w.setCell ⟨g, 0, none⟩ (.int .i64 (s'.p : Int))).setCell ⟨g, 1, none⟩ (.slice tA tn tc)).setCell ⟨g, 2, none⟩ (.slice sA sn sc)).setCell ⟨g, 3, none⟩ (.slice cA cn cc)).setCell ⟨g, 4, none⟩ (.slice uA un uc)).heap.size = w.heap.size := by simp [World.setCell]
  refine ⟨⟨(hk q (by omega)).trans K.bF, (hk (q + 1) (by omega)).trans K.bR, below_set (below_set (below_set (below_set (below_set K.bl (by omega) _) (by omega) _) (by omega) _) (by omega) _) (by omega) _, K.q0⟩,
    ((((b.set 0 _).set 1 _).set 2 _).set 3 _).set 4 _, ?_, hg⟩
  rw [hs]
  exact ⟨r.rt.off b st_no hk, r.rs.off b st_no hk, r.rc.off b st_no hk, r.ru.off b st_no hk, r.ro.off b st_no hk, r.ri.off b st_no hk⟩
end
def posW (w : World) (g : Nat) : Nat := match w.cell? ⟨g, 0, none⟩ with
  | some (.int _ p) => p.toNat
  | _ => 0
theorem posW_is {w : World} {g : Nat} {t : TypeId} {p : Nat} {cs : List Value} (h : Blk w g t (.int .i64 (p : Int) :: cs)) : posW w g = p := by
  unfold posW
  rw [h.cell (j := 0) rfl]
  simp
/-- The state at its beginning, its cells not yet there. -/
def RawS (w0 : World) (q na nc : Nat) (F : List Value) (s14 : Value) (wx : World) : Prop :=
  ∃ g b1 b2 A1 A2 c1 c2, s14 = .pointer (some ⟨g, 0, none⟩) ∧ Blk wx g 66 [.int .i64 0, .slice none 0 0, .slice A1 na c1, .slice none 0 0, .slice A2 nc c2] ∧
    wx.ownsRow b1 21 1 (.slice A1 na c1) na (c32 (List.replicate na 0)) ∧ wx.ownsRow b2 21 1 (.slice A2 nc c2) nc (c32 (List.replicate nc 0)) ∧ QK w0 q F wx ∧ q + 1 < g
theorem raw_set {w0 w : World} {q g na nc b1 b2 c1 c2 : Nat} {A1 A2 : Option Addr} {F0 F1 F2 F3 F4 : Value} (bS : Blk w g 66 [.int .i64 0, .slice none 0 0, .slice none 0 0, .slice none 0 0, .slice none 0 0])
    (o1 : w.ownsRow b1 21 1 (.slice A1 na c1) na (c32 (List.replicate na 0))) (h1 : ∀ k, (Value.slice A1 na c1).ownBlock = some k → k ≠ g) (o2 : w.ownsRow b2 21 1 (.slice A2 nc c2) nc (c32 (List.replicate nc 0))) (h2 : ∀ k, (Value.slice A2 nc c2).ownBlock = some k → k ≠ g) (K : QK w0 q [F0, F1, F2, F3, F4] w) (hg : q + 1 < g) :
    ((((((w.setCell ⟨g, 0, none⟩ (.int .i64 0)).setCell ⟨g, 1, none⟩ (.slice none 0 0)).setCell ⟨g, 2, none⟩ (.slice A1 na c1)).setCell ⟨g, 3, none⟩ (.slice none 0 0)).setCell ⟨g, 4, none⟩ (.slice A2 nc c2)).cell? ⟨q, 0, none⟩ = some F0 ∧ (((((w.setCell ⟨g, 0, none⟩ (.int .i64 0)).setCell ⟨g, 1, none⟩ (.slice none 0 0)).setCell ⟨g, 2, none⟩ (.slice A1 na c1)).setCell ⟨g, 3, none⟩ (.slice none 0 0)).setCell ⟨g, 4, none⟩ (.slice A2 nc c2)).cell? ⟨q, 4, none⟩ = some F4) ∧ RawS w0 q na nc [F0, F1, F2, F3, F4] (.pointer (some ⟨g, 0, none⟩)) (((((w.setCell ⟨g, 0, none⟩ (.int .i64 0)).setCell ⟨g, 1, none⟩ (.slice none 0 0)).setCell ⟨g, 2, none⟩ (.slice A1 na c1)).setCell ⟨g, 3, none⟩ (.slice none 0 0)).setCell ⟨g, 4, none⟩ (.slice A2 nc c2)) := by
  have h0 := K.q0
  have oo : ∀ {b n c : Nat} {A : Option Addr} {xs : List Value}, w.ownsRow b 21 1 (.slice A n c) n xs → (∀ k, (Value.slice A n c).ownBlock = some k → k ≠ g) → (((((w.setCell ⟨g, 0, none⟩ (.int .i64 0)).setCell ⟨g, 1, none⟩ (.slice none 0 0)).setCell ⟨g, 2, none⟩ (.slice A1 na c1)).setCell ⟨g, 3, none⟩ (.slice none 0 0)).setCell ⟨g, 4, none⟩ (.slice A2 nc c2)).ownsRow b 21 1 (.slice A n c) n xs :=
    fun o h => own_other (q := g) (own_other (q := g) (own_other (q := g) (own_other (q := g) (own_other (q := g) o h 0 _) h 1 _) h 2 _) h 3 _) h 4 _
  have kk : QK w0 q [F0, F1, F2, F3, F4] (((((w.setCell ⟨g, 0, none⟩ (.int .i64 0)).setCell ⟨g, 1, none⟩ (.slice none 0 0)).setCell ⟨g, 2, none⟩ (.slice A1 na c1)).setCell ⟨g, 3, none⟩ (.slice none 0 0)).setCell ⟨g, 4, none⟩ (.slice A2 nc c2)) :=
    ⟨((((K.bF.other (h := g) (by omega) 0 _).other (h := g) (by omega) 1 _).other (h := g) (by omega) 2 _).other (h := g) (by omega) 3 _).other (h := g) (by omega) 4 _,
      ((((K.bR.other (h := g) (by omega) 0 _).other (h := g) (by omega) 1 _).other (h := g) (by omega) 2 _).other (h := g) (by omega) 3 _).other (h := g) (by omega) 4 _,
      below_set (below_set (below_set (below_set (below_set K.bl (by omega) _) (by omega) _) (by omega) _) (by omega) _) (by omega) _, K.q0⟩
  exact ⟨⟨kk.bF.cell (j := 0) rfl, kk.bF.cell (j := 4) rfl⟩, g, b1, b2, A1, A2, c1, c2, rfl, ((((bS.set 0 _).set 1 _).set 2 _).set 3 _).set 4 _, oo o1 h1, oo o2 h2, kk, hg⟩
theorem rRun_main (na no nb ni nc : Nat) (A oA fA iA : Option Addr) (n cc oc fc ic F B : Nat) (l : List (Int × Int)) (old first ins : List Int) (w : World) (hB : B ≤ w.heap.size)
    (hl : RowI w B A n cc l) (ho : Row w B oA no oc (c32 old)) (hf : Row w B fA nb fc (c32 first)) (hi : Row w B iA ni ic (c32 ins)) (ok : okF ⟨na, no, nb, ni, nc⟩) (hn : n ≤ 600) (gf : rngL first) (go : rngL old) (gi : rngL ins) :
    Calls Try.prog 13 #[.slice A n cc, .agg #[.int .i64 (na : Int), .int .i64 (no : Int), .int .i64 (nb : Int), .int .i64 (ni : Int), .int .i64 (nc : Int)], .slice oA no oc, .slice fA nb fc, .slice iA ni ic, .int .i64 (F : Int)] w (RunQ (vmV ⟨na, no, nb, ni, nc⟩ l old first ins (F : Int)) w) := by
  have lo : old.length = no := by have := ho.len; rwa [c32_len] at this
  have lf : first.length = nb := by have := hf.len; rwa [c32_len] at this
  have li : ins.length = ni := by have := hi.len; rwa [c32_len] at this
  have hbad : ¬ vbad ⟨na, no, nb, ni, nc⟩ old.length first.length ins.length (F : Int) := by
    unfold vbad; rw [lo, lf, li]; simp [ok]
  obtain ⟨R, hR⟩ : ∃ R, vrun ⟨na, no, nb, ni, nc⟩ l old ins F 0 (vini ⟨na, no, nb, ni, nc⟩ first) = R := ⟨_, rfl⟩
  have hV := vm_run (l := l) (fuel := (F : Int)) hbad (by have := hl.len; omega)
  rw [Int.toNat_natCast, hR] at hV
  have hl6 : l.length = n := hl.len
  have HI := hide (vi_ini (f := ⟨na, no, nb, ni, nc⟩) (n := l.length) (first := first) ok (by rw [lf]) gf)
  rw [hV]
  have HR := hide hR
  have HG := hide (And.intro ok (And.intro go gi))
  have HF := hide (frm_zero ok)
  have hd : decide ((600 : Int) < (n : Int)) = false := by simp; omega
  have e4 : decide ((F : Int) < 0) = false := by simp
  have HROW := hide (And.intro hl (And.intro ho (And.intro hf hi)))
  obtain ⟨x1, x2, x3, x4, x5⟩ := id ok
  simp only at x1 x2 x3 x4 x5
  have HLF := hide lf
  clear hR hV hbad lo lf li hl ho hf hi ok gf go gi hl6
  go_enter Try.func13, Try.ntmps13
  go_wp2_with fail
  have K := hide (QK.start w [.int .i64 (na : Int), .int .i64 (no : Int), .int .i64 (nb : Int), .int .i64 (ni : Int), .int .i64 (nc : Int)])
  generalize (w.alloc (.cells #[.int .i64 (na : Int), .int .i64 (no : Int), .int .i64 (nb : Int), .int .i64 (ni : Int), .int .i64 (nc : Int)] 24)).alloc (.cells #[.slice none 0 0, .slice none 0 0, .int .i64 0] 37) = w1 at K ⊢
  obtain ⟨q, hq⟩ : ∃ q, w.heap.size = q := ⟨_, rfl⟩
  rw [hq] at K ⊢
  have HQ := hide hq
  clear hq
  refine (rFrame_any ⟨na, no, nb, ni, nc⟩ w1).mono ?_
  rw [HF.out]
  rintro e w2 ⟨rfl, hb2⟩
  have K2 := hide (K.out.keep hb2)
  clear K hb2
  have k1 := K2.out.bF.cell (j := 1) rfl
  have k2 := K2.out.bF.cell (j := 2) rfl
  have k3 := K2.out.bF.cell (j := 3) rfl
  go_upto_region 5 with (fail)
  clear k1 k2 k3
  have HQ2 : Hid (q + 1 < w2.heap.size) := K2.out.bR.lt
  go_cut [14] (fun s14 wx => RawS w q na nc [.int .i64 (na : Int), .int .i64 (no : Int), .int .i64 (nb : Int), .int .i64 (ni : Int), .int .i64 (nc : Int)] s14 wx)
  case first =>
    have Kq := hide (K2.out.drewN 1)
    rw [show w2.drewN 1 = w2.drew from rfl] at Kq
    have hS : w2.drew.cell? ⟨q, 0, none⟩ = some (.int .i64 (na : Int)) ∧ w2.drew.cell? ⟨q, 4, none⟩ = some (.int .i64 (nc : Int)) := ⟨Kq.out.bF.cell (j := 0) rfl, Kq.out.bF.cell (j := 4) rfl⟩
    refine wp_region_held_drew (S := fun W : World => W.cell? ⟨q, 0, none⟩ = some (.int .i64 (na : Int)) ∧ W.cell? ⟨q, 4, none⟩ = some (.int .i64 (nc : Int))) (by kernel_rfl) hS (fun hS0 => ?_)
    have HQ2 : Hid (q + 1 < w2.drew.heap.size) := HQ2.out
    clear K2
    generalize w2.drew = v0 at Kq hS hS0 HQ2 ⊢
    refine wpAnyH_take (i := 0) (v := .pointer (some ⟨q, 0, none⟩)) rfl (by kernel_rfl) (by kernel_rfl) (by kernel_rfl) (fun _ _ _ h => h) (Or.inl ⟨by rfl, fun w _ => by go_simp⟩) (by assumption) ?_
    simp only [List.getElem_toArray, List.getElem_cons_zero, Act.put, List.setIfInBounds_toArray, List.set_cons_zero, List.set_cons_succ]
    refine wpAnyH_take (i := 1) (v := .int .i64 (na : Int)) rfl (by kernel_rfl) (by kernel_rfl) (by kernel_rfl) (fun _ _ _ h => h) (Or.inl ⟨by rfl, fun w h => by have h9 := h.1; go_simp⟩) (by assumption) ?_
    simp only [List.getElem_toArray, List.getElem_cons_zero, List.getElem_cons_succ, Act.put, List.setIfInBounds_toArray, List.set_cons_zero, List.set_cons_succ]
    refine wpAnyH_take (i := 3) (v := .pointer (some ⟨q, 4, none⟩)) rfl (by kernel_rfl) (by kernel_rfl) (by kernel_rfl) (fun _ _ _ h => h) (Or.inl ⟨by rfl, fun w _ => by go_simp⟩) (by assumption) ?_
    simp only [List.getElem_toArray, List.getElem_cons_zero, List.getElem_cons_succ, Act.put, List.setIfInBounds_toArray, List.set_cons_zero, List.set_cons_succ]
    refine wpAnyH_take (i := 4) (v := .int .i64 (nc : Int)) rfl (by kernel_rfl) (by kernel_rfl) (by kernel_rfl) (fun _ _ _ h => h) (Or.inl ⟨by rfl, fun w h => by have h9 := h.2; go_simp⟩) (by assumption) ?_
    simp only [List.getElem_toArray, List.getElem_cons_zero, List.getElem_cons_succ, Act.put, List.setIfInBounds_toArray, List.set_cons_zero, List.set_cons_succ]
    refine wpAnyH_ready (rs := [2, 7]) (by kernel_rfl) (by simp) ?_
    refine AllReadyH.cons rfl (fun K hKK => ?_) (AllReadyH.cons rfl (fun K hKK => ?_) AllReadyH.nil)
    · skip
      go_simp
      refine (zeros_any na v0 (by omega)).mono ?_
      rintro e v1 ⟨A1, c1, rfl, p1, hb1⟩
      simp only [rep_len] at p1 ⊢
      have Kq := hide (Kq.out.keep hb1)
      have o1 := hide p1
      clear p1 hb1
      refine hKK.out _ _ ⟨Kq.out.bF.cell (j := 0) rfl, Kq.out.bF.cell (j := 4) rfl⟩ (fun hS1 => ?_)
      clear hKK
      refine wpAnyH_ready (rs := [5, 7]) (by kernel_rfl) (by simp) ?_
      refine AllReadyH.cons rfl (fun K hKK => ?_) (AllReadyH.cons rfl (fun K hKK => ?_) AllReadyH.nil)
      · skip
        go_simp
        refine (zeros_any nc v1 (by omega)).mono ?_
        rintro e v2 ⟨A2, c2, rfl, p2, hb2⟩
        simp only [rep_len] at p2 ⊢
        have Kq := hide (Kq.out.keep hb2)
        have o1 := hide (own_below o1.out hb2 (Nat.le_refl _))
        have o2 := hide p2
        clear p2 hb2
        refine hKK.out _ _ ⟨Kq.out.bF.cell (j := 0) rfl, Kq.out.bF.cell (j := 4) rfl⟩ (fun hS2 => ?_)
        clear hKK
        refine wpAnyH_take (i := 6) (v := .agg #[.int .i64 0, .slice none 0 0, .slice A1 na c1, .slice none 0 0, .slice A2 nc c2]) rfl (by kernel_rfl) (by kernel_rfl) (by kernel_rfl) (fun _ _ _ h => h) (Or.inl ⟨by rfl, fun w _ => by go_simp⟩) (by assumption) ?_
        simp only [List.getElem_toArray, List.getElem_cons_zero, List.getElem_cons_succ, Act.put, List.setIfInBounds_toArray, List.set_cons_zero, List.set_cons_succ]
        refine wpAnyH_ready (rs := [7]) (by kernel_rfl) (by simp) ?_
        refine AllReadyH.cons rfl (fun K hKK => ?_) AllReadyH.nil
        go_simp
        have bS := hide (Blk.new v2 66 [.int .i64 0, .slice none 0 0, .slice none 0 0, .slice none 0 0, .slice none 0 0])
        have hqw : q + 1 < v2.heap.size := Kq.out.bR.lt
        have hbA := (Below.refl _ v2).alloc (Nat.le_refl _) (.cells #[.int .i64 0, .slice none 0 0, .slice none 0 0, .slice none 0 0, .slice none 0 0] 66)
        have lS := hide hbA.size
        have Kq := hide (Kq.out.keep hbA)
        have h1ne := hide (fun k hk => (show k ≠ v2.heap.size by have := (o1.out.lt k hk).2; omega))
        have o1 := hide (o1.out.alloc (.cells #[.int .i64 0, .slice none 0 0, .slice none 0 0, .slice none 0 0, .slice none 0 0] 66))
        have h2ne := hide (fun k hk => (show k ≠ v2.heap.size by have := (o2.out.lt k hk).2; omega))
        have o2 := hide (o2.out.alloc (.cells #[.int .i64 0, .slice none 0 0, .slice none 0 0, .slice none 0 0, .slice none 0 0] 66))
        generalize v2.alloc (.cells #[.int .i64 0, .slice none 0 0, .slice none 0 0, .slice none 0 0, .slice none 0 0] 66) = v3 at bS hbA lS Kq o1 o2 ⊢
        obtain ⟨g, hg⟩ : ∃ g, v2.heap.size = g := ⟨_, rfl⟩
        rw [hg] at bS h1ne h2ne ⊢
        rw [hg] at hqw
        have HGg := hide hqw
        clear hqw
        have lS : Hid (g < v3.heap.size) := bS.out.lt
        clear hg hbA
        refine hKK.out _ _ ⟨Kq.out.bF.cell (j := 0) rfl, Kq.out.bF.cell (j := 4) rfl⟩ (fun hS3 => ?_)
        clear hKK
        refine wpAnyH_ready (rs := [8]) (by kernel_rfl) (by simp) ?_
        refine AllReadyH.cons rfl (fun K hKK => ?_) AllReadyH.nil
        have f0 := bS.out.frozen 0
        have f1 := bS.out.frozen 1
        have f2 := bS.out.frozen 2
        have f3 := bS.out.frozen 3
        have f4 := bS.out.frozen 4
        have z0 := bS.out.cell (j := 0) rfl
        have z1 := bS.out.cell (j := 1) rfl
        have z2 := bS.out.cell (j := 2) rfl
        have z3 := bS.out.cell (j := 3) rfl
        have z4 := bS.out.cell (j := 4) rfl
        go_simp
        have hall := raw_set  bS.out o1.out h1ne.out o2.out h2ne.out Kq.out HGg.out
        refine hKK.out _ _ hall.1 (fun hS9 => ?_)
        clear hKK
        refine wpAnyH_done (by kernel_rfl) ?_ _
        go_wp2_with fail
        go_meet
        exact hall.2
      · skip
        go_simp
        have bS := hide (Blk.new v1 66 [.int .i64 0, .slice none 0 0, .slice none 0 0, .slice none 0 0, .slice none 0 0])
        have hqw : q + 1 < v1.heap.size := Kq.out.bR.lt
        have hbA := (Below.refl _ v1).alloc (Nat.le_refl _) (.cells #[.int .i64 0, .slice none 0 0, .slice none 0 0, .slice none 0 0, .slice none 0 0] 66)
        have lS := hide hbA.size
        have Kq := hide (Kq.out.keep hbA)
        have h1ne := hide (fun k hk => (show k ≠ v1.heap.size by have := (o1.out.lt k hk).2; omega))
        have o1 := hide (o1.out.alloc (.cells #[.int .i64 0, .slice none 0 0, .slice none 0 0, .slice none 0 0, .slice none 0 0] 66))
        generalize v1.alloc (.cells #[.int .i64 0, .slice none 0 0, .slice none 0 0, .slice none 0 0, .slice none 0 0] 66) = v2 at bS hbA lS Kq o1 ⊢
        obtain ⟨g, hg⟩ : ∃ g, v1.heap.size = g := ⟨_, rfl⟩
        rw [hg] at bS h1ne ⊢
        rw [hg] at hqw
        have HGg := hide hqw
        clear hqw
        have lS : Hid (g < v2.heap.size) := bS.out.lt
        clear hg hbA
        refine hKK.out _ _ ⟨Kq.out.bF.cell (j := 0) rfl, Kq.out.bF.cell (j := 4) rfl⟩ (fun hS2 => ?_)
        clear hKK
        refine wpAnyH_ready (rs := [5]) (by kernel_rfl) (by simp) ?_
        refine AllReadyH.cons rfl (fun K hKK => ?_) AllReadyH.nil
        go_simp
        refine (zeros_any nc v2 (by omega)).mono ?_
        rintro e v3 ⟨A2, c2, rfl, p2, hb3⟩
        simp only [rep_len] at p2 ⊢
        have Kq := hide (Kq.out.keep hb3)
        have bS := hide (bS.out.keep hb3 bS.out.lt)
        have o1 := hide (own_below o1.out hb3 (Nat.le_refl _))
        have g2 := fun k hk => (p2.lt k hk).1
        have h2ne := hide (fun k hk => (show k ≠ g by have := g2 k hk; have := lS.out; omega))
        have o2 := hide p2
        clear p2 g2 hb3
        have lS : Hid (g < v3.heap.size) := bS.out.lt
        refine hKK.out _ _ ⟨Kq.out.bF.cell (j := 0) rfl, Kq.out.bF.cell (j := 4) rfl⟩ (fun hS3 => ?_)
        clear hKK
        refine wpAnyH_take (i := 6) (v := .agg #[.int .i64 0, .slice none 0 0, .slice A1 na c1, .slice none 0 0, .slice A2 nc c2]) rfl (by kernel_rfl) (by kernel_rfl) (by kernel_rfl) (fun _ _ _ h => h) (Or.inl ⟨by rfl, fun w _ => by go_simp⟩) (by assumption) ?_
        simp only [List.getElem_toArray, List.getElem_cons_zero, List.getElem_cons_succ, Act.put, List.setIfInBounds_toArray, List.set_cons_zero, List.set_cons_succ]
        refine wpAnyH_ready (rs := [8]) (by kernel_rfl) (by simp) ?_
        refine AllReadyH.cons rfl (fun K hKK => ?_) AllReadyH.nil
        have f0 := bS.out.frozen 0
        have f1 := bS.out.frozen 1
        have f2 := bS.out.frozen 2
        have f3 := bS.out.frozen 3
        have f4 := bS.out.frozen 4
        have z0 := bS.out.cell (j := 0) rfl
        have z1 := bS.out.cell (j := 1) rfl
        have z2 := bS.out.cell (j := 2) rfl
        have z3 := bS.out.cell (j := 3) rfl
        have z4 := bS.out.cell (j := 4) rfl
        go_simp
        have hall := raw_set  bS.out o1.out h1ne.out o2.out h2ne.out Kq.out HGg.out
        refine hKK.out _ _ hall.1 (fun hS9 => ?_)
        clear hKK
        refine wpAnyH_done (by kernel_rfl) ?_ _
        go_wp2_with fail
        go_meet
        exact hall.2
    · skip
      go_simp
      have bS := hide (Blk.new v0 66 [.int .i64 0, .slice none 0 0, .slice none 0 0, .slice none 0 0, .slice none 0 0])
      have hqw : q + 1 < v0.heap.size := Kq.out.bR.lt
      have hbA := (Below.refl _ v0).alloc (Nat.le_refl _) (.cells #[.int .i64 0, .slice none 0 0, .slice none 0 0, .slice none 0 0, .slice none 0 0] 66)
      have lS := hide hbA.size
      have Kq := hide (Kq.out.keep hbA)
      generalize v0.alloc (.cells #[.int .i64 0, .slice none 0 0, .slice none 0 0, .slice none 0 0, .slice none 0 0] 66) = v1 at bS hbA lS Kq ⊢
      obtain ⟨g, hg⟩ : ∃ g, v0.heap.size = g := ⟨_, rfl⟩
      rw [hg] at bS ⊢
      rw [hg] at hqw
      have HGg := hide hqw
      clear hqw
      have lS : Hid (g < v1.heap.size) := bS.out.lt
      clear hg hbA
      refine hKK.out _ _ ⟨Kq.out.bF.cell (j := 0) rfl, Kq.out.bF.cell (j := 4) rfl⟩ (fun hS1 => ?_)
      clear hKK
      refine wpAnyH_ready (rs := [2]) (by kernel_rfl) (by simp) ?_
      refine AllReadyH.cons rfl (fun K hKK => ?_) AllReadyH.nil
      go_simp
      refine (zeros_any na v1 (by omega)).mono ?_
      rintro e v2 ⟨A1, c1, rfl, p1, hb2⟩
      simp only [rep_len] at p1 ⊢
      have Kq := hide (Kq.out.keep hb2)
      have bS := hide (bS.out.keep hb2 bS.out.lt)
      have g1 := fun k hk => (p1.lt k hk).1
      have h1ne := hide (fun k hk => (show k ≠ g by have := g1 k hk; have := lS.out; omega))
      have o1 := hide p1
      clear p1 g1 hb2
      have lS : Hid (g < v2.heap.size) := bS.out.lt
      refine hKK.out _ _ ⟨Kq.out.bF.cell (j := 0) rfl, Kq.out.bF.cell (j := 4) rfl⟩ (fun hS2 => ?_)
      clear hKK
      refine wpAnyH_ready (rs := [5]) (by kernel_rfl) (by simp) ?_
      refine AllReadyH.cons rfl (fun K hKK => ?_) AllReadyH.nil
      go_simp
      refine (zeros_any nc v2 (by omega)).mono ?_
      rintro e v3 ⟨A2, c2, rfl, p2, hb3⟩
      simp only [rep_len] at p2 ⊢
      have Kq := hide (Kq.out.keep hb3)
      have bS := hide (bS.out.keep hb3 bS.out.lt)
      have o1 := hide (own_below o1.out hb3 (Nat.le_refl _))
      have g2 := fun k hk => (p2.lt k hk).1
      have h2ne := hide (fun k hk => (show k ≠ g by have := g2 k hk; have := lS.out; omega))
      have o2 := hide p2
      clear p2 g2 hb3
      have lS : Hid (g < v3.heap.size) := bS.out.lt
      refine hKK.out _ _ ⟨Kq.out.bF.cell (j := 0) rfl, Kq.out.bF.cell (j := 4) rfl⟩ (fun hS3 => ?_)
      clear hKK
      refine wpAnyH_take (i := 6) (v := .agg #[.int .i64 0, .slice none 0 0, .slice A1 na c1, .slice none 0 0, .slice A2 nc c2]) rfl (by kernel_rfl) (by kernel_rfl) (by kernel_rfl) (fun _ _ _ h => h) (Or.inl ⟨by rfl, fun w _ => by go_simp⟩) (by assumption) ?_
      simp only [List.getElem_toArray, List.getElem_cons_zero, List.getElem_cons_succ, Act.put, List.setIfInBounds_toArray, List.set_cons_zero, List.set_cons_succ]
      refine wpAnyH_ready (rs := [8]) (by kernel_rfl) (by simp) ?_
      refine AllReadyH.cons rfl (fun K hKK => ?_) AllReadyH.nil
      have f0 := bS.out.frozen 0
      have f1 := bS.out.frozen 1
      have f2 := bS.out.frozen 2
      have f3 := bS.out.frozen 3
      have f4 := bS.out.frozen 4
      have z0 := bS.out.cell (j := 0) rfl
      have z1 := bS.out.cell (j := 1) rfl
      have z2 := bS.out.cell (j := 2) rfl
      have z3 := bS.out.cell (j := 3) rfl
      have z4 := bS.out.cell (j := 4) rfl
      go_simp
      have hall := raw_set  bS.out o1.out h1ne.out o2.out h2ne.out Kq.out HGg.out
      refine hKK.out _ _ hall.1 (fun hS9 => ?_)
      clear hKK
      refine wpAnyH_done (by kernel_rfl) ?_ _
      go_wp2_with fail
      go_meet
      exact hall.2
  case rest =>
    clear K2 HQ2
    obtain ⟨g, b1, b2, A1, A2, c1, c2, rfl, bS, o1, o2, K, hg⟩ := hcut
    obtain ⟨ii, hi, h1⟩ := Option.map_eq_some_iff.1 infoN
    simp at h1
    obtain ⟨hz0, hz1, hz2⟩ := h1
    have s3 := bS.cell (j := 3) rfl
    have hqB : B ≤ q := by have := HQ.out; omega
    have hfr := HROW.out.2.2.1.keep (K.bl) hB
    have HS := hide (And.intro bS (And.intro o1 (And.intro o2 (And.intro K hg))))
    clear bS o1 o2 K hg
    go_upto_region 7 with (at_builtin; refine wpList_append_row rfl (.tmp 58) (.tmp 59) 25 rfl wc.heap.size 21 ii _ 4 Try.underlying25 hi hz0 hz1 hz2 rfl _ 0 [] rfl (World.ownsRow_nil _ _ _ _) B _ _ _ _ rfl hfr (c32_one _) (by unfold maxLen; omega) (by omega) wc (Below.refl _ _) (Nat.le_refl _) ?_; intro A3 c3 w3 ho3 hb3 hg3; simp only [Nat.zero_add, List.nil_append] at ho3; have sf := (HS.out.1.keep hb3 HS.out.1.lt).frozen 3; have s3 := (HS.out.1.keep hb3 HS.out.1.lt).cell (j := 3) rfl)
    have bS3 := HS.out.1.keep hb3 HS.out.1.lt
    have K3 := HS.out.2.2.2.1.keep hb3
    have p1 := own_below HS.out.2.1 hb3 (Nat.le_refl _)
    have p2 := own_below HS.out.2.2.1 hb3 (Nat.le_refl _)
    have hgg := HS.out.2.2.2.2
    have hk3 : ∀ k, k ≠ g → (w3.setCell ⟨g, 3, none⟩ (.slice A3 nb c3)).heap[k]? = w3.heap[k]? := fun k hk => heap_setCell_other _ ⟨g, 3, none⟩ k _ hk
    have hs3 : (w3.setCell ⟨g, 3, none⟩ (.slice A3 nb c3)).heap.size = w3.heap.size := by simp [World.setCell]
    have hroo := HROW.out.2.1.keep K3.bl hB
    have hroi := HROW.out.2.2.2.keep K3.bl hB
    have L4 : Hid (LS w q g B [.int .i64 (na : Int), .int .i64 (no : Int), .int .i64 (nb : Int), .int .i64 (ni : Int), .int .i64 (nc : Int)] none A1 A3 A2 oA iA (vini ⟨na, no, nb, ni, nc⟩ first).st.length 0 (vini ⟨na, no, nb, ni, nc⟩ first).sl.length c1 (vini ⟨na, no, nb, ni, nc⟩ first).ce.length c3 (vini ⟨na, no, nb, ni, nc⟩ first).ou.length c2 no oc ni ic (vini ⟨na, no, nb, ni, nc⟩ first) old ins (w3.setCell ⟨g, 3, none⟩ (.slice A3 nb c3))) := by
      have e1 : (vini ⟨na, no, nb, ni, nc⟩ first).sl.length = na := by simp [vini]
      have e2 : (vini ⟨na, no, nb, ni, nc⟩ first).ce.length = nb := HLF.out
      have e3 : (vini ⟨na, no, nb, ni, nc⟩ first).ou.length = nc := by simp [vini]
      have e4 : (vini ⟨na, no, nb, ni, nc⟩ first).sl = List.replicate na 0 := by simp [vini]
      have e5 : (vini ⟨na, no, nb, ni, nc⟩ first).ou = List.replicate nc 0 := by simp [vini]
      have e6 : (vini ⟨na, no, nb, ni, nc⟩ first).ce = first := rfl
      rw [e1, e2, e3]
      refine ⟨⟨K3.bF.other (by omega) 3 _, K3.bR.other (by omega) 3 _, below_set K3.bl (by have := K3.q0; omega) _, K3.q0⟩, bS3.set 3 _, ?_, hgg⟩
      rw [hs3]
      refine ⟨Row.none_, ?_, ?_, ?_, (hroo.more (by have := K3.bF.lt; omega)).off bS3 st_no hk3, (hroi.more (by have := K3.bF.lt; omega)).off bS3 st_no hk3⟩
      · rw [e4]; exact (Row.of_own p1).off bS3 st_no hk3
      · rw [e6]; exact (Row.of_own ho3).off bS3 st_no hk3
      · rw [e5]; exact (Row.of_own p2).off bS3 st_no hk3
    clear bS3 K3 p1 p2 hk3 hs3 hroo hroi hfr ho3 hb3 hg3 HS s3 sf hi hz0 hz1 hz2
    generalize w3.setCell ⟨g, 3, none⟩ (.slice A3 nb c3) = w4 at L4 ⊢
    go_wp2_with fail
    go_loopw [15] (fun i wr => ∃ (tA sA cA uA : Option Addr) (tc sc cc uc : Nat) (s : VS) (u : Nat), i = .int .i64 (u : Int) ∧ u ≤ F ∧ u ≤ s.p ∧ Hid (LS w q g B [.int .i64 (na : Int), .int .i64 (no : Int), .int .i64 (nb : Int), .int .i64 (ni : Int), .int .i64 (nc : Int)] tA sA cA uA oA iA s.st.length tc s.sl.length sc s.ce.length cc s.ou.length uc no oc ni ic s old ins wr ∧ VI ⟨na, no, nb, ni, nc⟩ l.length s ∧ vrun ⟨na, no, nb, ni, nc⟩ l old ins (F - u) u s = R)) (fun _ wr => n - posW wr g)
    case atStart => exact ⟨none, A1, A3, A2, 0, c1, c3, c2, _, 0, rfl, Nat.zero_le _, Nat.zero_le _, L4.out, HI.out, HR.out⟩
    case round =>
      clear L4 HI
      obtain ⟨tA, sA, cA, uA, tc, sc, cc, uc, s, u, rfl, huF, hup, HM⟩ := hrel
      have s0 := HM.out.1.b.cell (j := 0) rfl
      have s1 := HM.out.1.b.cell (j := 1) rfl
      have hln : l.length = n := HROW.out.1.len
      have hpl : s.p ≤ n := by have := HM.out.2.1.p; omega
      have HLN := hide hln
      clear hln
      have r0 := HM.out.1.K.bR.cell (j := 0) rfl
      have r1 := HM.out.1.K.bR.cell (j := 1) rfl
      have r2 := HM.out.1.K.bR.cell (j := 2) rfl
      have rf0 := HM.out.1.K.bR.frozen 0
      have rf1 := HM.out.1.K.bR.frozen 1
      have rf2 := HM.out.1.K.bR.frozen 2
      by_cases hlt : s.p < n
      · have hd1 : decide ((s.p : Int) < (n : Int)) = true := by simpa using hlt
        by_cases hf : u = F
        · have he : ((u : Int) == (F : Int)) = true := by rw [beq_iff_eq]; omega
          have HE := hide (show vend R = (14, [], [], 0) by rw [← HM.out.2.2, hf, Nat.sub_self, vrun_fuel (by have := HLN.out; omega)]; exact vm_fault (by simp))
          clear hf
          go_wp2
          exact qk_fault HM.out.1.K rfl rfl rfl rfl HE.out
        · have he : ((u : Int) == (F : Int)) = false := by rw [beq_eq_false_iff_ne]; omega
          go_upto_region 11 with (fail)
          clear s0 s1 r0 r1 r2 rf0 rf1 rf2
          refine wp_region_still_tail 9 (by kernel_rfl) (by kernel_rfl) ?_
          simp only [List.take_succ_cons, List.take_zero, List.drop_succ_cons, List.drop_zero]
          rw [show ({ heap := wr.heap, tape := wr.tape, drawn := wr.drawn + 1, os := wr.os, output := wr.output } : World) = wr.drew from rfl]
          have L5 := hide (HM.out.1.keep (Below.refl _ wr).drew)
          have HPO := hide (posW_is HM.out.1.b)
          generalize wr.drew = w5 at L5 ⊢
          obtain ⟨lb, loff, y, x, hA, _, hu, ci0, ci1, hx⟩ := (HROW.out.1.keep L5.out.K.bl hB).get hlt
          have HU := hide hu
          have HA := hide hA
          rw [hA]
          clear hu hA
          have s0 := L5.out.b.cell (j := 0) rfl
          have s1 := L5.out.b.cell (j := 1) rfl
          have s2 := L5.out.b.cell (j := 2) rfl
          have s3 := L5.out.b.cell (j := 3) rfl
          have s4 := L5.out.b.cell (j := 4) rfl
          have f0 := L5.out.K.bF.cell (j := 0) rfl
          have f1 := L5.out.K.bF.cell (j := 1) rfl
          have f2 := L5.out.K.bF.cell (j := 2) rfl
          have f3 := L5.out.K.bF.cell (j := 3) rfl
          have f4 := L5.out.K.bF.cell (j := 4) rfl
          repeat still_step
          refine wpStill_nil ?_
          clear s0 s1 s2 s3 s4 f0 f1 f2 f3 f4 ci0 ci1
          go_wp2_with fail
          have hp6 : s.p ≤ 600 := by omega
          have hc := rfault_any ⟨na, no, nb, ni, nc⟩ y x n s tA sA cA uA s.st.length tc s.sl.length sc s.ce.length cc s.ou.length uc w5.heap.size w5 (Nat.le_refl _) L5.out.r.rt hx HM.out.2.1.lt hp6 hn
          obtain ⟨er, her⟩ : ∃ er, vfault ⟨na, no, nb, ni, nc⟩ n y x s = er := ⟨_, rfl⟩
          rw [her] at hc
          have HER := hide her
          refine hc.mono ?_
          clear hc her
          rintro e w6 ⟨rfl, hb6⟩
          have L6 := hide (L5.out.keep hb6)
          clear L5 hb6
          by_cases hv : er = 0
          · have e1 : (er != 0) = false := by simpa using hv
            have hf0 : vfault ⟨na, no, nb, ni, nc⟩ l.length y x s = 0 := by rw [HLN.out, HER.out]; exact hv
            have HF0 := hide hf0
            have HGO := hide (show vrun ⟨na, no, nb, ni, nc⟩ l old ins (F - (u + 1)) (u + 1) (vstep old ins y x s) = R by rw [← HM.out.2.2, show F - u = (F - (u + 1)) + 1 by omega, vrun_go HU.out hf0])
            have HVI := hide (vi_step HM.out.2.1 (by have := HLN.out; omega) hf0 HG.out.2.1 HG.out.2.2 hx)
            have hpp := vstep_p (s := s) (old := old) (ins := ins) (o := y) (x := x)
            clear hf0 hv
            go_upto_region 14 with (fail)
            refine wp_region_still_tail 8 (by kernel_rfl) (by kernel_rfl) ?_
            simp only [List.take_succ_cons, List.take_zero, List.drop_succ_cons, List.drop_zero]
            rw [show ({ heap := w6.heap, tape := w6.tape, drawn := w6.drawn + 1, os := w6.os, output := w6.output } : World) = w6.drew from rfl]
            have L7 := hide (L6.out.keep (Below.refl _ w6).drew)
            clear L6
            generalize w6.drew = w7 at L7 ⊢
            obtain ⟨lb', loff', y', x', hA', _, hu', ci0, ci1, _⟩ := (HROW.out.1.keep L7.out.K.bl hB).get hlt
            rw [HU.out] at hu'
            obtain ⟨rfl, rfl⟩ : y = y' ∧ x = x' := by simpa using hu'
            rw [HA.out] at hA'
            obtain ⟨rfl, rfl⟩ : lb = lb' ∧ loff = loff' := by simpa using hA'
            clear hu' hA'
            have s0 := L7.out.b.cell (j := 0) rfl
            have s1 := L7.out.b.cell (j := 1) rfl
            have s2 := L7.out.b.cell (j := 2) rfl
            have s3 := L7.out.b.cell (j := 3) rfl
            have s4 := L7.out.b.cell (j := 4) rfl
            repeat still_step
            refine wpStill_nil ?_
            clear s0 s1 s2 s3 s4 ci0 ci1
            go_wp2_with fail
            have hc := rstep_any ⟨na, no, nb, ni, nc⟩ l.length y x tA sA cA uA oA iA s.st.length tc s.sl.length sc s.ce.length cc s.ou.length uc no oc ni ic w7.heap.size s old ins w7 (Nat.le_refl _) hp6 L7.out.r HM.out.2.1 HG.out.1 rfl rfl hx HF0.out
            obtain ⟨s', hs'⟩ : ∃ s', vstep old ins y x s = s' := ⟨_, rfl⟩
            rw [hs'] at hc hpp HGO HVI
            clear hs'
            refine hc.mono ?_
            clear hc
            rintro e w8 ⟨tA', tc', sA', sc', cA', cc', uA', uc', rfl, q1, q2, q3, q4, hb8⟩
            have bS8 := L7.out.b.keep hb8 L7.out.b.lt
            have hoo := L7.out.r.keep hb8 (Nat.le_refl _)
            have L9 := hide (LS.put (B := B) rfl (L7.out.K.keep hb8) bS8 L7.out.hg ⟨q1, q2, q3, q4, hoo.ro.more hb8.size, hoo.ri.more hb8.size⟩)
            have s0 := bS8.cell (j := 0) rfl
            have f0 := bS8.frozen 0
            have s1 := bS8.cell (j := 1) rfl
            have f1 := bS8.frozen 1
            have s2 := bS8.cell (j := 2) rfl
            have f2 := bS8.frozen 2
            have s3 := bS8.cell (j := 3) rfl
            have f3 := bS8.frozen 3
            have s4 := bS8.cell (j := 4) rfl
            have f4 := bS8.frozen 4
            clear bS8 hoo q1 q2 q3 q4 hb8 L7
            go_upto_region 15 with (fail)
            clear s0 s1 s2 s3 s4 f0 f1 f2 f3 f4
            generalize ((((w8.setCell ⟨g, 0, none⟩ (.int .i64 (s'.p : Int))).setCell ⟨g, 1, none⟩ (.slice tA' s'.st.length tc')).setCell ⟨g, 2, none⟩ (.slice sA' s'.sl.length sc')).setCell ⟨g, 3, none⟩ (.slice cA' s'.ce.length cc')).setCell ⟨g, 4, none⟩ (.slice uA' s'.ou.length uc') = w9 at L9 ⊢
            go_wp2_with fail
            rw [← HA.out]
            go_roundw
            case rel => exact ⟨tA', sA', cA', uA', tc', sc', cc', uc', s', u + 1, by go_num, by omega, by omega, L9.out, HVI.out, HGO.out⟩
            case measure => rw [HPO.out, posW_is L9.out.b]; omega
          · have e1 : (er != 0) = true := by simpa using hv
            have HE := hide (show vend R = (er, [], [], 0) by
              have hf0 : vfault ⟨na, no, nb, ni, nc⟩ l.length y x s = er := by rw [HLN.out, HER.out]
              rw [← HM.out.2.2, show F - u = (F - (u + 1)) + 1 by omega, vrun_bad HU.out (by rw [hf0]; exact hv), hf0]
              exact vm_fault hv)
            have r0 := L6.out.K.bR.cell (j := 0) rfl
            have r1 := L6.out.K.bR.cell (j := 1) rfl
            have r2 := L6.out.K.bR.cell (j := 2) rfl
            have rf0 := L6.out.K.bR.frozen 0
            have rf1 := L6.out.K.bR.frozen 1
            have rf2 := L6.out.K.bR.frozen 2
            go_wp2
            exact qk_fault L6.out.K rfl rfl rfl rfl HE.out
      · have hd1 : decide ((s.p : Int) < (n : Int)) = false := by simpa using hlt
        by_cases hz : s.st.length = 0
        · have hz2 : decide (0 < s.st.length) = false := by simp; exact List.eq_nil_of_length_eq_zero hz
          have HE := hide (show R = (0, u, s) by rw [← HM.out.2.2, vrun_end (by have := HLN.out; omega), if_pos hz])
          have s3 := HM.out.1.b.cell (j := 3) rfl
          have s4 := HM.out.1.b.cell (j := 4) rfl
          clear hz
          go_wp2
          rw [HE.out, vm_end rfl]
          have h0 := HM.out.1.K.q0
          have hgq := HM.out.1.hg
          have hk : ∀ k, k ≠ q + 1 → (((wr.setCell ⟨q + 1, 0, none⟩ (.slice cA s.ce.length cc)).setCell ⟨q + 1, 1, none⟩ (.slice uA s.ou.length uc)).setCell ⟨q + 1, 2, none⟩ (.int .i64 (u : Int))).heap[k]? = wr.heap[k]? := by
            intro k hk
            rw [heap_setCell_other _ ⟨q + 1, 2, none⟩ k _ hk, heap_setCell_other _ ⟨q + 1, 1, none⟩ k _ hk, heap_setCell_other _ ⟨q + 1, 0, none⟩ k _ hk]
          have hs : (((wr.setCell ⟨q + 1, 0, none⟩ (.slice cA s.ce.length cc)).setCell ⟨q + 1, 1, none⟩ (.slice uA s.ou.length uc)).setCell ⟨q + 1, 2, none⟩ (.int .i64 (u : Int))).heap.size = wr.heap.size := by simp [World.setCell]
          have hno : ∀ z ∈ [Value.slice none 0 0, .slice none 0 0, .int .i64 0], ∀ v, z ≠ Value.int .i32 v := by
            intro z hz v
            simp at hz
            rcases hz with rfl | rfl <;> simp
          refine ret_q rfl rfl rfl (((HM.out.1.K.bR.set 0 _).set 1 _).set 2 _) rfl ⟨cA, cc, uA, uc, rfl, ?_, ?_, below_set (below_set (below_set HM.out.1.K.bl (by omega) _) (by omega) _) (by omega) _⟩
          · rw [hs]; exact HM.out.1.r.rc.off HM.out.1.K.bR hno hk
          · rw [hs]; exact HM.out.1.r.ru.off HM.out.1.K.bR hno hk
        · have hz2 : decide (0 < s.st.length) = true := decide_eq_true (by omega)
          have HE := hide (show vend R = (12, [], [], 0) by rw [← HM.out.2.2, vrun_end (by have := HLN.out; omega), if_neg hz]; exact vm_fault (by simp))
          clear hz
          go_wp2
          exact qk_fault HM.out.1.K rfl rfl rfl rfl HE.out
theorem rRun_any (f : Fr) (A oA fA iA : Option Addr) (n cc no oc nf fc ni ic B : Nat) (fuel : Int) (l : List (Int × Int)) (old first ins : List Int) (w : World) (hB : B ≤ w.heap.size)
    (hl : RowI w B A n cc l) (ho : Row w B oA no oc (c32 old)) (hf : Row w B fA nf fc (c32 first)) (hi : Row w B iA ni ic (c32 ins)) (gf : rngL first) (go : rngL old) (gi : rngL ins) :
    Calls Try.prog 13 #[.slice A n cc, .agg #[.int .i64 f.s, .int .i64 f.o, .int .i64 f.n, .int .i64 f.i, .int .i64 f.u], .slice oA no oc, .slice fA nf fc, .slice iA ni ic, .int .i64 fuel] w
      (RunQ (vmV f l old first ins fuel) w) := by
  have lo : old.length = no := by have := ho.len; rwa [c32_len] at this
  have lf : first.length = nf := by have := hf.len; rwa [c32_len] at this
  have li : ins.length = ni := by have := hi.len; rwa [c32_len] at this
  by_cases hbad : vbad f no nf ni fuel
  · exact rRun_bad f A oA fA iA n cc no oc nf fc ni ic l old first ins fuel w lo lf li hbad
  · obtain ⟨F, rfl⟩ : ∃ F : Nat, fuel = (F : Int) := ⟨fuel.toNat, by have : ¬ fuel < 0 := fun h => hbad (.inr (.inr (.inr (.inr h)))); omega⟩
    by_cases h6 : 600 < n
    · exact rRun_big f A oA fA iA n cc no oc nf fc ni ic l old first ins F w lo lf li hl.len hbad h6
    · have ok : okF f := Decidable.byContradiction fun h => hbad (.inl h)
      have h1 : (no : Int) = f.o := Decidable.byContradiction fun h => hbad (.inr (.inl h))
      have h2 : (nf : Int) = f.n := Decidable.byContradiction fun h => hbad (.inr (.inr (.inl h)))
      have h3 : (ni : Int) = f.i := Decidable.byContradiction fun h => hbad (.inr (.inr (.inr (.inl h))))
      obtain ⟨s, o, n', i, u⟩ := f
      simp only at h1 h2 h3
      subst h1
      subst h2
      subst h3
      obtain ⟨na, rfl⟩ : ∃ na : Nat, s = (na : Int) := ⟨s.toNat, by have := ok.1; simp only at this; omega⟩
      obtain ⟨nc, rfl⟩ : ∃ nc : Nat, u = (nc : Int) := ⟨u.toNat, by have := ok.2.2.2.2; simp only at this; omega⟩
      exact rRun_main na no nf ni nc A oA fA iA n cc oc fc ic F B l old first ins w hB hl ho hf hi ok (by omega) gf go gi
end Go.Proofs.Ytmjelcoljmefeaa
