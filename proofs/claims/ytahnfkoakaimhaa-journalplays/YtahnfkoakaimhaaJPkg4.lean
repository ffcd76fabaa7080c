/-
  Contracts of package journal: survey.
-/
import Derived.Test.YtahnfkoakaimhaaJPkg3
import Derived.WalkMore
namespace Go.Proofs.Ytahnfkoakaimhaa
open Go.RowKit
set_option maxHeartbeats 2000000

theorem Row.tailed {P : Program} {w : World} {B n c : Nat} {A : Option Addr} {xs : List Value} (h : Row w B A n c xs) {t e : TypeId} (ht : P.underlying t = some (.slice e)) (hz : (P.info? e).map (·.size) = some 1) {lo : Nat} (h1 : lo ≤ n)
    (L : Int) (hL : L = lo) :
    ∃ A' c', (∀ W, (Instr.slice t (.slice A n c) (some (.int .i64 L)) none none).run P W = .ok (.slice A' (n - lo) c') W) ∧ Row w B A' (n - lo) c' (xs.drop lo) := by
  subst hL
  have hcut := h.cut h1 (Nat.le_refl _)
  rw [List.take_of_length_le (by rw [List.length_drop, h.len]; exact Nat.le_refl _)] at hcut
  refine ⟨_, _, fun W => ?_, hcut⟩
  have he : P.elem t = e := by simp [Program.elem, ht]
  have hs : ∀ W, (Go.sizeOf e).run P W = .ok 1 W := by
    intro W
    obtain ⟨i, hi, h1⟩ := Option.map_eq_some_iff.1 hz
    simp [sizeOf, typeInfo, hi, h1]
  have hc := h.cap
  rw [run_slice_l W t A n c (by rw [he]; exact ht) .i64 (lo : Int) (by omega) (by omega), he, hs]
  simp [Result.andThen, Go.sliced]
theorem Row.back {w w' : World} {B B' n c : Nat} {A : Option Addr} {xs : List Value} (h : Row w' B A n c xs) (hb : Below B' w w') (hB : B ≤ B') : Row w B A n c xs :=
  ⟨h.len, h.cap, h.max, h.nil, fun hn => by
    obtain ⟨b, o, e, hlt, hc⟩ := h.cells hn
    exact ⟨b, o, e, hlt, fun j u hu => (hb.cell (p := ⟨b, o + j, none⟩) (show b < B' by omega)).symm.trans (hc j u hu)⟩⟩
theorem cs32_drop (l : List UInt32) (k : Nat) : (cs32 l).drop k = cs32 (l.drop k) := by unfold cs32; rw [List.map_drop]
/-- The cells of what is known of a sector. -/
def svC (A : Option Addr) (k c : Nat) (s : SV) (cl : Bool) : List Value := [.slice A k c, .int .u32 (s.num : Int), .int .i64 (s.used : Int), .bool cl]
def Surv (w : World) (B : Nat) (l : List UInt32) (e : Ending) (w' : World) : Prop :=
  Below w.heap.size w w' ∧ ∃ A k c, e = .returned (.agg (svC A k c (walkW l) (cleanB l (walkW l).used)).toArray) ∧ Row w B A k c (cs32 (walkW l).rcd) ∧ (k = 0 → A = none ∧ c = 0)
def usedAt (w : World) (g : Nat) : Nat := match w.cell? ⟨g, 2, none⟩ with
  | some (.int _ u) => u.toNat
  | _ => 0
theorem usedAt_is {w : World} {g k c : Nat} {A : Option Addr} {s : SV} {cl : Bool} {t : TypeId} (h : Blk w g t (svC A k c s cl)) : usedAt w g = s.used := by
  unfold usedAt
  rw [h.cell (j := 2) rfl]
  exact Int.toNat_natCast _
theorem ret_struct {P : Program} {fn : Func} {R : Ending → World → Prop} {a : Act} {w : World} {p : Tmp} {ty t : TypeId} {g : Nat} {cs : List Value} {fs : Array Field} (h : fn.results = #[.cell p ty])
    (hu : P.underlying ty = some (.struct fs)) (hi : (P.info? ty).map (·.size) = some cs.length) (hp : a.tmps.getD p undef = .pointer (some ⟨g, 0, none⟩)) (hb : Blk w g t cs) (hd : a.defers = [])
    (hR : R (.returned (.agg cs.toArray)) w) : bodyPost P fn R .ret a w :=
  bodyPost_ret_by (results_cell_row h a.tmps w g t cs.toArray (0, 0) (.struct fs) hp hb hu rfl (by simpa using hi)) hd hR
theorem survey_any (B : Nat) (A : Option Addr) (n c : Nat) (l : List UInt32) (w : World) (hr : Row w B A n c (cs32 l)) (hB : B ≤ w.heap.size) (hn : n ≤ 256) :
    Calls Try.prog 37 #[.slice A n c] w (Surv w B l) := by
  have hln := hr.len
  rw [cs32_len] at hln
  go_enter Try.func37, Try.ntmps37
  go_wp2_with fail
  go_step3
  go_wp2_with fail
  go_step3
  go_wp2_with fail
  have br0 : Blk ((w.alloc (.cells #[.slice none 0 0, .int .u32 0, .int .i64 0, .bool false] 64)).alloc (.cells #[.slice none 0 0, .int .u32 0, .int .i64 0, .bool false] 64)) w.heap.size 64 (svC none 0 0 sv0 false) := (Blk.new w 64 (svC none 0 0 sv0 false)).alloc _
  have bc0 : Blk ((w.alloc (.cells #[.slice none 0 0, .int .u32 0, .int .i64 0, .bool false] 64)).alloc (.cells #[.slice none 0 0, .int .u32 0, .int .i64 0, .bool false] 64)) (w.heap.size + 1) 64 (svC none 0 0 sv0 false) := Blk.at _ 64 (svC none 0 0 sv0 false) (by simp)
  have hb0 : Below w.heap.size w ((w.alloc (.cells #[.slice none 0 0, .int .u32 0, .int .i64 0, .bool false] 64)).alloc (.cells #[.slice none 0 0, .int .u32 0, .int .i64 0, .bool false] 64)) := ((Below.refl _ w).alloc (Nat.le_refl _) _).alloc (by simp) _
  generalize (w.alloc (.cells #[.slice none 0 0, .int .u32 0, .int .i64 0, .bool false] 64)).alloc (.cells #[.slice none 0 0, .int .u32 0, .int .i64 0, .bool false] 64) = w1 at br0 bc0 hb0 ⊢
  go_loopw [] (fun wr => ∃ (A' : Option Addr) (k c' : Nat) (s : SV), Below w.heap.size w wr ∧ Blk wr w.heap.size 64 (svC none 0 0 sv0 false) ∧ Blk wr (w.heap.size + 1) 64 (svC A' k c' s false) ∧ Row w B A' k c' (cs32 s.rcd) ∧ (k = 0 → A' = none ∧ c' = 0) ∧ Hid (Ends l s (walkW l)) ∧ s.used ≤ n ∧ s.num ≤ 2147483647) (fun wr => n - usedAt wr (w.heap.size + 1))
  case atStart => exact ⟨none, 0, 0, sv0, hb0, br0, bc0, Row.none_, fun _ => ⟨rfl, rfl⟩, Ends.start l, Nat.zero_le _, Nat.zero_le _⟩
  case round =>
    clear hb0 br0 bc0
    obtain ⟨A', k, c', s, hb, br, bc, hrow, hnil, HE, hu, hnum⟩ := hrel
    have hbs := hb.size
    obtain ⟨A2, k2, hsl, hrow2⟩ := hr.tailed Try.underlying36 size32 (lo := s.used) hu (s.used : Int) rfl
    rw [cs32_drop] at hrow2
    have x2 : wr.cell? ⟨w.heap.size + 1, 2, none⟩ = some (.int .i64 (s.used : Int)) := bc.cell (j := 2) rfl
    go_wp2_with fail
    refine (valid_any B _ _ _ (l.drop s.used) wr (hrow2.keep hb hB) (by omega) (by omega)).mono ?_
    rintro e w4 ⟨hb4, hv⟩
    have bc4 := bc.keep hb4 bc.lt
    have br4 := br.keep hb4 br.lt
    have hb24 : Below w.heap.size w w4 := hb.trans (hb4.mono hbs)
    rcases hv with ⟨hv, rfl⟩ | ⟨N, r, A3, k3, c3, hv, rfl, hrow3⟩
    · have HW := hide (HE.out.last (show stepW l s = none by unfold stepW; rw [hv]))
      clear x2
      have HC := hide (ContainsFunc_any B A2 (n - s.used) k2 (l.drop s.used) w4 (hrow2.keep hb24 hB) (by omega))
      have y0 : w4.cell? ⟨w.heap.size + 1, 0, none⟩ = some (.slice A' k c') := bc4.cell (j := 0) rfl
      have y1 : w4.cell? ⟨w.heap.size + 1, 1, none⟩ = some (.int .u32 (s.num : Int)) := bc4.cell (j := 1) rfl
      have y2 : w4.cell? ⟨w.heap.size + 1, 2, none⟩ = some (.int .i64 (s.used : Int)) := bc4.cell (j := 2) rfl
      have y3 : w4.cell? ⟨w.heap.size + 1, 3, none⟩ = some (.bool false) := bc4.cell (j := 3) rfl
      have x0 : w4.cell? ⟨w.heap.size, 0, none⟩ = some (.slice none 0 0) := br4.cell (j := 0) rfl
      have x1 : w4.cell? ⟨w.heap.size, 1, none⟩ = some (.int .u32 0) := br4.cell (j := 1) rfl
      have x2 : w4.cell? ⟨w.heap.size, 2, none⟩ = some (.int .i64 0) := br4.cell (j := 2) rfl
      have x3 : w4.cell? ⟨w.heap.size, 3, none⟩ = some (.bool false) := br4.cell (j := 3) rfl
      have z3 := bc4.frozen 3
      have v0 := br4.frozen 0
      have v1 := br4.frozen 1
      have v2 := br4.frozen 2
      have v3 := br4.frozen 3
      have HBR := hide br4
      have HB := hide hb24
      have HX := hide (And.intro hrow hnil)
      clear br4 bc4 hb24 hrow hnil
      go_wp2_with (go_at_call 48; refine HC.out.mono ?_; rintro e w5 ⟨rfl, rfl⟩)
      try rw [Exit.noGoto_ret]
      refine ret_struct rfl Try.underlying64 (cs := svC A' k c' s ((l.drop s.used).all (· == ones32))) (by kernel_rfl) rfl (((((HBR.out.other (by omega) 3 _).set 0 _).set 1 _).set 2 _).set 3 _) rfl ?_
      refine ⟨(((((HB.out.setCell (by simp) _).setCell (by simp) _).setCell (by simp) _).setCell (by simp) _).setCell (by simp) _), A', k, c', ?_, ?_, HX.out.2⟩
      · rw [HW.out]; rfl
      · rw [HW.out]; exact HX.out.1
    · obtain ⟨hok, t, ht⟩ := laid_valid hv
      have h3 := hrow3.len
      rw [cs32_len] at h3
      have hk64 : k3 ≤ 64 := by have := hok.2.2.2; omega
      have hk1 : 1 ≤ k3 := by have := hok.2.2.1; omega
      have hNb : 1 ≤ N ∧ N ≤ 2147483647 := ⟨hok.1, hok.2.1⟩
      have t0 : ((N : Int) == 0) = false := by rw [beq_eq_false_iff_ne]; omega
      obtain ⟨m1, hm1, HM1⟩ : ∃ m1 : Nat, IntKind.u32.wrap ((s.num : Int) + 1) = (m1 : Int) ∧ Hid (m1 = s.num + 1) := ⟨s.num + 1, by simp only [IntKind.wrap, IntKind.bits, IntKind.signed]; simp; omega, rfl⟩
      have HL3 := hide h3
      by_cases hgo : s.num = 0 ∨ N = s.num + 1
      · have HS := hide (show stepW l s = some ⟨N, r, s.used + (r.length + 4)⟩ by unfold stepW; rw [hv]; exact if_pos hgo)
        have key : (((s.num : Int) != 0) = false) ∨ (((s.num : Int) != 0) = true ∧ ((N : Int) != (m1 : Int)) = false) := by
          simp only [bne_iff_ne, bne_eq_false_iff_eq]; have := HM1.out; omega
        have HN := hide (And.intro hNb hnum)
        have HK := hide (And.intro hk1 (hrow3.back hb hB))
        clear hgo hv ht hok t hrow hnil h3 hNb hnum hrow3 x2 hk1
        have y0 : w4.cell? ⟨w.heap.size + 1, 0, none⟩ = some (.slice A' k c') := bc4.cell (j := 0) rfl
        have y1 : w4.cell? ⟨w.heap.size + 1, 1, none⟩ = some (.int .u32 (s.num : Int)) := bc4.cell (j := 1) rfl
        have y2 : w4.cell? ⟨w.heap.size + 1, 2, none⟩ = some (.int .i64 (s.used : Int)) := bc4.cell (j := 2) rfl
        have z0 := bc4.frozen 0
        have z1 := bc4.frozen 1
        have z2 := bc4.frozen 2
        have HBR := hide br4
        have HBC := hide bc4
        have HB := hide hb24
        have HU := hide (usedAt_is bc)
        clear br4 bc4 hb24 bc br
        rcases key with e1 | ⟨e1, e2⟩
        all_goals
          have e8 : ((s.used + (r.length + 4) : Nat) : Int) = (s.used : Int) + (2 + (k3 : Int) + 2) := by have := HL3.out; omega
          have e9 : svC A3 k3 c3 ⟨N, r, s.used + (r.length + 4)⟩ false = [.slice A3 k3 c3, .int .u32 (N : Int), .int .i64 ((s.used : Int) + (2 + (k3 : Int) + 2)), .bool false] := by unfold svC; rw [e8]
          have hu2 := stepW_used HS.out
          have f1 : Below w.heap.size w (((w4.setCell ⟨w.heap.size + 1, 0, none⟩ (.slice A3 k3 c3)).setCell ⟨w.heap.size + 1, 1, none⟩ (.int .u32 (N : Int))).setCell ⟨w.heap.size + 1, 2, none⟩ (.int .i64 ((s.used : Int) + (2 + (k3 : Int) + 2)))) := ((HB.out.setCell (by simp) _).setCell (by simp) _).setCell (by simp) _
          have f2 : Blk (((w4.setCell ⟨w.heap.size + 1, 0, none⟩ (.slice A3 k3 c3)).setCell ⟨w.heap.size + 1, 1, none⟩ (.int .u32 (N : Int))).setCell ⟨w.heap.size + 1, 2, none⟩ (.int .i64 ((s.used : Int) + (2 + (k3 : Int) + 2)))) w.heap.size 64 (svC none 0 0 sv0 false) := ((HBR.out.other (by omega) 0 _).other (by omega) 1 _).other (by omega) 2 _
          have f3 : Blk (((w4.setCell ⟨w.heap.size + 1, 0, none⟩ (.slice A3 k3 c3)).setCell ⟨w.heap.size + 1, 1, none⟩ (.int .u32 (N : Int))).setCell ⟨w.heap.size + 1, 2, none⟩ (.int .i64 ((s.used : Int) + (2 + (k3 : Int) + 2)))) (w.heap.size + 1) 64 (svC A3 k3 c3 ⟨N, r, s.used + (r.length + 4)⟩ false) := by
            rw [e9]; exact ((HBC.out.set 0 (.slice A3 k3 c3)).set 1 (.int .u32 (N : Int))).set 2 (.int .i64 ((s.used : Int) + (2 + (k3 : Int) + 2)))
          have F1 := hide f1
          have F2 := hide f2
          have F3 := hide f3
          have HU2 := hide hu2
          clear f1 f2 f3 e8 e9 hu2
          go_wp2
          generalize ((w4.setCell ⟨w.heap.size + 1, 0, none⟩ (.slice A3 k3 c3)).setCell ⟨w.heap.size + 1, 1, none⟩ (.int .u32 (N : Int))).setCell ⟨w.heap.size + 1, 2, none⟩ (.int .i64 ((s.used : Int) + (2 + (k3 : Int) + 2))) = w9 at F1 F2 F3 ⊢
          clear y0 y1 y2 z0 z1 z2
          go_roundw
          case rel => exact ⟨A3, k3, c3, ⟨N, r, s.used + (r.length + 4)⟩, F1.out, F2.out, F3.out, HK.out.2, fun h => absurd h (by have := HK.out.1; omega), HE.out.next HS.out, by rw [← hln]; exact HU2.out.2, HN.out.1.2⟩
          case measure =>
            rw [usedAt_is F3.out, HU.out]
            have := HU2.out
            show n - (s.used + (r.length + 4)) < n - s.used
            have h5 : s.used + (r.length + 4) ≤ l.length := HU2.out.2
            omega
      · have HW := hide (HE.out.last (show stepW l s = none by unfold stepW; rw [hv]; exact if_neg hgo))
        have e1 : ((s.num : Int) != 0) = true := by rw [bne_iff_ne]; omega
        have e2 : ((N : Int) != (m1 : Int)) = true := by rw [bne_iff_ne]; have := HM1.out; omega
        have HU := hide hu
        clear hgo hv ht hok t h3 hNb hnum hrow3 hk1 hk64 HE
        clear x2
        have HC := hide (ContainsFunc_any B A2 (n - s.used) k2 (l.drop s.used) w4 (hrow2.keep hb24 hB) (by omega))
        have y0 : w4.cell? ⟨w.heap.size + 1, 0, none⟩ = some (.slice A' k c') := bc4.cell (j := 0) rfl
        have y1 : w4.cell? ⟨w.heap.size + 1, 1, none⟩ = some (.int .u32 (s.num : Int)) := bc4.cell (j := 1) rfl
        have y2 : w4.cell? ⟨w.heap.size + 1, 2, none⟩ = some (.int .i64 (s.used : Int)) := bc4.cell (j := 2) rfl
        have y3 : w4.cell? ⟨w.heap.size + 1, 3, none⟩ = some (.bool false) := bc4.cell (j := 3) rfl
        have x0 : w4.cell? ⟨w.heap.size, 0, none⟩ = some (.slice none 0 0) := br4.cell (j := 0) rfl
        have x1 : w4.cell? ⟨w.heap.size, 1, none⟩ = some (.int .u32 0) := br4.cell (j := 1) rfl
        have x2 : w4.cell? ⟨w.heap.size, 2, none⟩ = some (.int .i64 0) := br4.cell (j := 2) rfl
        have x3 : w4.cell? ⟨w.heap.size, 3, none⟩ = some (.bool false) := br4.cell (j := 3) rfl
        have z3 := bc4.frozen 3
        have v0 := br4.frozen 0
        have v1 := br4.frozen 1
        have v2 := br4.frozen 2
        have v3 := br4.frozen 3
        have HBR := hide br4
        have HB := hide hb24
        have HX := hide (And.intro hrow hnil)
        clear br4 bc4 hb24 hrow hnil
        go_wp2_with (go_at_call 48; refine HC.out.mono ?_; rintro e w5 ⟨rfl, rfl⟩)
        try rw [Exit.noGoto_ret]
        refine ret_struct rfl Try.underlying64 (cs := svC A' k c' s ((l.drop s.used).all (· == ones32))) (by kernel_rfl) rfl (((((HBR.out.other (by omega) 3 _).set 0 _).set 1 _).set 2 _).set 3 _) rfl ?_
        refine ⟨(((((HB.out.setCell (by simp) _).setCell (by simp) _).setCell (by simp) _).setCell (by simp) _).setCell (by simp) _), A', k, c', ?_, ?_, HX.out.2⟩
        · rw [HW.out]; rfl
        · rw [HW.out]; exact HX.out.1
end Go.Proofs.Ytahnfkoakaimhaa
