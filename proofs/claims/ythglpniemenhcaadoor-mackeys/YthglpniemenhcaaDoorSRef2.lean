/-
  Contracts of the reference of layer 4 (midstreamref04): First, ks, Step.
-/
import Derived.Test.YthglpniemenhcaaDoorSPkg3
import Derived.Test.YthglpniemenhcaaDoorSRef
namespace Go.Proofs.YthglpniemenhcaaDoor
open Go.RowKit
set_option maxHeartbeats 800000

theorem rFirst_any (w : World) : Calls Tryd.prog 36 #[] w fun e w' => e = .returned (.agg (cs32 firstL).toArray) ∧ Below w.heap.size w w' := by
  go_enter Tryd.func36, Tryd.ntmps36
  go_wp2
  exact ret_cell (cs := cs32 firstL) rfl Tryd.underlying45 size8w rfl (Blk.at _ _ _ rfl) rfl rfl ⟨rfl, (Below.refl _ _).alloc (Nat.le_refl _) _⟩
theorem wpList_buildB {P : Program} {ops : Array Oper} {rest : List Oper} {o : Oper} {a : Act} {w : World} {Q : Exit → Act → World → Prop} (hg : o.guard = none) (t : TypeId) (parts : Array (Nat × Operand)) (ho : o.op = .build t parts) (cs : List Value)
    (hf : P.built t (parts.map fun (i, x) => (i, a.eval x)).toList = some cs.toArray) (h : wpList P ops Q rest (a.put o.dst (.agg cs.toArray)) w) : wpList P ops Q (o :: rest) a w := by
  refine wpList_build hg t parts ho ?_ ?_
  · rw [hf]; rfl
  · rw [hf]; exact h
set_option maxRecDepth 10000 in
theorem ks_any (w : World) : Calls Tryd.prog 42 #[] w fun e w' => e = .returned (.agg (cs32 kL).toArray) ∧ Below w.heap.size w w' := by
  go_enter Tryd.func42, Tryd.ntmps42
  go_wp2_with (first
    | (refine wpList_buildB rfl 58 _ rfl (cs32 kL) (by kernel_rfl) ?_)
    | (refine wpList_storeB rfl 58 (.tmp 0) (.tmp 1) rfl w.heap.size (cs32 kL) rfl rfl 58 (zeros32 64) (Blk.at _ _ _ rfl) 64 size64w rfl rfl (cs32_one _) ?_))
  refine ret_cell rfl Tryd.underlying58 size64w rfl (Blk.row (Blk.at (cs := zeros32 64) _ _ rfl) _) rfl rfl ?_
  exact ⟨rfl, below_setRow ((Below.refl _ _).alloc (Nat.le_refl _) _) (Nat.le_refl _) _⟩
theorem quiet_turned (x : UInt32) (N : Int) (w : World) (k : Nat) (h1 : 0 ≤ N) (h2 : N ≤ 31) : Calls Tryd.prog 43 #[.int .u32 (x.toNat : Int), .int .i64 N] (w.drewN k) fun e w'' => e = .returned (.int .u32 ((rU N.toNat x).toNat : Int)) ∧ ∃ m, w'' = w.drewN m :=
  Calls.quiet_of_same ((turned_at x N (w.drewN k) h1 h2).mono fun _ _ ⟨h, h'⟩ => ⟨h, h'.symm⟩)
set_option maxRecDepth 10000 in
theorem rStep_bad (A : Option Addr) (n c : Nat) (l : List UInt8) (s : List UInt32) (w : World) (hn : l.length = n) (h64 : n ≠ 64) :
    Calls Tryd.prog 37 #[.agg (cs32 s).toArray, .slice A n c] w (StepPost w s l) := by
  have hd : ((n : Int) != 64) = true := by rw [bne_iff_ne]; omega
  have HL := hide hn
  clear hn
  go_enter Tryd.func37, Tryd.ntmps37
  go_wp2_with (first
    | (refine wpList_storeB rfl 45 (.tmp 4) (.tmp 20) rfl (w.heap.size + 1) (zeros32 8) rfl rfl 45 (zeros32 8) (Blk.at _ _ _ (by simp)) 8 size8w rfl rfl (by simp [zeros32, Value.oneCell']) ?_))
  refine ret_cell2 rfl Tryd.underlying45 size8w rfl rfl (Blk.row (Blk.at _ _ _ (by simp)) _) rfl rfl ?_
  refine ⟨?_, below_setRow (((Below.refl _ w).alloc (Nat.le_refl _) _).alloc (by simp) _) (by simp) _⟩
  unfold stS stE
  rw [if_neg (by rw [HL.out]; exact h64), if_neg (by rw [HL.out]; exact h64)]
  rfl
theorem sub_w (a : UInt32) : (4294967295 : Int) - (a.toNat : Int) = ((iU a).toNat : Int) := by
  rw [iU_toNat]; have := a.toNat_lt; omega
set_option maxRecDepth 10000 in
theorem rStep_ok (B : Nat) (A : Option Addr) (c : Nat) (l : List UInt8) (s : List UInt32) (w : World) (hr : Row w B A 64 c (cs8 l)) (hB : B ≤ w.heap.size) (hs : s.length = 8) :
    Calls Tryd.prog 37 #[.agg (cs32 s).toArray, .slice A 64 c] w (StepPost w s l) := by
  have hsl : (cs32 s).length = 8 := by rw [cs32_len]; exact hs
  have hkl : (cs32 kL).length = 64 := rfl
  go_enter Tryd.func37, Tryd.ntmps37
  go_wp2_with fail
  generalize hw : World.alloc _ _ = w1
  have hb : Below w.heap.size w w1 := by rw [← hw]; exact ((Below.refl _ w).alloc (Nat.le_refl _) _).alloc (by simp) _
  have hb0 : Blk w1 w.heap.size 45 (cs32 s) := by rw [← hw]; exact (Blk.at _ _ _ rfl).alloc _
  have hb1 : Blk w1 (w.heap.size + 1) 45 (zeros32 8) := by rw [← hw]; exact Blk.at _ _ _ (by simp)
  clear hw
  have hs1 := hb.size
  have hl1 := hb1.lt
  refine (words_any B A c l w1 (hr.keep hb hB) (by omega)).mono ?_
  rintro e w2 ⟨A2, c2, rfl, ho2, hbw⟩
  replace hb0 := hb0.keep hbw (by omega)
  replace hb1 := hb1.keep hbw hl1
  replace hb := hb.trans (hbw.mono hs1)
  have hr2 := Row.of_own ho2
  clear hbw hl1 hs1 ho2
  go_wp2_with fail
  have hs2 := hb.size
  have hl1 := hb1.lt
  refine (ks_any w2).mono ?_
  rintro e w3 ⟨rfl, hbw⟩
  replace hb0 := hb0.keep hbw (by omega)
  replace hb1 := hb1.keep hbw hl1
  replace hb := hb.trans (hbw.mono hs2)
  replace hr2 := hr2.keep hbw (Nat.le_refl _)
  have hs23 := hbw.size
  clear hbw hs2
  have hs3 := hb.size
  go_wp2_with (first
    | (refine wpList_storeB rfl 58 (.tmp 7) (.tmp 23) rfl w3.heap.size (cs32 kL) rfl rfl 58 (zeros32 64) (Blk.at _ _ _ rfl) 64 size64w hkl rfl (cs32_one _) ?_)
    | (refine wpList_loadB rfl 45 (.tmp 2) rfl w.heap.size rfl 45 (cs32 s) ((hb0.alloc _).rowOther (by omega) _) 8 44 Tryd.underlying45 size8w hsl ?_)
    | (refine wpList_storeB rfl 45 (.tmp 8) (.tmp 24) rfl (w3.heap.size + 1) (cs32 s) rfl rfl 45 (zeros32 8) (Blk.at _ _ _ (by simp)) 8 size8w hsl rfl (cs32_one _) ?_))
  generalize hw : World.setRow _ _ _ = w4
  have hk4 : Blk w4 w3.heap.size 58 (cs32 kL) := by rw [← hw]; exact ((Blk.row (Blk.at (cs := zeros32 64) _ _ rfl) _).alloc _).rowOther (by omega) _
  have hb2 : Blk w4 (w3.heap.size + 1) 45 (cs32 s) := by rw [← hw]; exact Blk.row (Blk.at (cs := zeros32 8) _ _ (by simp)) _
  have hw34 : Below w3.heap.size w3 w4 := by rw [← hw]; exact below_setRow ((below_setRow ((Below.refl _ _).alloc (Nat.le_refl _) _) (Nat.le_refl _) _).alloc (by simp) _) (by omega) _
  clear hw
  replace hb0 := hb0.keep hw34 (by omega)
  replace hb1 := hb1.keep hw34 (by omega)
  replace hr2 := hr2.keep hw34 hs23
  replace hb := hb.trans (hw34.mono hs3)
  clear hw34
  go_loopw [9] (fun i wr => ∃ (j : Nat), j ≤ 64 ∧ i = .int .i64 (j : Int) ∧ Blk wr w.heap.size 45 (cs32 s) ∧ Blk wr (w.heap.size + 1) 45 (zeros32 8) ∧ Blk wr w3.heap.size 58 (cs32 kL) ∧ Blk wr (w3.heap.size + 1) 45 (cs32 (rnds kL (schedW l) s j)) ∧ Row wr w2.heap.size A2 64 c2 (cs32 (schedW l)) ∧ Below w.heap.size w wr) (fun i _ => 64 - (intOf i).toNat)
  case atStart => exact ⟨0, Nat.zero_le _, rfl, hb0, hb1, hk4, hb2, hr2, hb⟩
  case round =>
    clear hb0 hb1 hk4 hb2 hr2 hb
    obtain ⟨j, hj, rfl, hb0, hb1, hk4, hb2, hr2, hb⟩ := hrel
    have hbs := hb.size
    by_cases hlt : j < 64
    · obtain ⟨b2, o2, u2, rfl, _, hu2, hcw⟩ := hr2.get hlt
      rw [cs32_at (show j < (schedW l).length by rw [schedW_len]; exact hlt), nth_at] at hu2
      obtain rfl := Option.some.inj hu2
      clear hu2
      have hck := hk4.cell (j := j) (v := .int .u32 ((nth kL j).toNat : Int)) (by rw [cs32_at (show j < kL.length by rw [kL_len]; exact hlt), nth_at])
      have HR : Hid (rnd (rnds kL (schedW l) s j) (aU (nth kL j) (nth (schedW l) j)) = rnds kL (schedW l) s (j + 1)) := rfl
      obtain ⟨a, b, c', d, e, f, g, h, h8⟩ := eight (rnds_len kL (schedW l) hs j)
      rw [h8] at hb2 HR
      obtain ⟨c0, c1, c2', c3, c4, c5, c6, c7⟩ := eight_cells hb2
      clear h8
      generalize nth kL j = xk at *
      generalize nth (schedW l) j = xw at *
      have ha := add_w
      have hx := xor_w
      have hn := and_w
      have ho := or_w
      have hsb := sub_w e
      have hel := e.toNat_lt
      go_wp2_with (go_at_call 43; refine (turned_at _ _ _ (by omega) (by omega)).mono ?_; rintro e' w' ⟨rfl, rfl⟩)
      go_quiet (first | (go_at_call 43; exact quiet_turned _ _ _ _ (by omega) (by omega)))
      rw [aU_assoc _ xk xw]
      have h0d := hb0.drewN nq
      have h1d := hb1.drewN nq
      have hkd := hk4.drewN nq
      have h2d := hb2.drewN nq
      have hrd := hr2.keep (below_drewN _ wr nq) (Nat.le_refl _)
      have hbd := hb.trans (below_drewN _ wr nq)
      clear hb0 hb1 hk4 hb2 hr2 hb hck hcw c0 c1 c2' c3 c4 c5 c6 c7
      generalize wr.drewN nq = w5 at h0d h1d hkd h2d hrd hbd ⊢
      obtain ⟨c0, c1, c2', c3, c4, c5, c6, c7⟩ := eight_cells h2d
      have hl : (cs32 (rnds kL (schedW l) s (j + 1))).length = 8 := by rw [cs32_len, rnds_len _ _ hs]
      go_wp2_with (first
        | (go_at_call 43; refine (turned_at _ _ _ (by omega) (by omega)).mono ?_; rintro e' w' ⟨rfl, rfl⟩)
        | (refine wpList_storeB rfl 45 (.tmp 8) (.tmp 109) rfl _ (cs32 (rnd [a, b, c', d, e, f, g, h] (aU xk xw))) rfl rfl 45 _ h2d 8 size8w rfl rfl (cs32_one _) ?_))
      go_roundw
      case rel =>
        rw [HR.out]
        exact ⟨j + 1, by omega, by go_num, h0d.rowOther (by omega) _, h1d.rowOther (by omega) _, hkd.rowOther (by omega) _, h2d.row _, hrd.keep (below_setRow (Below.refl w2.heap.size _) (by omega) _) (Nat.le_refl _), below_setRow hbd (by omega) _⟩
      case measure => simp [intOf]; omega
    · have e64 : j = 64 := by omega
      rw [e64] at hb2
      clear e64 hr2 hk4
      have HP := hide (plusL_comm (rnds kL (schedW l) s 64) s)
      have hdj : decide ((j : Int) < 64) = false := by simp; omega
      have hv8 := rnds_len kL (schedW l) hs 64
      have hq : stE l = 0 := if_pos (by have := hr.len; rwa [cs8_len] at this)
      have hq2 : stS s l = stepL s l := if_pos (by have := hr.len; rwa [cs8_len] at this)
      have HQ : Hid (plusL (rnds kL (schedW l) s 64) s = stepL s l) := HP.out
      clear HP
      generalize rnds kL (schedW l) s 64 = v at *
      go_wp2
      clear hj hlt
      go_loopw [16] (fun i wr => ∃ (m : Nat), m ≤ 8 ∧ i = .int .i64 (m : Int) ∧ Blk wr w.heap.size 45 (cs32 s) ∧ Blk wr (w.heap.size + 1) 45 (zeros32 8) ∧ Blk wr (w3.heap.size + 1) 45 (cs32 (plusK v s m)) ∧ Below w.heap.size w wr) (fun i _ => 8 - (intOf i).toNat)
      case atStart => exact ⟨0, Nat.zero_le _, rfl, hb0, hb1, hb2, hb⟩
      case round =>
        clear hb0 hb1 hb2 hb hbs
        obtain ⟨m, hm, rfl, hb0, hb1, hb2, hb⟩ := hrel
        have hbs := hb.size
        by_cases hlt : m < 8
        · have hc := hb2.cell (j := m) (v := .int .u32 (v[m].toNat : Int)) (by simp [cs32, plusK_at (hv8.trans hs.symm) (show m < v.length by omega)])
          have hc0 := hb0.cell (j := m) (v := .int .u32 (s[m].toNat : Int)) (cs32_at (by omega))
          have ha := add_w v[m] s[m]
          have HN := hide (plusK_next (hv8.trans hs.symm) (show m < v.length by omega) (by omega))
          have h0d := hb0.drew
          have h1d := hb1.drew
          have h2d := hb2.drew
          have hbd := hb.drew
          have hci := hc
          go_wp2
          go_still_tail 9, (by kernel_rfl)
          change wpList _ _ _ _ _ wr.drew
          clear hb0 hb1 hb2 hb hc hc0
          have hc : wr.drew.cell? ⟨w3.heap.size + 1, m, none⟩ = _ := hci
          clear hci
          generalize wr.drew = w5 at h0d h1d h2d hbd hc ⊢
          have hfz := h2d.frozen m
          have HS := hide (h2d.set m (.int .u32 ((aU v[m] s[m]).toNat : Int)))
          have H0 := hide (h0d.other (h := w3.heap.size + 1) (by omega) m (.int .u32 ((aU v[m] s[m]).toNat : Int)))
          have H1 := hide (h1d.other (h := w3.heap.size + 1) (by omega) m (.int .u32 ((aU v[m] s[m]).toNat : Int)))
          have HB := hide (hbd.setCell (p := ⟨w3.heap.size + 1, m, none⟩) (show w.heap.size ≤ w3.heap.size + 1 by omega) (.int .u32 ((aU v[m] s[m]).toNat : Int)))
          clear h0d h1d h2d hbd
          go_wp2
          go_roundw
          case rel =>
            rw [cs32_set, HN.out] at HS
            exact ⟨m + 1, by omega, by go_num, H0, H1, HS, HB⟩
          case measure => simp [intOf]; omega
        · obtain rfl : m = 8 := by omega
          have he := plusK_end (hv8.trans hs.symm)
          rw [hv8, HQ.out] at he
          rw [he] at hb2
          have hl4 : (cs32 (stepL s l)).length = 8 := by rw [cs32_len, stepL_len hs]
          go_wp2_with (first
            | (refine wpList_loadB rfl 45 (.tmp 8) rfl _ rfl 45 _ hb2 8 44 Tryd.underlying45 size8w hl4 ?_)
            | (refine wpList_storeB rfl 45 (.tmp 4) (.tmp 123) rfl _ (cs32 (stepL s l)) rfl rfl 45 _ hb1 8 size8w hl4 rfl (cs32_one _) ?_))
          refine ret_cell2 rfl Tryd.underlying45 size8w rfl rfl (hb1.row _) hl4 rfl ?_
          refine ⟨?_, below_setRow hb (by omega) _⟩
          rw [hq, hq2]
          rfl
theorem rStep_any (B : Nat) (A : Option Addr) (n c : Nat) (l : List UInt8) (s : List UInt32) (w : World) (hr : Row w B A n c (cs8 l)) (hB : B ≤ w.heap.size) (hs : s.length = 8) :
    Calls Tryd.prog 37 #[.agg (cs32 s).toArray, .slice A n c] w (StepPost w s l) := by
  by_cases h : n = 64
  · subst h; exact rStep_ok B A c l s w hr hB hs
  · exact rStep_bad A n c l s w (by have := hr.len; rwa [cs8_len] at this) h
end Go.Proofs.YthglpniemenhcaaDoor
