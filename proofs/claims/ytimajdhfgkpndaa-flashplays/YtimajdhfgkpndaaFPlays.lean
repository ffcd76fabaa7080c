/-
  The walk of the law FlashPlays.
-/
import Derived.Test.YtimajdhfgkpndaaFFrame2
import Derived.Deep.RegionHeld3
namespace Go.Proofs.Ytimajdhfgkpndaa
open Go.RowKit
set_option maxHeartbeats 4000000

theorem Ops.get {w w' : World} {A : Option Addr} {n c : Nat} {os : List (Int × Int × UInt32)} (h : Ops w A n c os) (k : Keeps [] w w') {j : Nat} (hj : j < n) :
    ∃ (b f : Nat) (kd at_ : Int) (v : UInt32), A = some ⟨b, f, none⟩ ∧ b < w.heap.size ∧ w'.cell? ⟨b, f + j * 3, none⟩ = some (.int .i64 kd) ∧ w'.cell? ⟨b, f + j * 3 + 1, none⟩ = some (.int .i64 at_) ∧ w'.cell? ⟨b, f + j * 3 + 2, none⟩ = some (.int .u32 (v.toNat : Int)) ∧ at_ ≤ 9223372036854775807 := by
  have hl : j < os.length := by have := h.len; omega
  have he := List.getElem?_eq_getElem hl
  obtain ⟨b, f, hA, hb, hc⟩ := h.cells j _ he
  have hb' : Below w.heap.size w w' := k.back
  refine ⟨b, f, os[j].1, os[j].2.1, os[j].2.2, hA, hb, ?_, ?_, ?_, (h.oks _ (List.getElem_mem hl)).2⟩
  · exact (hb'.cell (p := ⟨b, f + j * 3, none⟩) hb).trans (hc 0 _ rfl)
  · exact (hb'.cell (p := ⟨b, f + j * 3 + 1, none⟩) hb).trans (hc 1 _ rfl)
  · exact (hb'.cell (p := ⟨b, f + j * 3 + 2, none⟩) hb).trans (hc 2 _ rfl)
/-- What stands between two rounds: the program's flash and the reference's are one. -/
def Between (w wr : World) (g h g2 h2 : Nat) (s : FS) (j : Nat) : Prop :=
  Fl wr g h s ∧ Rf wr g2 h2 s ∧ s.ops ≤ j ∧ Keeps [] w wr ∧ w.heap.size ≤ g ∧ w.heap.size ≤ h ∧ w.heap.size ≤ g2 ∧ w.heap.size ≤ h2 ∧ g ≠ g2 ∧ g ≠ h2 ∧ h ≠ g2 ∧ h ≠ h2
theorem btw {w w5 w6 : World} {g h g2 h2 j : Nat} {s : FS} (f5 : Fl w5 g h s) (r5 : Rf w5 g2 h2 s) (ho : s.ops ≤ j) (k5 : Keeps [] w w5) (k6 : Keeps [] w5 w6)
    (d : w.heap.size ≤ g ∧ w.heap.size ≤ h ∧ w.heap.size ≤ g2 ∧ w.heap.size ≤ h2 ∧ g ≠ g2 ∧ g ≠ h2 ∧ h ≠ g2 ∧ h ≠ h2) : Between w w6 g h g2 h2 s j :=
  ⟨k6.fl f5 (by simp) (by simp), k6.rf r5 (by simp) (by simp), ho, k5.trans k6 (by simp), d.1, d.2.1, d.2.2.1, d.2.2.2.1, d.2.2.2.2.1, d.2.2.2.2.2.1, d.2.2.2.2.2.2.1, d.2.2.2.2.2.2.2⟩
set_option maxRecDepth 10000 in
theorem plays_walk (n0 : Int) (A : Option Addr) (n c : Nat) (os : List (Int × Int × UInt32)) (w : World) (_hn : (Lit.int .i64 n0).wf = true) (hr : Ops w A n c os) :
    Calls Try.prog 3 #[.int .i64 n0, .slice A n c] w fun e w' => e = .returned (.bool true) ∧ Below w.heap.size w w' := by
  have hm := hr.max
  have hcap := hr.cap
  unfold maxLen at hm
  rcases hcnt : cntB n0 with _ | _
  · have H := hide hcnt
    clear hcnt
    go_enter Try.func3, Try.ntmps3
    go_wp2_with (first
      | (go_at_call 9; refine (New_no _ _ H.out).mono ?_; rintro e w1 ⟨rfl, rfl⟩)
      | (go_at_call 10; refine (rMade_no _ _ H.out).mono ?_; rintro e w2 ⟨g2, rfl, k2⟩))
    go_loopw [8] (fun i wr => i = .int .i64 0 ∧ wr = w2) (fun _ _ => 0)
    case atStart => exact ⟨rfl, rfl⟩
    case round =>
      obtain ⟨rfl, rfl⟩ := hrel
      by_cases hz : 0 < n
      · have hd1 : decide ((0 : Int) < (n : Int)) = true := by simp; omega
        have hd2 : decide (0 < n) = true := by simpa using hz
        go_wp2_with (go_at_call 23; refine (known_any _).mono ?_; rintro e w4 ⟨rfl, k4⟩)
        go_ret
        exact ⟨rfl, (k2.trans k4 (by simp)).back⟩
      · obtain rfl : n = 0 := by omega
        go_wp2_with (go_at_call 23; refine (known_any _).mono ?_; rintro e w4 ⟨rfl, k4⟩)
        go_ret
        exact ⟨rfl, (k2.trans k4 (by simp)).back⟩
  · obtain ⟨k, rfl⟩ : ∃ k : Nat, n0 = (k : Int) := by unfold cntB at hcnt; rw [decide_eq_true_iff] at hcnt; exact ⟨n0.toNat, by omega⟩
    have hk : 1 ≤ k ∧ k ≤ 16 := by unfold cntB at hcnt; rw [decide_eq_true_iff] at hcnt; omega
    clear hcnt
    go_enter Try.func3, Try.ntmps3
    go_wp2_with (first
      | (go_at_call 9; refine (New_any k hk.1 hk.2 _).mono ?_; rintro e w1 ⟨g, h, rfl, f1, k1, hg1, hh1⟩)
      | (go_at_call 10; refine (rMade_any k hk.1 hk.2 _).mono ?_; rintro e w2 ⟨g2, h2, rfl, r2, k2, hg2, hh2⟩))
    have B0 : Between w w2 g h g2 h2 (ofS (List.replicate (256 * k) ones32)) 0 := by
      have := f1.lt; have := f1.lt2; have := k1.size
      exact ⟨k2.fl f1 (by simp) (by simp), r2, Nat.le_refl _, k1.trans k2 (by simp), hg1, hh1, by omega, by omega, by omega, by omega, by omega, by omega⟩
    generalize ofS (List.replicate (256 * k) ones32) = s0 at B0
    clear f1 r2 k1 k2 hg1 hh1 hg2 hh2
    go_loopw [5, 8] (fun fp i wr => ∃ (j g h : Nat) (s : FS), j ≤ 60 ∧ j ≤ n ∧ i = .int .i64 (j : Int) ∧ fp = .pointer (some ⟨g, 0, none⟩) ∧ Between w wr g h g2 h2 s j) (fun _ i _ => 60 - (intOf i).toNat)
    case atStart => exact ⟨0, g, h, s0, by omega, by omega, rfl, rfl, B0⟩
    case round =>
      clear B0
      obtain ⟨j, g, h, s, hj, hjn, rfl, rfl, fl, rf, hops, kk, d1, d2, d3, d4, d5, d6, d7, d8⟩ := hrel
      by_cases hlt : j < n ∧ j < 60
      · obtain ⟨b, f, kd, at_, v, rfl, hb, c0, c1, c2, hat⟩ := hr.get kk hlt.1
        have dj : decide ((j : Int) < (n : Int)) = true := by simp; omega
        have dj2 : decide ((j : Int) < 60) = true := by simp; omega
        have hjn2 : j < n := hlt.1
        have HLT := hide hlt
        clear hlt hj
        have hob : s.ops ≤ 4611686018427387904 := by have := HLT.out; omega
        have l1 := fl.lt
        have l2 := fl.lt2
        have l3 := rf.lt
        have l4 := rf.lt2
        by_cases h0 : kd = 0
        · subst h0
          go_wp2_with fail
          have bo := Blk.new wr 30 [.int .i64 0, .int .i64 at_, .int .u32 (v.toNat : Int)]
          have ko := (Keeps.refl [] wr).alloc (.cells #[.int .i64 0, .int .i64 at_, .int .u32 (v.toNat : Int)] 30)
          have hsz : (wr.alloc (.cells #[.int .i64 0, .int .i64 at_, .int .u32 (v.toNat : Int)] 30)).heap.size = wr.heap.size + 1 := by simp
          generalize wr.alloc (.cells #[.int .i64 0, .int .i64 at_, .int .u32 (v.toNat : Int)] 30) = w8 at bo ko hsz ⊢
          have f0 : Fl w8.drew g h s := ko.drew.fl fl (by simp) (by simp)
          have r0 : Rf w8.drew g2 h2 s := ko.drew.rf rf (by simp) (by simp)
          have bo0 : Blk w8.drew _ _ _ := bo.drew
          have k0 : Keeps [] w w8.drew := kk.trans ko.drew (by simp)
          have x1 := bo0.cell (j := 1) rfl
          have x2 := bo0.cell (j := 2) rfl
          have BO := hide bo0
          have K0 := hide k0
          clear fl rf bo ko bo0 k0 kk c0 c1 c2
          go_region_held3 (fun W : World => W.cell? ⟨wr.heap.size, 1, none⟩ = some (.int .i64 at_) ∧ W.cell? ⟨wr.heap.size, 2, none⟩ = some (.int .u32 (v.toNat : Int))) (first | exact ⟨x1, x2⟩ | exact ⟨x41, x42⟩ | exact ⟨x51, x52⟩) (first
            | (go_at_call 11; refine (Program_any g h s _ v _ f4 hob).mono ?_; rintro e w5 ⟨rfl, f5, k5⟩; have r5 := k5.rf rN (by simp; omega) (by simp; omega); have k05 : Keeps [] w w5 := k04.trans k5 (by simp; omega); have x51 := (k5.blk BO4.out (by simp; omega)).cell (j := 1) rfl; have x52 := (k5.blk BO4.out (by simp; omega)).cell (j := 2) rfl)
            | (go_at_call 12; refine (rProgram_any g2 h2 s _ v _ r4 hob).mono ?_; rintro e w5 ⟨rfl, r5, k5⟩; have f5 := k5.fl fN (by simp; omega) (by simp; omega); have k05 : Keeps [] w w5 := k04.trans k5 (by simp; omega); have x51 := (k5.blk BO4.out (by simp; omega)).cell (j := 1) rfl; have x52 := (k5.blk BO4.out (by simp; omega)).cell (j := 2) rfl)
            | (go_at_call 11; refine (Program_any g h s _ v _ f0 hob).mono ?_; rintro e w4 ⟨rfl, fN, k4⟩; have r4 := k4.rf r0 (by simp; omega) (by simp; omega); have bo4 := k4.blk BO.out (by simp; omega); have x41 := bo4.cell (j := 1) rfl; have x42 := bo4.cell (j := 2) rfl; have k04 : Keeps [] w w4 := K0.out.trans k4 (by simp; omega); have BO4 := hide bo4; clear bo4)
            | (go_at_call 12; refine (rProgram_any g2 h2 s _ v _ r0 hob).mono ?_; rintro e w4 ⟨rfl, rN, k4⟩; have f4 := k4.fl f0 (by simp; omega) (by simp; omega); have bo4 := k4.blk BO.out (by simp; omega); have x41 := bo4.cell (j := 1) rfl; have x42 := bo4.cell (j := 2) rfl; have k04 : Keeps [] w w4 := K0.out.trans k4 (by simp; omega); have BO4 := hide bo4; clear bo4))
          all_goals
            go_wp2_with (go_at_call 22; refine (alike_any g h g2 h2 _ _ f5 r5).mono ?_; rintro e w6 ⟨rfl, k6⟩)
            have hlt := HLT.out
            go_roundw
            case rel => exact ⟨j + 1, g, h, proS s at_ v, by omega, by omega, by go_num, rfl, btw f5 r5 (Nat.le_trans (proS_ops _ _ _) (by omega)) k05 k6 ⟨d1, d2, d3, d4, d5, d6, d7, d8⟩⟩
            case measure => simp [intOf]; omega
        · by_cases h1 : kd = 1
          · subst h1
            go_wp2_with fail
            have bo := Blk.new wr 30 [.int .i64 1, .int .i64 at_, .int .u32 (v.toNat : Int)]
            have ko := (Keeps.refl [] wr).alloc (.cells #[.int .i64 1, .int .i64 at_, .int .u32 (v.toNat : Int)] 30)
            have hsz : (wr.alloc (.cells #[.int .i64 1, .int .i64 at_, .int .u32 (v.toNat : Int)] 30)).heap.size = wr.heap.size + 1 := by simp
            generalize wr.alloc (.cells #[.int .i64 1, .int .i64 at_, .int .u32 (v.toNat : Int)] 30) = w8 at bo ko hsz ⊢
            have f0 : Fl w8.drew g h s := ko.drew.fl fl (by simp) (by simp)
            have r0 : Rf w8.drew g2 h2 s := ko.drew.rf rf (by simp) (by simp)
            have bo0 : Blk w8.drew _ _ _ := bo.drew
            have k0 : Keeps [] w w8.drew := kk.trans ko.drew (by simp)
            have x1 := bo0.cell (j := 1) rfl
            have x2 := bo0.cell (j := 2) rfl
            have BO := hide bo0
            have K0 := hide k0
            clear fl rf bo ko bo0 k0 kk c0 c1 c2
            go_region_held3 (fun W : World => W.cell? ⟨wr.heap.size, 1, none⟩ = some (.int .i64 at_) ∧ W.cell? ⟨wr.heap.size, 2, none⟩ = some (.int .u32 (v.toNat : Int))) (first | exact ⟨x1, x2⟩ | exact ⟨x41, x42⟩ | exact ⟨x51, x52⟩) (first
              | (go_at_call 13; refine (Erase_any g h s _ _ f4 hob).mono ?_; rintro e w5 ⟨rfl, f5, k5⟩; have r5 := k5.rf rN (by simp; omega) (by simp; omega); have k05 : Keeps [] w w5 := k04.trans k5 (by simp; omega); have x51 := (k5.blk BO4.out (by simp; omega)).cell (j := 1) rfl; have x52 := (k5.blk BO4.out (by simp; omega)).cell (j := 2) rfl)
              | (go_at_call 14; refine (rErase_any g2 h2 s _ _ r4 hob).mono ?_; rintro e w5 ⟨rfl, r5, k5⟩; have f5 := k5.fl fN (by simp; omega) (by simp; omega); have k05 : Keeps [] w w5 := k04.trans k5 (by simp; omega); have x51 := (k5.blk BO4.out (by simp; omega)).cell (j := 1) rfl; have x52 := (k5.blk BO4.out (by simp; omega)).cell (j := 2) rfl)
              | (go_at_call 13; refine (Erase_any g h s _ _ f0 hob).mono ?_; rintro e w4 ⟨rfl, fN, k4⟩; have r4 := k4.rf r0 (by simp; omega) (by simp; omega); have bo4 := k4.blk BO.out (by simp; omega); have x41 := bo4.cell (j := 1) rfl; have x42 := bo4.cell (j := 2) rfl; have k04 : Keeps [] w w4 := K0.out.trans k4 (by simp; omega); have BO4 := hide bo4; clear bo4)
              | (go_at_call 14; refine (rErase_any g2 h2 s _ _ r0 hob).mono ?_; rintro e w4 ⟨rfl, rN, k4⟩; have f4 := k4.fl f0 (by simp; omega) (by simp; omega); have bo4 := k4.blk BO.out (by simp; omega); have x41 := bo4.cell (j := 1) rfl; have x42 := bo4.cell (j := 2) rfl; have k04 : Keeps [] w w4 := K0.out.trans k4 (by simp; omega); have BO4 := hide bo4; clear bo4))
            all_goals
              go_wp2_with (go_at_call 22; refine (alike_any g h g2 h2 _ _ f5 r5).mono ?_; rintro e w6 ⟨rfl, k6⟩)
              have hlt := HLT.out
              go_roundw
              case rel => exact ⟨j + 1, g, h, eraS s at_, by omega, by omega, by go_num, rfl, btw f5 r5 (Nat.le_trans (eraS_ops _ _) (by omega)) k05 k6 ⟨d1, d2, d3, d4, d5, d6, d7, d8⟩⟩
              case measure => simp [intOf]; omega
          · by_cases h2k : kd = 2
            · subst h2k
              go_wp2_with fail
              have bo := Blk.new wr 30 [.int .i64 2, .int .i64 at_, .int .u32 (v.toNat : Int)]
              have ko := (Keeps.refl [] wr).alloc (.cells #[.int .i64 2, .int .i64 at_, .int .u32 (v.toNat : Int)] 30)
              have hsz : (wr.alloc (.cells #[.int .i64 2, .int .i64 at_, .int .u32 (v.toNat : Int)] 30)).heap.size = wr.heap.size + 1 := by simp
              have x0 : ∀ i u, (opC (2, at_, v))[i]? = some u → (wr.alloc (.cells #[.int .i64 2, .int .i64 at_, .int .u32 (v.toNat : Int)] 30)).cell? ⟨wr.heap.size, i, none⟩ = some u := fun i u hu => bo.cell hu
              generalize wr.alloc (.cells #[.int .i64 2, .int .i64 at_, .int .u32 (v.toNat : Int)] 30) = w8 at bo ko hsz x0 ⊢
              have f8 := ko.fl fl (by simp) (by simp)
              have r8 := ko.rf rf (by simp) (by simp)
              have k08 : Keeps [] w w8 := kk.trans ko (by simp)
              have x1 := bo.cell (j := 1) rfl
              clear fl rf bo ko kk c0 c1 c2 x0
              refine (Read_any g h s _ _ f8).mono ?_
              rintro e w9 ⟨rfl, rfl⟩
              go_wp2_with fail
              refine (rRead_any g2 h2 s _ _ r8).mono ?_
              rintro e w9 ⟨rfl, rfl⟩
              have f5 := f8
              have r5 := r8
              have k05 := k08
              clear f8 r8 k08
              go_wp2_with (go_at_call 22; refine (alike_any g h g2 h2 _ _ f5 r5).mono ?_; rintro e w6 ⟨rfl, k6⟩)
              have hlt := HLT.out
              go_roundw
              case rel => exact ⟨j + 1, g, h, s, by omega, by omega, by go_num, rfl, btw f5 r5 (by omega) k05 k6 ⟨d1, d2, d3, d4, d5, d6, d7, d8⟩⟩
              case measure => simp [intOf]; omega
            · by_cases h3 : kd = 3
              · subst h3
                go_wp2_with fail
                have bo := Blk.new wr 30 [.int .i64 3, .int .i64 at_, .int .u32 (v.toNat : Int)]
                have ko := (Keeps.refl [] wr).alloc (.cells #[.int .i64 3, .int .i64 at_, .int .u32 (v.toNat : Int)] 30)
                have hsz : (wr.alloc (.cells #[.int .i64 3, .int .i64 at_, .int .u32 (v.toNat : Int)] 30)).heap.size = wr.heap.size + 1 := by simp
                generalize wr.alloc (.cells #[.int .i64 3, .int .i64 at_, .int .u32 (v.toNat : Int)] 30) = w8 at bo ko hsz ⊢
                have f0 : Fl w8.drew g h s := ko.drew.fl fl (by simp) (by simp)
                have r0 : Rf w8.drew g2 h2 s := ko.drew.rf rf (by simp) (by simp)
                have bo0 : Blk w8.drew _ _ _ := bo.drew
                have k0 : Keeps [] w w8.drew := kk.trans ko.drew (by simp)
                have x1 := bo0.cell (j := 1) rfl
                have x2 := bo0.cell (j := 2) rfl
                have BO := hide bo0
                have K0 := hide k0
                clear fl rf bo ko bo0 k0 kk c0 c1 c2
                go_region_held3 (fun W : World => W.cell? ⟨wr.heap.size, 1, none⟩ = some (.int .i64 at_) ∧ W.cell? ⟨wr.heap.size, 2, none⟩ = some (.int .u32 (v.toNat : Int))) (first | exact ⟨x1, x2⟩ | exact ⟨x41, x42⟩ | exact ⟨x51, x52⟩) (first
                  | (go_at_call 17; refine (Cut_any g h s _ v _ f4 hat).mono ?_; rintro e w5 ⟨rfl, f5, k5⟩; have r5 := k5.rf rN (by simp; omega) (by simp; omega); have k05 : Keeps [] w w5 := k04.trans k5 (by simp; omega); have x51 := (k5.blk BO4.out (by simp; omega)).cell (j := 1) rfl; have x52 := (k5.blk BO4.out (by simp; omega)).cell (j := 2) rfl)
                  | (go_at_call 18; refine (rCut_any g2 h2 s _ v _ r4 hat).mono ?_; rintro e w5 ⟨rfl, r5, k5⟩; have f5 := k5.fl fN (by simp; omega) (by simp; omega); have k05 : Keeps [] w w5 := k04.trans k5 (by simp; omega); have x51 := (k5.blk BO4.out (by simp; omega)).cell (j := 1) rfl; have x52 := (k5.blk BO4.out (by simp; omega)).cell (j := 2) rfl)
                  | (go_at_call 17; refine (Cut_any g h s _ v _ f0 hat).mono ?_; rintro e w4 ⟨rfl, fN, k4⟩; have r4 := k4.rf r0 (by simp; omega) (by simp; omega); have bo4 := k4.blk BO.out (by simp; omega); have x41 := bo4.cell (j := 1) rfl; have x42 := bo4.cell (j := 2) rfl; have k04 : Keeps [] w w4 := K0.out.trans k4 (by simp; omega); have BO4 := hide bo4; clear bo4)
                  | (go_at_call 18; refine (rCut_any g2 h2 s _ v _ r0 hat).mono ?_; rintro e w4 ⟨rfl, rN, k4⟩; have f4 := k4.fl f0 (by simp; omega) (by simp; omega); have bo4 := k4.blk BO.out (by simp; omega); have x41 := bo4.cell (j := 1) rfl; have x42 := bo4.cell (j := 2) rfl; have k04 : Keeps [] w w4 := K0.out.trans k4 (by simp; omega); have BO4 := hide bo4; clear bo4))
                all_goals
                  go_wp2_with (go_at_call 22; refine (alike_any g h g2 h2 _ _ f5 r5).mono ?_; rintro e w6 ⟨rfl, k6⟩)
                  have hlt := HLT.out
                  go_roundw
                  case rel => exact ⟨j + 1, g, h, cutS s at_ v, by omega, by omega, by go_num, rfl, btw f5 r5 (Nat.le_trans (Nat.le_of_eq (cutS_ops _ _ _)) (by omega)) k05 k6 ⟨d1, d2, d3, d4, d5, d6, d7, d8⟩⟩
                  case measure => simp [intOf]; omega
              · by_cases h4 : kd = 4
                · subst h4
                  go_wp2_with fail
                  have bo := Blk.new wr 30 [.int .i64 4, .int .i64 at_, .int .u32 (v.toNat : Int)]
                  have ko := (Keeps.refl [] wr).alloc (.cells #[.int .i64 4, .int .i64 at_, .int .u32 (v.toNat : Int)] 30)
                  have hsz : (wr.alloc (.cells #[.int .i64 4, .int .i64 at_, .int .u32 (v.toNat : Int)] 30)).heap.size = wr.heap.size + 1 := by simp
                  have x0 : ∀ i u, (opC (4, at_, v))[i]? = some u → (wr.alloc (.cells #[.int .i64 4, .int .i64 at_, .int .u32 (v.toNat : Int)] 30)).cell? ⟨wr.heap.size, i, none⟩ = some u := fun i u hu => bo.cell hu
                  generalize wr.alloc (.cells #[.int .i64 4, .int .i64 at_, .int .u32 (v.toNat : Int)] 30) = w8 at bo ko hsz x0 ⊢
                  have f8 := ko.fl fl (by simp) (by simp)
                  have r8 := ko.rf rf (by simp) (by simp)
                  have k08 : Keeps [] w w8 := kk.trans ko (by simp)
                  have x1 := bo.cell (j := 1) rfl
                  clear fl rf bo ko kk c0 c1 c2 x0
                  refine (Start_any g h s _ f8).mono ?_
                  rintro e w4 ⟨rfl, f4, k4⟩
                  have r4 := k4.rf r8 (by simp; omega) (by simp; omega)
                  have k04 : Keeps [] w w4 := k08.trans k4 (by simp; omega)
                  clear f8 r8 k08 x1
                  go_wp2_with fail
                  refine (rStart_any g2 h2 s _ r4).mono ?_
                  rintro e w5 ⟨rfl, r5, k5⟩
                  have f5 := k5.fl f4 (by simp; omega) (by simp; omega)
                  have k05 : Keeps [] w w5 := k04.trans k5 (by simp; omega)
                  clear f4 r4 k04
                  go_wp2_with (go_at_call 22; refine (alike_any g h g2 h2 _ _ f5 r5).mono ?_; rintro e w6 ⟨rfl, k6⟩)
                  have hlt := HLT.out
                  go_roundw
                  case rel => exact ⟨j + 1, g, h, staS s, by omega, by omega, by go_num, rfl, btw f5 r5 (show s.ops ≤ _ by omega) k05 k6 ⟨d1, d2, d3, d4, d5, d6, d7, d8⟩⟩
                  case measure => simp [intOf]; omega
                · have e0 : (kd == 0) = false := by rw [beq_eq_false_iff_ne]; exact h0
                  have e1 : (kd == 1) = false := by rw [beq_eq_false_iff_ne]; exact h1
                  have e2 : (kd == 2) = false := by rw [beq_eq_false_iff_ne]; exact h2k
                  have e3 : (kd == 3) = false := by rw [beq_eq_false_iff_ne]; exact h3
                  have e4 : (kd == 4) = false := by rw [beq_eq_false_iff_ne]; exact h4
                  go_wp2_with fail
                  have bo := Blk.new wr 30 [.int .i64 kd, .int .i64 at_, .int .u32 (v.toNat : Int)]
                  have ko := (Keeps.refl [] wr).alloc (.cells #[.int .i64 kd, .int .i64 at_, .int .u32 (v.toNat : Int)] 30)
                  have hsz : (wr.alloc (.cells #[.int .i64 kd, .int .i64 at_, .int .u32 (v.toNat : Int)] 30)).heap.size = wr.heap.size + 1 := by simp
                  have x0 : ∀ i u, (opC (kd, at_, v))[i]? = some u → (wr.alloc (.cells #[.int .i64 kd, .int .i64 at_, .int .u32 (v.toNat : Int)] 30)).cell? ⟨wr.heap.size, i, none⟩ = some u := fun i u hu => bo.cell hu
                  generalize wr.alloc (.cells #[.int .i64 kd, .int .i64 at_, .int .u32 (v.toNat : Int)] 30) = w8 at bo ko hsz x0 ⊢
                  have f8 := ko.fl fl (by simp) (by simp)
                  have r8 := ko.rf rf (by simp) (by simp)
                  have k08 : Keeps [] w w8 := kk.trans ko (by simp)
                  have x1 := bo.cell (j := 1) rfl
                  clear fl rf bo ko kk c0 c1 c2 x0
                  refine (Copy_any g h s _ f8).mono ?_
                  rintro e w4 ⟨g3, h3', rfl, f4, k4, hg3, hh3⟩
                  have fo4 := k4.fl f8 (by simp) (by simp)
                  have r4 := k4.rf r8 (by simp) (by simp)
                  have k04 : Keeps [] w w4 := k08.trans k4 (by simp)
                  clear f8 r8 k08 x1
                  go_wp2_with fail
                  refine (Erase_any g h s 0 _ fo4 hob).mono ?_
                  rintro e w5 ⟨rfl, fo5, k5⟩
                  have f5 := k5.fl f4 (by simp; omega) (by simp; omega)
                  have r5 := k5.rf r4 (by simp; omega) (by simp; omega)
                  have k05 : Keeps [] w w5 := k04.trans k5 (by simp; omega)
                  clear f4 r4 k04 fo4 fo5
                  go_wp2_with (go_at_call 22; refine (alike_any g3 h3' g2 h2 _ _ f5 r5).mono ?_; rintro e w6 ⟨rfl, k6⟩)
                  have hlt := HLT.out
                  go_roundw
                  case rel => exact ⟨j + 1, g3, h3', s, by omega, by omega, by go_num, rfl, btw f5 r5 (by omega) k05 k6 ⟨by omega, by omega, d3, d4, by omega, by omega, by omega, by omega⟩⟩
                  case measure => simp [intOf]; omega
      · have hkn : Hid (¬ (j < n ∧ j < 60)) := hlt
        have K := hide kk
        clear fl rf
        by_cases hjn3 : j < n
        · have dj : decide ((j : Int) < (n : Int)) = true := by simp; omega
          have dj3 : decide (j < n) = true := by simpa using hjn3
          have dj2 : decide ((j : Int) < 60) = false := by simp; omega
          clear hlt hj
          go_wp2_with (go_at_call 23; refine (known_any _).mono ?_; rintro e w4 ⟨rfl, k4⟩)
          go_ret
          exact ⟨rfl, (K.out.trans k4 (by simp)).back⟩
        · obtain rfl : j = n := by omega
          clear hlt hj
          go_wp2_with (go_at_call 23; refine (known_any _).mono ?_; rintro e w4 ⟨rfl, k4⟩)
          go_ret
          exact ⟨rfl, (K.out.trans k4 (by simp)).back⟩
end Go.Proofs.Ytimajdhfgkpndaa
