/-
  Contracts of package journal: isNone, Last, program, add.
-/
import Derived.Test.YtahnfkoakaimhaaJMem
namespace Go.Proofs.Ytahnfkoakaimhaa
open Go.RowKit
set_option maxHeartbeats 1000000

theorem jisNone_nil (w : World) : Calls Try.prog 26 #[.pointer none] w fun e w' => e = .returned (.bool true) ∧ w = w' := by
  go_enter Try.func26, Try.ntmps26
  go_wp2
  go_ret
  exact ⟨rfl, rfl⟩
theorem jisNone_zero (g : Nat) (w : World) (c0 : w.cell? ⟨g, 0, none⟩ = some (.pointer none)) : Calls Try.prog 26 #[.pointer (some ⟨g, 0, none⟩)] w fun e w' => e = .returned (.bool true) ∧ w = w' := by
  go_enter Try.func26, Try.ntmps26
  go_wp2
  go_ret
  exact ⟨rfl, rfl⟩
theorem jisNone_any (g gf : Nat) (w : World) (c0 : w.cell? ⟨g, 0, none⟩ = some (.pointer (some ⟨gf, 0, none⟩))) : Calls Try.prog 26 #[.pointer (some ⟨g, 0, none⟩)] w fun e w' => e = .returned (.bool false) ∧ w = w' := by
  go_enter Try.func26, Try.ntmps26
  go_wp2
  go_ret
  exact ⟨rfl, rfl⟩
theorem Last_nil (w : World) : Calls Try.prog 22 #[.pointer none] w fun e w' => e = .returned (.tuple #[.slice none 0 0, .int .u32 0, .bool false]) ∧ w = w' := by
  go_enter Try.func22, Try.ntmps22
  go_wp2_with (go_at_call 26; refine (jisNone_nil _).mono ?_; rintro e w1 ⟨rfl, rfl⟩)
  go_ret3
  exact ⟨rfl, rfl⟩
theorem Last_zero (g : Nat) (w : World) (c0 : w.cell? ⟨g, 0, none⟩ = some (.pointer none)) : Calls Try.prog 22 #[.pointer (some ⟨g, 0, none⟩)] w fun e w' => e = .returned (.tuple #[.slice none 0 0, .int .u32 0, .bool false]) ∧ w = w' := by
  go_enter Try.func22, Try.ntmps22
  go_wp2_with (go_at_call 26; refine (jisNone_zero g _ c0).mono ?_; rintro e w1 ⟨rfl, rfl⟩)
  go_ret3
  exact ⟨rfl, rfl⟩
theorem Append_nil (A : Option Addr) (n c : Nat) (w : World) : Calls Try.prog 10 #[.pointer none, .slice A n c] w fun e w' => e = .returned (.int .i64 26) ∧ w = w' := by
  go_enter Try.func10, Try.ntmps10
  go_wp2_with (go_at_call 26; refine (jisNone_nil _).mono ?_; rintro e w1 ⟨rfl, rfl⟩)
  go_ret
  exact ⟨rfl, rfl⟩
theorem Append_zero (A : Option Addr) (n c g : Nat) (w : World) (c0 : w.cell? ⟨g, 0, none⟩ = some (.pointer none)) : Calls Try.prog 10 #[.pointer (some ⟨g, 0, none⟩), .slice A n c] w fun e w' => e = .returned (.int .i64 26) ∧ w = w' := by
  go_enter Try.func10, Try.ntmps10
  go_wp2_with (go_at_call 26; refine (jisNone_zero g _ c0).mono ?_; rintro e w1 ⟨rfl, rfl⟩)
  go_ret
  exact ⟨rfl, rfl⟩
/-- New words (nil, if there are none), a number, and whether there is one. -/
def Tells (w : World) (j : JS) (e : Ending) (w' : World) : Prop :=
  ∃ A n c, e = .returned (.tuple #[.slice A n c, .int .u32 (j.num : Int), .bool (decide (0 < j.num))]) ∧ w'.ownsRow 0 37 1 (.slice A n c) n (cs32 j.rcd) ∧ (∀ g, A = some ⟨g, 0, none⟩ → w.heap.size ≤ g) ∧ Keeps [] w w'
theorem Last_any (gj hj gf k : Nat) (ws : List UInt32) (j : JS) (w : World) (h : Jr w gj hj gf k ws j) : Calls Try.prog 22 #[.pointer (some ⟨gj, 0, none⟩)] w (Tells w j) := by
  obtain ⟨cur, oth, A, n, c, used, cl, hb, ho, hA, _⟩ := h.ex
  have c0 : w.cell? ⟨gj, 0, none⟩ = some (.pointer (some ⟨gf, 0, none⟩)) := hb.cell (j := 0) rfl
  have c3 : w.cell? ⟨gj, 3, none⟩ = some (.slice A n c) := hb.cell (j := 3) rfl
  have c4 : w.cell? ⟨gj, 4, none⟩ = some (.int .u32 (j.num : Int)) := hb.cell (j := 4) rfl
  have hg := h.good
  by_cases h0 : j.num = 0
  · have d0 : ((j.num : Int) == 0) = true := by rw [beq_iff_eq]; omega
    have HG := hide (show j.rcd = [] ∧ decide (0 < j.num) = false by
      refine ⟨?_, by simp; omega⟩
      rcases hg with hg | hg
      · exact hg.1
      · have := hg.1; omega)
    have H0 := hide h0
    clear h0 hb ho hg
    go_enter Try.func22, Try.ntmps22
    go_wp2_with (go_at_call 26; refine (jisNone_any gj gf _ c0).mono ?_; rintro e w1 ⟨rfl, rfl⟩)
    go_ret3
    exact ⟨none, 0, 0, by rw [HG.out.2, H0.out]; rfl, by rw [HG.out.1]; exact World.ownsRow_nil _ _ _ _, (fun g e => by cases e), Keeps.refl _ _⟩
  · have d0 : ((j.num : Int) == 0) = false := by rw [beq_eq_false_iff_ne]; omega
    have hl := hg.lo h0
    have hl2 := hg.hi
    have hn := own32_len ho
    obtain ⟨g, rfl⟩ := own_some ho (by omega)
    clear hA
    have HD := hide (show decide (0 < j.num) = true by simp; omega)
    have HR := hide (Row.of_own ho)
    have HB := hide hb
    have HN := hide (show 0 < n ∧ n ≤ 64 by omega)
    clear hb ho hg h0 hl hl2 hn
    go_enter Try.func22, Try.ntmps22
    go_wp2_with (go_at_call 26; refine (jisNone_any gj gf _ c0).mono ?_; rintro e w1 ⟨rfl, rfl⟩)
    go_region_held3 (fun W : World => W.cell? ⟨gj, 3, none⟩ = some (.slice (some ⟨g, 0, none⟩) n c) ∧ W.cell? ⟨gj, 4, none⟩ = some (.int .u32 (j.num : Int))) (first | exact ⟨c3, c4⟩ | exact ⟨c31, c41⟩) (first
      | (go_at_call 35; refine (Clone_any w.heap.size _ _ _ j.rcd _ (HR.out.of_drewN 1) (Nat.le_refl _) HN.out.1 (by have := HN.out.2; omega)).mono ?_; rintro e w4 ⟨h4, k4, rfl, ho4, hk4, hh4⟩; have c31 := (hk4.blk HB.out.drew (by simp)).cell (j := 3) rfl; have c41 := (hk4.blk HB.out.drew (by simp)).cell (j := 4) rfl))
    all_goals
      go_wp2
      go_ret3
      refine ⟨_, _, k4, by rw [HD.out]; rfl, ho4, (fun g e => by cases e; exact hh4), (Keeps.refl [] w).drew.trans hk4 (by simp)⟩
/-- The words l are programmed one by one. -/
theorem program_any (gj gf h sec from_ n c : Nat) (A : Option Addr) (l : List UInt32) (s : FS) (w : World) (cj : List Value) (t : TypeId) (hj : Blk w gj t (.pointer (some ⟨gf, 0, none⟩) :: cj)) (h1 : gj ≠ gf) (h2 : gj ≠ h) (f : Fl w gf h s)
    (hr : Row w w.heap.size A n c (cs32 l)) (hA : ∀ a, A = some a → a.block ∉ [gf, h]) (hsec : sec ≤ 15) (hfrom : from_ ≤ 256) (hn : n ≤ 70) (hops : s.ops ≤ 2305843009213693952) :
    Calls Try.prog 41 #[.pointer (some ⟨gj, 0, none⟩), .int .i64 (sec : Int), .int .i64 (from_ : Int), .slice A n c] w (Does w gf h (progsS s (256 * sec + from_) l) (.int .i64 (progsE s (256 * sec + from_) l))) := by
  have hln := hr.len
  rw [cs32_len] at hln
  subst hln
  have hc0 : ∀ wr, Keeps [gf, h] w wr → wr.cell? ⟨gj, 0, none⟩ = some (.pointer (some ⟨gf, 0, none⟩)) := fun wr k => (k.blk hj (by simp; exact ⟨h1, h2⟩)).cell (j := 0) rfl
  have HC := hide hc0
  have HA := hide hA
  clear hc0 hA
  go_enter Try.func41, Try.ntmps41
  go_wp2
  go_loopw [14] (fun i wr => ∃ (j : Nat) (sj : FS), j ≤ l.length ∧ i = .int .i64 (j : Int) ∧ Fl wr gf h sj ∧ Keeps [gf, h] w wr ∧ Hid (progsS sj (256 * sec + from_ + j) (l.drop j) = progsS s (256 * sec + from_) l ∧ progsE sj (256 * sec + from_ + j) (l.drop j) = progsE s (256 * sec + from_) l) ∧ Hid (sj.ops ≤ s.ops + j)) (fun i _ => l.length - (intOf i).toNat)
  case atStart => exact ⟨0, s, Nat.zero_le _, rfl, f, Keeps.refl _ _, ⟨rfl, rfl⟩, Nat.le_refl _⟩
  case round =>
    clear f
    obtain ⟨j, sj, hj2, rfl, f, hk, HE, HO⟩ := hrel
    by_cases hlt : j < l.length
    · obtain ⟨b, o, u, rfl, _, hu, hcell⟩ := (hk.rowAt hr (Nat.le_refl _) HA.out).get hlt
      rw [cs32_at hlt] at hu
      obtain rfl := Option.some.inj hu
      clear hu
      have x0 := HC.out wr hk
      have hwl := l[j].toNat_lt
      have HD := hide (drop_step l j hlt)
      have HQ := hide (show (sec : Int) * 256 + (from_ : Int) + (j : Int) = ((256 * sec + from_ + j : Nat) : Int) by omega)
      have hi1 : (j : Int) < (l.length : Int) := by omega
      by_cases h0 : proE sj ((256 * sec + from_ + j : Nat) : Int) = 0
      · have H0 := hide h0
        clear h0
        go_wp2_with (go_at_call 55; refine (Program_any gf h sj _ l[j] _ f (by have := HO.out; omega)).mono ?_; rintro e w2 ⟨rfl, f2, k2⟩; rw [HQ.out] at f2; rw [HQ.out, H0.out])
        go_roundw
        case rel =>
          refine ⟨j + 1, _, by omega, by go_num, f2, hk.trans k2 (by simp), ?_, ?_⟩
          · have h8 := HE.out
            rw [HD.out, progsS, progsE, if_pos H0.out, if_pos H0.out] at h8
            exact h8
          · show _ ≤ _
            exact Nat.le_trans (proS_ops _ _ _) (by have := HO.out; omega)
        case measure => simp [intOf]; omega
      · have H0 := hide h0
        have d0 : (proE sj ((256 * sec + from_ + j : Nat) : Int) != 0) = true := by rw [bne_iff_ne]; exact h0
        obtain ⟨q, hq⟩ : ∃ q, q = proE sj ((256 * sec + from_ + j : Nat) : Int) := ⟨_, rfl⟩
        rw [← hq] at d0
        have HP := hide hq
        clear h0 hq
        go_wp2_with (go_at_call 55; refine (Program_any gf h sj _ l[j] _ f (by have := HO.out; omega)).mono ?_; rintro e w2 ⟨rfl, f2, k2⟩; rw [HQ.out] at f2; rw [HQ.out, ← HP.out])
        go_ret
        have h8 := HE.out
        rw [HD.out, progsS, progsE, if_neg H0.out, if_neg H0.out] at h8
        exact ⟨ret_int (by rw [← h8.2]; exact HP.out), by rw [← h8.1]; exact f2, hk.trans k2 (by simp)⟩
    · obtain rfl : j = l.length := by omega
      go_wp2
      go_ret
      have h8 := HE.out
      rw [List.drop_length, progsS, progsE] at h8
      exact ⟨ret_int h8.2, by rw [← h8.1]; exact f, hk⟩
/-- One more record is known: cells 0 to 2 of what is known lie at off of block g. -/
theorem add_any (g : Nat) (off n c A0n c0 num used sz : Nat) (A A0 : Option Addr) (r : List UInt32) (t : TypeId) (cs : List Value) (w : World) (hb : Blk w g t cs) (ad : Addr) (hA : A = some ad)
    (x1 : cs[off + 1]? = some (.int .u32 (num : Int))) (x2 : cs[off + 2]? = some (.int .i64 (used : Int))) (x0 : cs[off]? = some (.slice A0 A0n c0)) (hr : Row w w.heap.size A n c (cs32 r)) (h1 : 1 ≤ n) (h2 : n ≤ 64) (hn : num ≤ 2147483646) (hu : used ≤ 256) (hs : sz ≤ 256) :
    Calls Try.prog 42 #[.pointer (some ⟨g, off, none⟩), .slice A n c, .int .i64 (sz : Int)] w fun e w' => e = .returned (.tuple #[]) ∧ Keeps [g] w w' ∧
      ∃ h k, w.heap.size ≤ h ∧ w'.ownsRow 0 37 1 (.slice (some ⟨h, 0, none⟩) r.length k) r.length (cs32 r) ∧ Blk w' g t (((cs.set off (.slice (some ⟨h, 0, none⟩) r.length k)).set (off + 1) (.int .u32 ((num + 1 : Nat) : Int))).set (off + 2) (.int .i64 ((used + sz : Nat) : Int))) := by
  subst hA
  have hl0 : off < cs.length := (List.getElem?_eq_some_iff.1 x0).1
  have hm : IntKind.u32.wrap ((num : Int) + 1) = (num : Int) + 1 := by simp only [IntKind.wrap, IntKind.bits, IntKind.signed]; simp; omega
  have HB := hide hb
  have HR := hide hr
  clear hb hr
  go_enter Try.func42, Try.ntmps42
  go_wp2_with (go_at_call 35; refine (Clone_any w.heap.size _ _ _ r _ HR.out (Nat.le_refl _) (by omega) (by omega)).mono ?_; rintro e w4 ⟨h4, k4, rfl, ho4, hk4, hh4⟩; have hb4 := hk4.blk HB.out (by simp); have y0 := hb4.cell x0; have y1 := hb4.cell x1; have y2 := hb4.cell x2; have z0 := hb4.frozen off; have z1 := hb4.frozen (off + 1); have z2 := hb4.frozen (off + 2); have HB4 := hide hb4; clear hb4)
  go_end0
  have hg : g < w.heap.size := HB.out.lt
  have hne : g ≠ h4 := by omega
  refine ⟨rfl, (((hk4.more (by simp)).set (.inl (by simp)) _).set (.inl (by simp)) _).set (.inl (by simp)) _, h4, k4, hh4, own_fld (own_fld (own_fld ho4 hne _ _) hne _ _) hne _ _, ?_⟩
  rw [show ((num + 1 : Nat) : Int) = (num : Int) + 1 by omega, show ((used + sz : Nat) : Int) = (used : Int) + (sz : Int) by omega]
  exact ((HB4.out.set off _).set (off + 1) _).set (off + 2) _
end Go.Proofs.Ytahnfkoakaimhaa
