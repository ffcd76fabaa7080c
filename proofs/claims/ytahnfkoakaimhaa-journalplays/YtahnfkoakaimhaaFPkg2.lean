/-
  Contracts of package flash: Read, Start, Cut, Words, Of, Copy; and slices.Clone.
-/
import Derived.Test.YtahnfkoakaimhaaFPkg
import Derived.OneCell
namespace Go.Proofs.Ytahnfkoakaimhaa
open Go.RowKit
set_option maxHeartbeats 400000

theorem own_fld {w : World} {g h n c : Nat} {e : TypeId} {xs : List Value} (ho : w.ownsRow 0 e 1 (.slice (some ⟨h, 0, none⟩) n c) n xs) (hne : g ≠ h) (j : Nat) (v : Value) : (w.setCell ⟨g, j, none⟩ v).ownsRow 0 e 1 (.slice (some ⟨h, 0, none⟩) n c) n xs :=
  ownsRow_setCell_other ho (by simp only [Value.ownBlock, ne_eq, Option.some.injEq]; exact fun e => hne e.symm) v
theorem Start_any (g h : Nat) (s : FS) (w : World) (f : Fl w g h s) : Calls Try.prog 15 #[.pointer (some ⟨g, 0, none⟩)] w (Does w g h (staS s) (.tuple #[])) := by
  obtain ⟨c, hb, ho⟩ := f.ex
  have z1 := hb.frozen 1
  have c1 := hb.cell (j := 1) rfl
  have HB := hide hb
  have HO := hide ho
  clear hb ho
  go_enter Try.func15, Try.ntmps15
  go_wp2_with (first | (go_at_call 34; refine (isNone_any g h s _ f).mono ?_; rintro e w1 ⟨rfl, rfl⟩))
  go_end0
  exact ⟨rfl, ⟨f.ok.staS, f.ne, c, HB.out.set 1 (.bool true), own_fld HO.out f.ne _ _⟩, (Keeps.refl _ _).set (.inl (by simp)) _⟩
theorem Cut_any (g h : Nat) (s : FS) (n : Int) (m : UInt32) (w : World) (f : Fl w g h s) (hn : n ≤ 9223372036854775807) : Calls Try.prog 13 #[.pointer (some ⟨g, 0, none⟩), .int .i64 n, .int .u32 (m.toNat : Int)] w (Does w g h (cutS s n m) (.int .i64 (cutE n))) := by
  by_cases h0 : n < 0
  · have d : decide (n < 0) = true := by simpa using h0
    have H := hide (show cutE n = 1 by unfold cutE; rw [if_neg (by omega)])
    have H2 := hide (show cutS s n m = s by unfold cutS; rw [if_neg (by omega)])
    go_enter Try.func13, Try.ntmps13
    go_wp2_with (first | (go_at_call 34; refine (isNone_any g h s _ f).mono ?_; rintro e w1 ⟨rfl, rfl⟩))
    go_ret
    exact ⟨ret_int H.out.symm, by rw [H2.out]; exact f, Keeps.refl _ _⟩
  · have d : decide (n < 0) = false := by simpa using h0
    obtain ⟨k, rfl⟩ : ∃ k : Nat, n = (k : Int) := ⟨n.toNat, by omega⟩
    have H := hide (show cutE (k : Int) = 0 by unfold cutE; rw [if_pos (by omega)])
    have H2 := hide (show cutS s (k : Int) m = ⟨s.ws, s.on, s.ops, some (k, m)⟩ by unfold cutS; rw [if_pos (by omega), Int.toNat_natCast])
    obtain ⟨c, hb, ho⟩ := f.ex
    have z1 := hb.frozen 3
    have c1 := hb.cell (j := 3) rfl
    have z2 := hb.frozen 4
    have c2 := hb.cell (j := 4) rfl
    have z3 := hb.frozen 5
    have c3 := hb.cell (j := 5) rfl
    have HB := hide hb
    have HO := hide ho
    have HN := hide hn
    clear hb ho h0 hn
    go_enter Try.func13, Try.ntmps13
    go_wp2_with (first | (go_at_call 34; refine (isNone_any g h s _ f).mono ?_; rintro e w1 ⟨rfl, rfl⟩))
    go_ret
    exact ⟨ret_int H.out.symm, by rw [H2.out]; exact ⟨⟨f.ok.len, by have := HN.out; show k ≤ _; omega⟩, f.ne, c, ((HB.out.set 3 (.bool true)).set 4 (.int .i64 (k : Int))).set 5 (.int .u32 (m.toNat : Int)), own_fld (own_fld (own_fld HO.out f.ne _ _) f.ne _ _) f.ne _ _⟩, (((Keeps.refl _ _).set (.inl (by simp)) _).set (.inl (by simp)) _).set (.inl (by simp)) _⟩
theorem eq_nil_in {P : Program} (d : Nat) (t e : TypeId) (h : P.underlying t = some (.slice e)) (A : Option Addr) (n c : Nat) (w : World) : (Op.equalIn (d + 1) t (.slice A n c) (.slice none 0 0)).run P w = .ok A.isNone w := by
  cases A <;> simp [Op.equalIn, run_underlying h]
theorem eq_nil (A : Option Addr) (n c : Nat) (w : World) : (binOp .eql 36 (.slice A n c) (.slice none 0 0)).run Try.prog w = .ok (.bool A.isNone) w := by
  have h : (Op.equal 36 (.slice A n c) (.slice none 0 0)).run Try.prog w = .ok A.isNone w := eq_nil_in 9999 36 37 Try.underlying36 A n c w
  simp only [binOp]
  simp [h]
theorem Clone_any (B : Nat) (ad : Addr) (n c : Nat) (l : List UInt32) (w : World) (hr : Row w B (some ad) n c (cs32 l)) (hB : B ≤ w.heap.size) (hn : 0 < n) (hl : n ≤ 1099511627776) :
    Calls Try.prog 35 #[.slice (some ad) n c] w (Lays w l) := by
  obtain ⟨i0, hi, hz0, hz1, hz2⟩ := info_parts info32
  have hq := eq_nil (some ad) n c w
  have hln := hr.len
  rw [cs32_len] at hln
  have HL := hide hln
  clear hln
  go_enter Try.func35, Try.ntmps35
  go_wp2_with (at_builtin; refine wpList_append_row rfl (.tmp 5) (.tmp 6) 36 rfl w.heap.size 37 i0 _ 4 Try.underlying36 hi hz0 hz1 hz2 rfl _ 0 [] rfl (World.ownsRow_lit (size := 1) w #[] 0 (Nat.le_refl _) (Nat.zero_le _) rfl) B _ _ _ _ rfl (hr.alloc hB _) (cs32_one l) (by unfold maxLen; omega) (by omega) w ((Below.refl _ _).alloc (Nat.le_refl _) _) (Nat.le_refl _) ?_; intro A2 c2 w2 ho2 hb2 hg2; simp only [Nat.zero_add, List.nil_append] at ho2)
  go_ret
  obtain ⟨g2, rfl⟩ := own_some ho2 hn
  have hle := HL.out
  subst hle
  exact ⟨g2, c2, rfl, own_base (Nat.zero_le _) ho2, Keeps.of_below hb2, (ho2.lt g2 rfl).1⟩
theorem Words_any (g h : Nat) (s : FS) (w : World) (f : Fl w g h s) : Calls Try.prog 23 #[.pointer (some ⟨g, 0, none⟩)] w (Lays w s.ws) := by
  obtain ⟨c, hb, ho⟩ := f.ex
  have hl := len_pos f.ok
  have c0 := hb.cell (j := 0) rfl
  have HR := hide (Row.of_own ho)
  clear hb ho
  go_enter Try.func23, Try.ntmps23
  go_wp2_with (first | (go_at_call 34; refine (isNone_any g h s _ f).mono ?_; rintro e w1 ⟨rfl, rfl⟩) | (go_at_call 35; refine (Clone_any _ _ _ _ s.ws _ HR.out (Nat.le_refl _) (by omega) (by omega)).mono ?_; rintro e w2 ⟨h2, c2, rfl, ho2, hk2, hh2⟩))
  go_ret
  exact ⟨h2, c2, rfl, ho2, hk2, hh2⟩
theorem Of_no (B : Nat) (A : Option Addr) (n c : Nat) (l : List UInt32) (w : World) (hr : Row w B A n c (cs32 l)) (hno : ¬ (1 ≤ n / 256 ∧ n / 256 ≤ 16 ∧ n % 256 = 0)) : Calls Try.prog 18 #[.slice A n c] w fun e w' => e = .returned (.pointer none) ∧ w = w' := by
  have hm := hr.max
  have hcap := hr.cap
  unfold maxLen at hm
  by_cases h1 : n % 256 = 0
  · have d1 : ((n : Int) % 256 != 0) = false := by rw [bne_eq_false_iff_eq]; omega
    have HC := hide (show cntB ((n : Int) / 256) = false by unfold cntB; rw [decide_eq_false_iff_not]; omega)
    go_enter Try.func18, Try.ntmps18
    go_wp2_with (go_at_call 24; refine (isCount_any _ _).mono ?_; rintro e w1 ⟨rfl, rfl⟩; rw [HC.out])
    go_ret
    exact ⟨rfl, rfl⟩
  · have d1 : ((n : Int) % 256 != 0) = true := by rw [bne_iff_ne]; omega
    go_enter Try.func18, Try.ntmps18
    go_wp2
    go_ret
    exact ⟨rfl, rfl⟩
theorem Of_any (B : Nat) (A : Option Addr) (n c : Nat) (l : List UInt32) (w : World) (hr : Row w B A n c (cs32 l)) (hB : B ≤ w.heap.size) (hyes : 1 ≤ n / 256 ∧ n / 256 ≤ 16 ∧ n % 256 = 0) : Calls Try.prog 18 #[.slice A n c] w (Makes w (ofS l)) := by
  have hln := hr.len
  rw [cs32_len] at hln
  have d1 : ((n : Int) % 256 != 0) = false := by rw [bne_eq_false_iff_eq]; omega
  have HC := hide (show cntB ((n : Int) / 256) = true by unfold cntB; rw [decide_eq_true_iff]; omega)
  have HL := hide hln
  obtain ⟨b, o, rfl, _⟩ := hr.cells (by omega)
  have HR := hide hr
  have hn1 : 256 ≤ n := by omega
  have hn2 : n ≤ 4351 := by omega
  have HY := hide hyes
  clear hln hr hyes
  go_enter Try.func18, Try.ntmps18
  go_wp2_with (first
    | (go_at_call 24; refine (isCount_any _ _).mono ?_; rintro e w1 ⟨rfl, rfl⟩; rw [HC.out])
    | (go_at_call 35; refine (Clone_any _ _ _ _ l _ HR.out hB (by omega) (by omega)).mono ?_; rintro e w2 ⟨h2, c2, rfl, ho2, hk2, hh2⟩))
  go_ret
  have := own_lt ho2
  have := hk2.size
  have := HL.out
  have := HY.out
  exact ⟨_, h2, rfl, ⟨⟨⟨n / 256, by omega, by omega, by show l.length = _; omega⟩, Nat.zero_le _⟩, by omega, c2, Blk.new _ _ (flC h2 c2 (ofS l)), ho2.alloc _⟩, hk2.alloc _, by omega, hh2⟩
end Go.Proofs.Ytahnfkoakaimhaa
