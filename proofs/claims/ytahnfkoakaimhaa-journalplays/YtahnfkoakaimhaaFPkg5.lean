/-
  Contracts of package flash: Program, Erase; and the calls of a flash that is not there.
-/
import Derived.Test.YtahnfkoakaimhaaFPkg4
namespace Go.Proofs.Ytahnfkoakaimhaa
open Go.RowKit
set_option maxHeartbeats 400000

theorem Program_nil (n m : Int) (w : World) : Calls Try.prog 55 #[.pointer none, .int .i64 n, .int .u32 m] w fun e w' => e = .returned (.int .i64 26) ∧ w = w' := by
  go_enter Try.func55, Try.ntmps55
  go_wp2_with (first | (go_at_call 36; refine (Len_nil _).mono ?_; rintro e w1 ⟨rfl, rfl⟩) | (go_at_call 61; refine (refusal_nil _ _ _).mono ?_; rintro e w1 ⟨rfl, rfl⟩))
  go_ret
  exact ⟨rfl, rfl⟩
theorem Erase_nil (n : Int) (w : World) : Calls Try.prog 54 #[.pointer none, .int .i64 n] w fun e w' => e = .returned (.int .i64 26) ∧ w = w' := by
  go_enter Try.func54, Try.ntmps54
  go_wp2_with (first | (go_at_call 36; refine (Len_nil _).mono ?_; rintro e w1 ⟨rfl, rfl⟩) | (go_at_call 61; refine (refusal_nil _ _ _).mono ?_; rintro e w1 ⟨rfl, rfl⟩))
  go_ret
  exact ⟨rfl, rfl⟩
theorem refE_in {on : Bool} {a : Int} {n : Nat} (hr : refE on a n = 0) : 0 ≤ a ∧ a < n := by
  unfold refE at hr; split at hr
  · split at hr
    · assumption
    · omega
  · omega
theorem not_w (v : UInt32) : bits .xor .u32 IntKind.u32.max (v.toNat : Int) = ((iU v).toNat : Int) := by
  rw [show IntKind.u32.max = ((4294967295 : Nat) : Int) from rfl, u32_xor_nat _ _ (by omega) v.toNat_lt]
  have h : (4294967295 ^^^ v.toNat : Nat) = (iU v).toNat := by
    show (BitVec.allOnes 32 ^^^ v.toBitVec).toNat = (~~~v.toBitVec).toNat
    rw [BitVec.allOnes_xor]
  rw [h]
theorem keeps_new {S : List Nat} {w w1 : World} {o : Obj} (h : Keeps S (w.alloc o) w1) : Keeps S w w1 := ((Keeps.refl S w).alloc o).trans h (fun _ hi => .inl hi)
theorem Program_any (g h : Nat) (s : FS) (a : Int) (v : UInt32) (w : World) (f : Fl w g h s) (hops : s.ops ≤ 4611686018427387904) :
    Calls Try.prog 55 #[.pointer (some ⟨g, 0, none⟩), .int .i64 a, .int .u32 (v.toNat : Int)] w (Does w g h (proS s a v) (.int .i64 (proE s a))) := by
  obtain ⟨c, hb, ho⟩ := f.ex
  have hl := len_pos f.ok
  have c0 := hb.cell (j := 0) rfl
  by_cases hr : refE s.on a s.ws.length = 0
  · have H1 := hide (show proE s a = planE s.plan by unfold proE; rw [if_pos hr])
    have H2 := hide (show proS s a v = opS s (proW s.ws a.toNat v) ones32 by unfold proS; rw [if_pos hr])
    have h2 := refE_in hr
    obtain ⟨k, rfl⟩ : ∃ k : Nat, a = (k : Int) := ⟨a.toNat, by omega⟩
    rw [Int.toNat_natCast] at H2
    have hk : k < s.ws.length := by omega
    have R := hide hr
    have hus : ¬ IntKind.u32.signed = true := by decide
    have hnw := not_w
    have HB := hide hb
    have HO := hide ho
    clear hb ho h2 hr
    go_enter Try.func55, Try.ntmps55
    go_wp2_with (first | (go_at_call 36; refine (Len_any g h _ _ f).mono ?_; rintro e w1 ⟨rfl, rfl⟩) | (go_at_call 61; refine (refusal_any g h _ _ (s.ws.length) _ f).mono ?_; rintro e w1 ⟨rfl, rfl⟩; rw [R.out]))
    refine (operateP g h s.ws s.on s.ops s.plan k hk v _ (((Keeps.refl [] w).alloc _).fl f (by simp) (by simp)) c (HB.out.alloc _) (HO.out.alloc _) hops).mono ?_
    rintro e w1 ⟨rfl, f1, hk1⟩
    go_wp2
    go_ret
    exact ⟨ret_int H1.out.symm, by rw [H2.out]; exact f1, keeps_new hk1⟩
  · have H1 := hide (show proE s a = refE s.on a s.ws.length by unfold proE; rw [if_neg hr])
    have H2 := hide (show proS s a v = s by unfold proS; rw [if_neg hr])
    have d : (refE s.on a s.ws.length != 0) = true := by rw [bne_iff_ne]; exact hr
    clear hb ho hr
    go_enter Try.func55, Try.ntmps55
    go_wp2_with (first | (go_at_call 36; refine (Len_any g h _ _ f).mono ?_; rintro e w1 ⟨rfl, rfl⟩) | (go_at_call 61; refine (refusal_any g h _ _ (s.ws.length) _ f).mono ?_; rintro e w1 ⟨rfl, rfl⟩))
    go_ret
    exact ⟨ret_int H1.out.symm, by rw [H2.out]; exact f, Keeps.refl _ _⟩
theorem part_same (h n c lo : Nat) (hh : lo + 256 ≤ n) (hc : n ≤ c) (W : World) :
    (Instr.slice 36 (.slice (some ⟨h, 0, none⟩) n c) (some (.int .i64 (lo : Int))) (some (.int .i64 ((lo : Int) + 256))) none).run Try.prog W = .ok (.slice (some ⟨h, lo, none⟩) 256 (c - lo)) W := by
  have he : Try.prog.elem 36 = 37 := by simp [Program.elem, Try.underlying36]
  have hs : ∀ W, (Go.sizeOf 37).run Try.prog W = .ok 1 W := by
    intro W
    obtain ⟨i, hi, h1⟩ := Option.map_eq_some_iff.1 size32
    simp [sizeOf, typeInfo, hi, h1]
  rw [run_slice_lh W 36 _ n c (by rw [he]; exact Try.underlying36) .i64 .i64 (lo : Int) ((lo : Int) + 256) (by omega) (by omega) (by omega), he, hs]
  have h1 : ¬ (c = lo) := by omega
  simp [Result.andThen, Go.sliced, Addr.add, h1]
  exact ⟨fun h => h.symm, by omega⟩
theorem Erase_any (g h : Nat) (s : FS) (n : Int) (w : World) (f : Fl w g h s) (hops : s.ops ≤ 4611686018427387904) :
    Calls Try.prog 54 #[.pointer (some ⟨g, 0, none⟩), .int .i64 n] w (Does w g h (eraS s n) (.int .i64 (eraE s n))) := by
  obtain ⟨c, hb, ho⟩ := f.ex
  have hl := len_pos f.ok
  have c0 := hb.cell (j := 0) rfl
  obtain ⟨q, hq⟩ : ∃ q, q = s.ws.length / 256 := ⟨_, rfl⟩
  have hdv : (s.ws.length : Int) / 256 = (q : Int) := by omega
  by_cases hr : refE s.on n q = 0
  · have H1 := hide (show eraE s n = planE s.plan by unfold eraE; rw [← hq, if_pos hr])
    have H2 := hide (show eraS s n = opS s (eraW s.ws (256 * n.toNat)) s256 by unfold eraS; rw [← hq, if_pos hr])
    have h2 := refE_in hr
    obtain ⟨k, rfl⟩ : ∃ k : Nat, n = (k : Int) := ⟨n.toNat, by omega⟩
    rw [Int.toNat_natCast] at H2
    have hk : k ≤ 15 := by omega
    have hk2 : 256 * k + 256 ≤ s.ws.length := by omega
    have hcp := own_cap ho
    have hmx := (Row.of_own ho).max
    unfold maxLen at hmx
    obtain ⟨lo, hlo⟩ : ∃ lo, lo = 256 * k := ⟨_, rfl⟩
    have hki : (k : Int) * 256 = (lo : Int) := by omega
    have hsl := part_same h s.ws.length c lo (by omega) hcp
    rw [← hlo] at H2 hk2
    have R := hide hr
    have HB := hide hb
    have HO := hide ho
    have HLO := hide hlo
    have hlo2 : lo ≤ 4096 := by omega
    clear hb ho h2 hr hlo hcp hmx hq
    go_enter Try.func54, Try.ntmps54
    go_wp2_with (first | (go_at_call 36; refine (Len_any g h _ _ f).mono ?_; rintro e w1 ⟨rfl, rfl⟩) | (go_at_call 61; refine (refusal_any g h _ _ q _ f).mono ?_; rintro e w1 ⟨rfl, rfl⟩; rw [R.out]))
    refine (operateE g h s.ws s.on s.ops s.plan lo _ hk2 _ (((Keeps.refl [] w).alloc _).fl f (by simp) (by simp)) c (HB.out.alloc _) (HO.out.alloc _) hops).mono ?_
    rintro e w1 ⟨rfl, f1, hk1⟩
    go_wp2
    go_ret
    exact ⟨ret_int H1.out.symm, by rw [H2.out]; exact f1, keeps_new hk1⟩
  · have H1 := hide (show eraE s n = refE s.on n q by unfold eraE; rw [← hq, if_neg hr])
    have H2 := hide (show eraS s n = s by unfold eraS; rw [← hq, if_neg hr])
    have d : (refE s.on n q != 0) = true := by rw [bne_iff_ne]; exact hr
    clear hb ho hr hq
    go_enter Try.func54, Try.ntmps54
    go_wp2_with (first | (go_at_call 36; refine (Len_any g h _ _ f).mono ?_; rintro e w1 ⟨rfl, rfl⟩) | (go_at_call 61; refine (refusal_any g h _ _ q _ f).mono ?_; rintro e w1 ⟨rfl, rfl⟩))
    go_ret
    exact ⟨ret_int H1.out.symm, by rw [H2.out]; exact f, Keeps.refl _ _⟩
end Go.Proofs.Ytahnfkoakaimhaa
