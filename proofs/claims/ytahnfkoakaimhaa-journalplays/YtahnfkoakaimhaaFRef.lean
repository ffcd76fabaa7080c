/-
  Contracts of the reference of layer 6 (midstreamref06): Made, Of, torn, Read, Cut, Start.
-/
import Derived.Test.YtahnfkoakaimhaaFKnown
namespace Go.Proofs.Ytahnfkoakaimhaa
open Go.RowKit
set_option maxHeartbeats 400000

/-- A new flash of the reference, and true. -/
def MakesR (w : World) (s' : FS) (e : Ending) (w' : World) : Prop := ∃ g h, e = .returned (.tuple #[.pointer (some ⟨g, 0, none⟩), .bool true]) ∧ Rf w' g h s' ∧ Keeps [] w w' ∧ w.heap.size ≤ g ∧ w.heap.size ≤ h
def NoneR (w : World) (e : Ending) (w' : World) : Prop := ∃ g, e = .returned (.tuple #[.pointer (some ⟨g, 0, none⟩), .bool false]) ∧ Keeps [] w w'
def rfN (h c n : Nat) (m : UInt32) (s : FS) : List Value :=
  [.slice (some ⟨h, 0, none⟩) n c, .bool (!s.on), .int .i64 (planI s.plan), .int .u32 (m.toNat : Int), .int .i64 (s.ops : Int)]
theorem Rf.of {w : World} {g h c n : Nat} {m : UInt32} {ws : List UInt32} {on : Bool} {ops : Nat} {plan : Option (Nat × UInt32)} {cs : List Value} (hok : FS.Ok ⟨ws, on, ops, plan⟩) (hne : g ≠ h) (hm : ∀ k x, plan = some (k, x) → m = x) (hb : Blk w g 62 cs) (ho : w.ownsRow 0 37 1 (.slice (some ⟨h, 0, none⟩) n c) n (cs32 ws)) (hcs : cs = rfN h c n m ⟨[], on, ops, plan⟩) : Rf w g h ⟨ws, on, ops, plan⟩ := by
  obtain rfl := own32_len ho
  subst hcs
  exact ⟨hok, hne, c, m, hm, hb, ho⟩
theorem rMade_no (n : Int) (w : World) (h : cntB n = false) : Calls Try.prog 8 #[.int .i64 n] w (NoneR w) := by
  have h2 : ¬ (1 ≤ n ∧ n ≤ 16) := by unfold cntB at h; rwa [decide_eq_false_iff_not] at h
  by_cases h1 : n < 1
  · have d1 : decide (n < 1) = true := by simpa using h1
    go_enter Try.func8, Try.ntmps8
    go_wp2
    go_ret2
    exact ⟨_, rfl, (Keeps.refl _ _).alloc _⟩
  · have d1 : decide (n < 1) = false := by simpa using h1
    have d2 : decide (16 < n) = true := by simp; omega
    go_enter Try.func8, Try.ntmps8
    go_wp2
    go_ret2
    exact ⟨_, rfl, (Keeps.refl _ _).alloc _⟩
theorem rMade_any (k : Nat) (h1 : 1 ≤ k) (h2 : k ≤ 16) (w : World) : Calls Try.prog 8 #[.int .i64 (k : Int)] w (MakesR w (ofS (List.replicate (256 * k) ones32))) := by
  obtain ⟨i0, hi, hz0, hz1, hz2⟩ := info_parts info32
  obtain ⟨n, hn⟩ : ∃ n, n = 256 * k := ⟨_, rfl⟩
  have hni : (256 : Int) * (k : Int) = (n : Int) := by omega
  have HN := hide hn
  have hn1 : 256 ≤ n := by omega
  have hn2 : n ≤ 4096 := by omega
  have d1 : decide ((k : Int) < 1) = false := by simp; omega
  have d2 : decide ((16 : Int) < (k : Int)) = false := by simp; omega
  have HO := hide h1
  rw [← hn]
  clear hn h1
  go_enter Try.func8, Try.ntmps8
  go_wp2
  go_loopw [4, 5] (fun s i wr => ∃ (j : Nat) (A' : Option Addr) (c' : Nat), j ≤ n ∧ i = .int .i64 (j : Int) ∧ s = .slice A' j c' ∧ wr.ownsRow w.heap.size 37 1 (.slice A' j c') j (cs32 (List.replicate j ones32)) ∧ Below w.heap.size w wr) (fun _ i _ => n - (intOf i).toNat)
  case atStart => exact ⟨0, _, _, Nat.zero_le _, rfl, rfl, World.ownsRow_nil _ _ _ _, Below.refl _ _⟩
  case round =>
    obtain ⟨j, A', c', hj, rfl, rfl, ho, hb⟩ := hrel
    have hbs := hb.size
    by_cases hlt : j < n
    · have HE := hide (show cs32 (List.replicate (j + 1) ones32) = cs32 (List.replicate j ones32) ++ [.int .u32 4294967295] by rw [List.replicate_succ', cs32_snoc, ones32_toNat]; rfl)
      go_wp2_with (at_builtin; refine wpList_append_row rfl (.tmp 20) (.tmp 21) 36 rfl w.heap.size 37 i0 _ 4 Try.underlying36 hi hz0 hz1 hz2 rfl _ _ _ rfl (ho.alloc _) _ _ _ _ _ rfl (Row.one _ _ _) (one_u32 _) (by unfold maxLen; omega) (by omega) w (hb.alloc (by omega) _) (Nat.le_refl _) ?_; intro A2 c2 w2 ho2 hb2 hg2)
      go_roundw
      case rel => exact ⟨j + 1, A2, c2, by omega, by go_num, rfl, by rw [HE.out]; exact ho2, hb2⟩
      case measure => simp [intOf]; omega
    · obtain rfl : j = n := by omega
      obtain ⟨g3, rfl⟩ := own_some ho (by omega)
      go_wp2
      go_ret2
      have hlt3 := ho.lt g3 rfl
      exact ⟨_, g3, rfl, Rf.of (m := 0) ⟨⟨k, HO.out, h2, by show (List.replicate j ones32).length = _; rw [List.length_replicate, HN.out]⟩, Nat.zero_le _⟩ (by omega) (by intro _ _ h; cases h) (Blk.new _ _ (rfN g3 c' j 0 ⟨[], true, 0, none⟩)) ((own_base (Nat.zero_le _) ho).alloc _) rfl, (Keeps.of_below hb).alloc _, by omega, hlt3.1⟩
theorem rOf_no (B : Nat) (A : Option Addr) (n c : Nat) (l : List UInt32) (w : World) (hr : Row w B A n c (cs32 l)) (hno : ¬ (1 ≤ n / 256 ∧ n / 256 ≤ 16 ∧ n % 256 = 0)) : Calls Try.prog 19 #[.slice A n c] w (NoneR w) := by
  have hm := hr.max
  have hcap := hr.cap
  unfold maxLen at hm
  by_cases h0 : n = 0
  · subst h0
    go_enter Try.func19, Try.ntmps19
    go_wp2
    go_ret2
    exact ⟨_, rfl, (Keeps.refl _ _).alloc _⟩
  · have d0 : ((n : Int) == 0) = false := by rw [beq_eq_false_iff_ne]; omega
    by_cases h1 : n % 256 = 0
    · have d1 : ((n : Int) % 256 != 0) = false := by rw [bne_eq_false_iff_eq]; omega
      have d2 : decide ((4096 : Int) < (n : Int)) = true := by simp; omega
      go_enter Try.func19, Try.ntmps19
      go_wp2
      go_ret2
      exact ⟨_, rfl, (Keeps.refl _ _).alloc _⟩
    · have d1 : ((n : Int) % 256 != 0) = true := by rw [bne_iff_ne]; omega
      go_enter Try.func19, Try.ntmps19
      go_wp2
      go_ret2
      exact ⟨_, rfl, (Keeps.refl _ _).alloc _⟩
theorem rOf_any (B : Nat) (A : Option Addr) (n c : Nat) (l : List UInt32) (w : World) (hr : Row w B A n c (cs32 l)) (hyes : 1 ≤ n / 256 ∧ n / 256 ≤ 16 ∧ n % 256 = 0) : Calls Try.prog 19 #[.slice A n c] w (MakesR w (ofS l)) := by
  obtain ⟨i0, hi, hz0, hz1, hz2⟩ := info_parts info32
  have hln := hr.len
  rw [cs32_len] at hln
  have d0 : ((n : Int) == 0) = false := by rw [beq_eq_false_iff_ne]; omega
  have d1 : ((n : Int) % 256 != 0) = false := by rw [bne_eq_false_iff_eq]; omega
  have d2 : decide ((4096 : Int) < (n : Int)) = false := by simp; omega
  have hn1 : 256 ≤ n := by omega
  have hn2 : n ≤ 4096 := by omega
  have HL := hide hln
  have HY := hide hyes
  clear hln hyes
  go_enter Try.func19, Try.ntmps19
  go_wp2_with (at_builtin; refine wpList_append_row rfl (.tmp 21) (.tmp 22) 36 rfl w.heap.size 37 i0 _ 4 Try.underlying36 hi hz0 hz1 hz2 rfl _ 0 [] rfl (World.ownsRow_nil _ _ _ _) B _ _ _ _ rfl hr (cs32_one l) (by unfold maxLen; omega) (by omega) w (Below.refl _ _) (Nat.le_refl _) ?_; intro A2 c2 w2 ho2 hb2 hg2; simp only [Nat.zero_add, List.nil_append] at ho2; obtain ⟨g3, rfl⟩ := own_some ho2 (by omega))
  go_ret2
  have hlt3 := ho2.lt g3 rfl
  have := HL.out
  have := HY.out
  exact ⟨_, g3, rfl, Rf.of (m := 0) ⟨⟨n / 256, by omega, by omega, by show l.length = _; omega⟩, Nat.zero_le _⟩ (by omega) (by intro _ _ h; cases h) (Blk.new _ _ (rfN g3 c2 n 0 ⟨[], true, 0, none⟩)) ((own_base (Nat.zero_le _) ho2).alloc _) rfl, (Keeps.of_below hb2).alloc _, by have := hb2.size; omega, hlt3.1⟩
def decP : Option (Nat × UInt32) → Option (Nat × UInt32)
  | some (k + 1, x) => some (k, x)
  | _ => none
theorem torn_yes (g h c n : Nat) (m x : UInt32) (on : Bool) (ops : Nat) (w : World) (hb : Blk w g 62 (rfN h c n m ⟨[], on, ops, some (0, x)⟩)) :
    Calls Try.prog 46 #[.pointer (some ⟨g, 0, none⟩)] w fun e w' => e = .returned (.bool true) ∧ Blk w' g 62 (rfN h c n m ⟨[], false, ops, none⟩) ∧ Keeps [g] w w' := by
  have c1 : w.cell? ⟨g, 1, none⟩ = some (.bool (!on)) := hb.cell (j := 1) rfl
  have c2 : w.cell? ⟨g, 2, none⟩ = some (.int .i64 0) := hb.cell (j := 2) rfl
  have z1 := hb.frozen 1
  have z2 := hb.frozen 2
  have HB := hide hb
  clear hb
  go_enter Try.func46, Try.ntmps46
  go_wp2
  go_ret
  exact ⟨rfl, (HB.out.set 2 (.int .i64 (-1))).set 1 (.bool true), ((Keeps.refl _ _).set (.inl (by simp)) _).set (.inl (by simp)) _⟩
theorem torn_no (g h c n : Nat) (m : UInt32) (on : Bool) (ops : Nat) (plan : Option (Nat × UInt32)) (w : World) (hb : Blk w g 62 (rfN h c n m ⟨[], on, ops, plan⟩)) (hp : planE plan = 0) (hl : leftN plan ≤ 9223372036854775807) (hops : ops ≤ 4611686018427387904) :
    Calls Try.prog 46 #[.pointer (some ⟨g, 0, none⟩)] w fun e w' => e = .returned (.bool false) ∧ Blk w' g 62 (rfN h c n m ⟨[], on, ops + 1, decP plan⟩) ∧ Keeps [g] w w' := by
  have c4 : w.cell? ⟨g, 4, none⟩ = some (.int .i64 (ops : Int)) := hb.cell (j := 4) rfl
  have z2 := hb.frozen 2
  have z4 := hb.frozen 4
  have HB := hide hb
  rcases plan with _ | ⟨_ | k, x⟩
  · have c2 : w.cell? ⟨g, 2, none⟩ = some (.int .i64 (-1)) := hb.cell (j := 2) rfl
    clear hb hp hl
    go_enter Try.func46, Try.ntmps46
    go_wp2
    go_ret
    exact ⟨rfl, HB.out.set 4 _, (Keeps.refl _ _).set (.inl (by simp)) _⟩
  · cases hp
  · have c2 : w.cell? ⟨g, 2, none⟩ = some (.int .i64 ((k : Int) + 1)) := hb.cell (j := 2) rfl
    have hk9 : k + 1 ≤ 9223372036854775807 := hl
    have e4 : ((k : Int) + 1 == 0) = false := by rw [beq_eq_false_iff_ne]; omega
    have e5 : decide ((0 : Int) < (k : Int) + 1) = true := decide_eq_true (by omega)
    clear hb hp hl
    go_enter Try.func46, Try.ntmps46
    go_wp2
    go_ret
    exact ⟨rfl, (HB.out.set 2 _).set 4 _, ((Keeps.refl _ _).set (.inl (by simp)) _).set (.inl (by simp)) _⟩
theorem rStart_any (g h : Nat) (s : FS) (w : World) (f : Rf w g h s) : Calls Try.prog 16 #[.pointer (some ⟨g, 0, none⟩)] w (DoesR w g h (staS s) (.tuple #[])) := by
  obtain ⟨c, m, hm, hb, ho⟩ := f.ex
  have z1 := hb.frozen 1
  have c1 := hb.cell (j := 1) rfl
  have HB := hide hb
  have HO := hide ho
  clear hb ho
  go_enter Try.func16, Try.ntmps16
  go_wp2
  go_end0
  exact ⟨rfl, ⟨f.ok.staS, f.ne, c, m, hm, HB.out.set 1 (.bool false), own_fld HO.out f.ne _ _⟩, (Keeps.refl _ _).set (.inl (by simp)) _⟩
theorem rCut_any (g h : Nat) (s : FS) (n : Int) (m : UInt32) (w : World) (f : Rf w g h s) (hn : n ≤ 9223372036854775807) : Calls Try.prog 14 #[.pointer (some ⟨g, 0, none⟩), .int .i64 n, .int .u32 (m.toNat : Int)] w (DoesR w g h (cutS s n m) (.int .i64 (cutE n))) := by
  by_cases h0 : n < 0
  · have d : decide (n < 0) = true := by simpa using h0
    have H := hide (show cutE n = 1 by unfold cutE; rw [if_neg (by omega)])
    have H2 := hide (show cutS s n m = s by unfold cutS; rw [if_neg (by omega)])
    go_enter Try.func14, Try.ntmps14
    go_wp2
    go_ret
    exact ⟨ret_int H.out.symm, by rw [H2.out]; exact f, Keeps.refl _ _⟩
  · have d : decide (n < 0) = false := by simpa using h0
    obtain ⟨k, rfl⟩ : ∃ k : Nat, n = (k : Int) := ⟨n.toNat, by omega⟩
    have H := hide (show cutE (k : Int) = 0 by unfold cutE; rw [if_pos (by omega)])
    have H2 := hide (show cutS s (k : Int) m = ⟨s.ws, s.on, s.ops, some (k, m)⟩ by unfold cutS; rw [if_pos (by omega), Int.toNat_natCast])
    obtain ⟨c, m0, _, hb, ho⟩ := f.ex
    have z1 := hb.frozen 2
    have c1 := hb.cell (j := 2) rfl
    have z2 := hb.frozen 3
    have c2 := hb.cell (j := 3) rfl
    have HB := hide hb
    have HO := hide ho
    have HN := hide hn
    clear hb ho h0 hn
    go_enter Try.func14, Try.ntmps14
    go_wp2
    go_ret
    exact ⟨ret_int H.out.symm, by rw [H2.out]; exact ⟨⟨f.ok.len, by have := HN.out; show k ≤ _; omega⟩, f.ne, c, m, by (intro _ _ e; injection e with e; injection e), (HB.out.set 2 (.int .i64 (k : Int))).set 3 (.int .u32 (m.toNat : Int)), own_fld (own_fld HO.out f.ne _ _) f.ne _ _⟩, ((Keeps.refl _ _).set (.inl (by simp)) _).set (.inl (by simp)) _⟩
end Go.Proofs.Ytahnfkoakaimhaa
