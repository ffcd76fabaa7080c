/-
  Contracts of package journal: Open.
-/
import Derived.Test.YtahnfkoakaimhaaJMem
import Derived.Test.YtahnfkoakaimhaaFRows
namespace Go.Proofs.Ytahnfkoakaimhaa
open Go.RowKit
set_option maxHeartbeats 2000000

theorem Open_nil (at_ : Int) (w : World) : Calls Try.prog 20 #[.pointer none, .int .i64 at_] w fun e w' => e = .returned (.tuple #[.pointer none, .int .i64 26]) ∧ w = w' := by
  go_enter Try.func20, Try.ntmps20
  go_wp2_with (go_at_call 36; refine (Len_nil _).mono ?_; rintro e w1 ⟨rfl, rfl⟩)
  go_ret2
  exact ⟨rfl, rfl⟩
theorem Open_off (g h : Nat) (s : FS) (at_ : Int) (w : World) (f : Fl w g h s) (hoff : s.on = false) : Calls Try.prog 20 #[.pointer (some ⟨g, 0, none⟩), .int .i64 at_] w fun e w' => e = .returned (.tuple #[.pointer none, .int .i64 7]) ∧ w = w' := by
  have hl := len_pos f.ok
  have d0 : ((s.ws.length : Int) == 0) = false := by rw [beq_eq_false_iff_ne]; omega
  have HO := hide hoff
  clear hoff
  go_enter Try.func20, Try.ntmps20
  go_wp2_with (first | (go_at_call 36; refine (Len_any g h s _ f).mono ?_; rintro e w1 ⟨rfl, rfl⟩) | (go_at_call 27; refine (On_any g h s _ f).mono ?_; rintro e w1 ⟨rfl, rfl⟩; rw [HO.out]))
  go_ret2
  exact ⟨rfl, rfl⟩
theorem Open_out (g h : Nat) (s : FS) (at_ : Int) (w : World) (f : Fl w g h s) (hon : s.on = true) (hno : ¬ (0 ≤ at_ ∧ at_ + 2 ≤ (s.ws.length / 256 : Nat))) : Calls Try.prog 20 #[.pointer (some ⟨g, 0, none⟩), .int .i64 at_] w fun e w' => e = .returned (.tuple #[.pointer none, .int .i64 10]) ∧ w = w' := by
  have hl := len_pos f.ok
  have d0 : ((s.ws.length : Int) == 0) = false := by rw [beq_eq_false_iff_ne]; omega
  have HO := hide hon
  have key : (decide (at_ < 0) = true) ∨ (decide (at_ < 0) = false ∧ decide ((s.ws.length : Int) / 256 - 1 ≤ at_) = true) := by
    simp only [decide_eq_true_eq, decide_eq_false_iff_not]; omega
  clear hon hno
  rcases key with e1 | ⟨e1, e2⟩
  all_goals
    go_enter Try.func20, Try.ntmps20
    go_wp2_with (first | (go_at_call 36; refine (Len_any g h s _ f).mono ?_; rintro e w1 ⟨rfl, rfl⟩) | (go_at_call 27; refine (On_any g h s _ f).mono ?_; rintro e w1 ⟨rfl, rfl⟩; rw [HO.out]))
    go_ret2
    exact ⟨rfl, rfl⟩
/-- A new journal. -/
def Opens (w : World) (gf k : Nat) (ws : List UInt32) (e : Ending) (w' : World) : Prop :=
  ∃ gj hj, e = .returned (.tuple #[.pointer (some ⟨gj, 0, none⟩), .int .i64 0]) ∧ Jr w' gj hj gf k ws (opJ ws k) ∧ Keeps [] w w' ∧ w.heap.size ≤ gj ∧ w.heap.size ≤ hj
theorem sect_rows (ws : List UInt32) (k : Nat) : (((cs32 ws).drop (256 * k)).take 256 = cs32 (sect ws k)) ∧ ((((cs32 ws).drop (256 * k)).drop 256).take 256 = cs32 (sect ws (k + 1))) := by
  unfold sect
  rw [List.drop_drop, show 256 * k + 256 = 256 * (k + 1) from rfl]
  unfold cs32
  rw [List.map_take, List.map_drop, List.map_take, List.map_drop]
  exact And.intro rfl rfl
def SurvL (w : World) (B : Nat) (l : List UInt32) (e : Ending) (w' : World) : Prop :=
  ∃ (A : Option Addr) (n c num used : Nat) (cl : Bool), e = .returned (.agg #[.slice A n c, .int .u32 (num : Int), .int .i64 (used : Int), .bool cl]) ∧ Below w.heap.size w w' ∧ Row w B A n c (cs32 (walkW l).rcd) ∧ (n = 0 → A = none ∧ c = 0) ∧ num ≤ 2147483647 ∧ Hid (num = (walkW l).num ∧ used = (walkW l).used ∧ cl = cleanB l (walkW l).used)
theorem survey_let (B : Nat) (A : Option Addr) (n c : Nat) (l : List UInt32) (w : World) (hr : Row w B A n c (cs32 l)) (hB : B ≤ w.heap.size) (hn : n ≤ 256) :
    Calls Try.prog 37 #[.slice A n c] w (SurvL w B l) :=
  (survey_any B A n c l w hr hB hn).mono fun _ _ ⟨hb, A', k, c', he, hrow, hnil⟩ => ⟨A', k, c', _, _, _, he, hb, hrow, hnil, walk_num l, rfl, rfl, rfl⟩
theorem Open_in (gf h : Nat) (s : FS) (k : Nat) (w : World) (f : Fl w gf h s) (hon : s.on = true) (hk : 256 * (k + 2) ≤ s.ws.length) : Calls Try.prog 20 #[.pointer (some ⟨gf, 0, none⟩), .int .i64 (k : Int)] w (Opens w gf k s.ws) := by
  have hl := len_pos f.ok
  have d0 : ((s.ws.length : Int) == 0) = false := by rw [beq_eq_false_iff_ne]; omega
  have HO := hide hon
  have e1 : decide ((k : Int) < 0) = false := by simp
  have e2 : decide ((s.ws.length : Int) / 256 - 1 ≤ (k : Int)) = false := by rw [decide_eq_false_iff_not]; omega
  have HK := hide hk
  have hk15 : k ≤ 14 := by omega
  clear hon hk
  go_enter Try.func20, Try.ntmps20
  go_wp2_with (first | (go_at_call 36; refine (Len_any gf h s _ f).mono ?_; rintro e w1 ⟨rfl, rfl⟩) | (go_at_call 27; refine (On_any gf h s _ f).mono ?_; rintro e w1 ⟨rfl, rfl⟩; rw [HO.out]))
  refine (Words_any gf h s _ f).mono ?_
  rintro e w1 ⟨x1, c1, rfl, ho1, k1, hx1⟩
  have q1 := Row.of_own ho1
  obtain ⟨A2, k2, hsl2, r2⟩ := q1.tailed Try.underlying36 size32 (lo := 256 * k) (by have := HK.out; omega) ((k : Int) * 256) (by omega)
  obtain ⟨A3, k3, hsl3, r3⟩ := r2.headed Try.underlying36 size32 (hi := 256) (by have := HK.out; omega) 256 rfl
  obtain ⟨A4, k4, hsl4, r4⟩ := r2.sliced Try.underlying36 size32 (lo := 256) (hi := 512) (by omega) (by have := HK.out; omega) 256 512 rfl rfl
  rw [(sect_rows s.ws k).1] at r3
  rw [show 512 - 256 = 256 from rfl, (sect_rows s.ws k).2] at r4
  have hs1 := k1.size
  have HX := hide (And.intro hl (And.intro HK.out (And.intro k1 hx1)))
  clear hl q1 r2 ho1 k1 hx1 HK
  go_wp2_with fail
  refine (survey_let w1.heap.size _ _ _ (sect s.ws k) w1 r3 (Nat.le_refl _) (by omega)).mono ?_
  rintro e w2 ⟨A5, n5, c5, num5, us5, cl5, rfl, b2, r5, hnil5, hnm5, HV5⟩
  have hs2 := b2.size
  go_wp2_with fail
  have bl5 := Blk.new w2 64 [.slice A5 n5 c5, .int .u32 (num5 : Int), .int .i64 (us5 : Int), .bool cl5]
  have b23 : Below w1.heap.size w1 (w2.alloc (.cells #[.slice A5 n5 c5, .int .u32 (num5 : Int), .int .i64 (us5 : Int), .bool cl5] 64)) := b2.alloc hs2 _
  have hsz : (w2.alloc (.cells #[.slice A5 n5 c5, .int .u32 (num5 : Int), .int .i64 (us5 : Int), .bool cl5] 64)).heap.size = w2.heap.size + 1 := by simp
  generalize w2.alloc (.cells #[.slice A5 n5 c5, .int .u32 (num5 : Int), .int .i64 (us5 : Int), .bool cl5] 64) = w3 at bl5 b23 hsz ⊢
  refine (survey_let w1.heap.size _ _ _ (sect s.ws (k + 1)) w3 (r4.keep b23 (Nat.le_refl _)) (by omega) (by omega)).mono ?_
  rintro e w4 ⟨A6, n6, c6, num6, us6, cl6, rfl, b4, r6, hnil6, hnm6, HV6⟩
  have hs4 := b4.size
  have bl54 := bl5.keep b4 bl5.lt
  have b14 : Below w1.heap.size w1 w4 := b23.trans (b4.mono (by omega))
  have r64 := r6.back b23 (Nat.le_refl _)
  have HB1 := hide (And.intro b14 (And.intro r5 (And.intro r64 (And.intro hnil5 hnil6))))
  clear b2 b23 b4 r6 r5 r64 hnil5 hnil6 bl5 r3 r4 b14
  obtain ⟨O1, hO1⟩ : ∃ O, O = Obj.cells #[.slice A6 n6 c6, .int .u32 (num6 : Int), .int .i64 (us6 : Int), .bool cl6] 64 := ⟨_, rfl⟩
  have p0 : ∀ o, (w4.alloc o).cell? ⟨w2.heap.size, 0, none⟩ = some (.slice A5 n5 c5) := fun o => (bl54.alloc o).cell (j := 0) rfl
  have p1 : ∀ o, (w4.alloc o).cell? ⟨w2.heap.size, 1, none⟩ = some (.int .u32 (num5 : Int)) := fun o => (bl54.alloc o).cell (j := 1) rfl
  have p2 : ∀ o, (w4.alloc o).cell? ⟨w2.heap.size, 2, none⟩ = some (.int .i64 (us5 : Int)) := fun o => (bl54.alloc o).cell (j := 2) rfl
  have p3 : ∀ o, (w4.alloc o).cell? ⟨w2.heap.size, 3, none⟩ = some (.bool cl5) := fun o => (bl54.alloc o).cell (j := 3) rfl
  have p4 : ∀ o o2, ((w4.alloc o).alloc o2).cell? ⟨w2.heap.size, 1, none⟩ = some (.int .u32 (num5 : Int)) := fun o o2 => ((bl54.alloc o).alloc o2).cell (j := 1) rfl
  have t6 := Blk.new w4 64 [.slice A6 n6 c6, .int .u32 (num6 : Int), .int .i64 (us6 : Int), .bool cl6]
  have p5 : ∀ o2, ((w4.alloc (.cells #[.slice A6 n6 c6, .int .u32 (num6 : Int), .int .i64 (us6 : Int), .bool cl6] 64)).alloc o2).cell? ⟨w4.heap.size, 1, none⟩ = some (.int .u32 (num6 : Int)) := fun o2 => (t6.alloc o2).cell (j := 1) rfl
  have tj : Blk ((w4.alloc (.cells #[.slice A6 n6 c6, .int .u32 (num6 : Int), .int .i64 (us6 : Int), .bool cl6] 64)).alloc (.cells #[.pointer (some ⟨gf, 0, none⟩), .int .i64 (k : Int), .int .i64 ((k : Int) + 1), .slice A5 n5 c5, .int .u32 (num5 : Int), .int .i64 (us5 : Int), .bool cl5, .bool false] 66)) (w4.heap.size + 1) 66 (jrC gf k (k + 1) A5 n5 c5 num5 us5 cl5 false) := Blk.at _ 66 (jrC gf k (k + 1) A5 n5 c5 num5 us5 cl5 false) (by simp)
  have t6 : Blk ((w4.alloc (.cells #[.slice A6 n6 c6, .int .u32 (num6 : Int), .int .i64 (us6 : Int), .bool cl6] 64)).alloc (.cells #[.pointer (some ⟨gf, 0, none⟩), .int .i64 (k : Int), .int .i64 ((k : Int) + 1), .slice A5 n5 c5, .int .u32 (num5 : Int), .int .i64 (us5 : Int), .bool cl5, .bool false] 66)) w4.heap.size 64 [.slice A6 n6 c6, .int .u32 (num6 : Int), .int .i64 (us6 : Int), .bool cl6] := t6.alloc _
  have k5 : Keeps [] w4 ((w4.alloc (.cells #[.slice A6 n6 c6, .int .u32 (num6 : Int), .int .i64 (us6 : Int), .bool cl6] 64)).alloc (.cells #[.pointer (some ⟨gf, 0, none⟩), .int .i64 (k : Int), .int .i64 ((k : Int) + 1), .slice A5 n5 c5, .int .u32 (num5 : Int), .int .i64 (us5 : Int), .bool cl5, .bool false] 66)) := ((Keeps.refl [] w4).alloc _).alloc _
  have hz5 : ((w4.alloc (.cells #[.slice A6 n6 c6, .int .u32 (num6 : Int), .int .i64 (us6 : Int), .bool cl6] 64)).alloc (.cells #[.pointer (some ⟨gf, 0, none⟩), .int .i64 (k : Int), .int .i64 ((k : Int) + 1), .slice A5 n5 c5, .int .u32 (num5 : Int), .int .i64 (us5 : Int), .bool cl5, .bool false] 66)).heap.size = w4.heap.size + 2 := by simp
  have TJ := hide tj
  have T6 := hide t6
  have K5 := hide k5
  have HZ5 := hide hz5
  clear tj t6 k5 hz5
  by_cases hgt : num5 < num6
  · have HV : Hid (curN s.ws k = k + 1 ∧ othN s.ws k = k ∧ curV s.ws k = walkW (sect s.ws (k + 1))) := by
      have hf : secB s.ws k = true := by unfold secB; rw [decide_eq_true_eq, ← HV5.out.1, ← HV6.out.1]; omega
      unfold curV curN othN
      rw [hf]
      exact ⟨rfl, rfl, rfl⟩
    go_wp2_with fail
    generalize ((w4.alloc (.cells #[.slice A6 n6 c6, .int .u32 (num6 : Int), .int .i64 (us6 : Int), .bool cl6] 64)).alloc (.cells #[.pointer (some ⟨gf, 0, none⟩), .int .i64 (k : Int), .int .i64 ((k : Int) + 1), .slice A5 n5 c5, .int .u32 (num5 : Int), .int .i64 (us5 : Int), .bool cl5, .bool false] 66)) = w5 at TJ T6 K5 HZ5 ⊢
    have k15 : Keeps [] w1 w5 := (Keeps.of_below HB1.out.1).trans K5.out (by simp)
    have hs5 := k15.size
    have hz5 := HZ5.out
    have u0 : w5.cell? ⟨w4.heap.size, 0, none⟩ = some (.slice A6 n6 c6) := T6.out.cell (j := 0) rfl
    have u1 : w5.cell? ⟨w4.heap.size, 1, none⟩ = some (.int .u32 (num6 : Int)) := T6.out.cell (j := 1) rfl
    have u2 : w5.cell? ⟨w4.heap.size, 2, none⟩ = some (.int .i64 (us6 : Int)) := T6.out.cell (j := 2) rfl
    have u3 : w5.cell? ⟨w4.heap.size, 3, none⟩ = some (.bool cl6) := T6.out.cell (j := 3) rfl
    have y1 : w5.cell? ⟨w4.heap.size + 1, 1, none⟩ = some (.int .i64 (k : Int)) := TJ.out.cell (j := 1) rfl
    have y2 : w5.cell? ⟨w4.heap.size + 1, 2, none⟩ = some (.int .i64 ((k : Int) + 1)) := TJ.out.cell (j := 2) rfl
    have y3 : w5.cell? ⟨w4.heap.size + 1, 3, none⟩ = some (.slice A5 n5 c5) := TJ.out.cell (j := 3) rfl
    have y4 : w5.cell? ⟨w4.heap.size + 1, 4, none⟩ = some (.int .u32 (num5 : Int)) := TJ.out.cell (j := 4) rfl
    have y5 : w5.cell? ⟨w4.heap.size + 1, 5, none⟩ = some (.int .i64 (us5 : Int)) := TJ.out.cell (j := 5) rfl
    have y6 : w5.cell? ⟨w4.heap.size + 1, 6, none⟩ = some (.bool cl5) := TJ.out.cell (j := 6) rfl
    have z1 := TJ.out.frozen 1
    have z2 := TJ.out.frozen 2
    have z3 := TJ.out.frozen 3
    have z4 := TJ.out.frozen 4
    have z5 := TJ.out.frozen 5
    have z6 := TJ.out.frozen 6
    clear p0 p1 p2 p3 p4 p5
    go_region
    have tj7 : Blk ((((((w5.setCell ⟨w4.heap.size + 1, 1, none⟩ (.int .i64 ((k : Int) + 1))).setCell ⟨w4.heap.size + 1, 2, none⟩ (.int .i64 (k : Int))).setCell ⟨w4.heap.size + 1, 3, none⟩ (.slice A6 n6 c6)).setCell ⟨w4.heap.size + 1, 4, none⟩ (.int .u32 (num6 : Int))).setCell ⟨w4.heap.size + 1, 5, none⟩ (.int .i64 (us6 : Int))).setCell ⟨w4.heap.size + 1, 6, none⟩ (.bool cl6)).drew (w4.heap.size + 1) 66 (jrC gf (k + 1) k A6 n6 c6 num6 us6 cl6 false) := ((((((TJ.out.set 1 _).set 2 _).set 3 _).set 4 _).set 5 _).set 6 _).drew
    have k57 : Keeps [w4.heap.size + 1] w5 (((((((w5.setCell ⟨w4.heap.size + 1, 1, none⟩ (.int .i64 ((k : Int) + 1))).setCell ⟨w4.heap.size + 1, 2, none⟩ (.int .i64 (k : Int))).setCell ⟨w4.heap.size + 1, 3, none⟩ (.slice A6 n6 c6)).setCell ⟨w4.heap.size + 1, 4, none⟩ (.int .u32 (num6 : Int))).setCell ⟨w4.heap.size + 1, 5, none⟩ (.int .i64 (us6 : Int))).setCell ⟨w4.heap.size + 1, 6, none⟩ (.bool cl6)).drew) := (((((((Keeps.refl _ w5).set (.inl (by simp)) _).set (.inl (by simp)) _).set (.inl (by simp)) _).set (.inl (by simp)) _).set (.inl (by simp)) _).set (.inl (by simp)) _).drew
    generalize ((((((w5.setCell ⟨w4.heap.size + 1, 1, none⟩ (.int .i64 ((k : Int) + 1))).setCell ⟨w4.heap.size + 1, 2, none⟩ (.int .i64 (k : Int))).setCell ⟨w4.heap.size + 1, 3, none⟩ (.slice A6 n6 c6)).setCell ⟨w4.heap.size + 1, 4, none⟩ (.int .u32 (num6 : Int))).setCell ⟨w4.heap.size + 1, 5, none⟩ (.int .i64 (us6 : Int))).setCell ⟨w4.heap.size + 1, 6, none⟩ (.bool cl6)).drew = w7 at tj7 k57 ⊢
    have TJ7 := hide tj7
    have K57 := hide k57
    have hs7 := k57.size
    have k17 : Keeps [] w1 w7 := k15.trans k57 (by simp; omega)
    have x3 : w7.cell? ⟨w4.heap.size + 1, 3, none⟩ = some (.slice A6 n6 c6) := tj7.cell (j := 3) rfl
    clear tj7 k57 u0 u1 u2 u3 y1 y2 y3 y4 y5 y6 z1 z2 z3 z4 z5 z6 TJ T6 K5
    have fin : ∀ (w6 : World) (A : Option Addr) (c hj : Nat), Keeps [] w7 w6 → w6.ownsRow 0 37 1 (.slice A n6 c) n6 (cs32 (walkW (sect s.ws (k + 1))).rcd) → (∀ g, A = some ⟨g, 0, none⟩ → g = hj) → w4.heap.size + 1 ≠ hj → w.heap.size ≤ hj → Opens w gf k s.ws (.returned (.tuple #[.pointer (some ⟨w4.heap.size + 1, 0, none⟩), .int .i64 0])) (w6.setCell ⟨w4.heap.size + 1, 3, none⟩ (.slice A n6 c)) := by
      intro w6 A c hj k6 ho hA hne hhj
      have b6 := (k6.blk TJ7.out (by simp)).set 3 (.slice A n6 c)
      have k9 : Keeps [w4.heap.size + 1] w6 (w6.setCell ⟨w4.heap.size + 1, 3, none⟩ (.slice A n6 c)) := (Keeps.refl _ _).set (.inl (by simp)) _
      have k19 : Keeps [] w (w6.setCell ⟨w4.heap.size + 1, 3, none⟩ (.slice A n6 c)) := ((HX.out.2.2.1.trans k17 (by simp)).trans k6 (by simp)).trans k9 (by simp; omega)
      refine ⟨w4.heap.size + 1, hj, rfl, ⟨opJ_good _ _, hne, k + 1, k, A, n6, c, us6, cl6, ?_, ?_, hA, fun _ => ⟨HV.out.1.symm, HV.out.2.1.symm, ?_, ?_, rfl, rfl⟩⟩, k19, by omega, hhj⟩
      · show Blk _ _ _ (jrC gf (k + 1) k A n6 c (curV s.ws k).num us6 cl6 false)
        rw [HV.out.2.2, ← HV6.out.1]
        exact b6
      · show World.ownsRow _ _ _ _ _ _ (cs32 (curV s.ws k).rcd)
        rw [HV.out.2.2]
        exact k9.own ho (fun g e => by rw [hA g e]; simp; omega)
      · rw [HV.out.2.2]; exact HV6.out.2.1
      · unfold curC; rw [HV.out.2.2, HV.out.1]; exact HV6.out.2.2
    have FIN := hide fin
    clear fin
    by_cases hn0 : n6 = 0
    · obtain ⟨rfl, rfl⟩ := HB1.out.2.2.2.2 hn0
      subst hn0
      have z3 := TJ7.out.frozen 3
      go_wp2_with (go_at_call 35; refine (Clone_none _).mono ?_; rintro e w6 ⟨rfl, rfl⟩)
      go_ret2
      have hz : (cs32 (walkW (sect s.ws (k + 1))).rcd) = [] := List.eq_nil_of_length_eq_zero HB1.out.2.2.1.len
      exact FIN.out _ _ _ (w4.heap.size + 2) (Keeps.refl _ _) (by rw [hz]; exact World.ownsRow_nil _ _ _ _) (fun g e => by cases e) (by omega) (by omega)
    · obtain ⟨b, o, rfl, _⟩ := HB1.out.2.2.1.cells (by omega)
      go_wp2_with fail
      refine (Clone_any w1.heap.size _ _ _ (walkW (sect s.ws (k + 1))).rcd _ (k17.row HB1.out.2.2.1 (Nat.le_refl _) (by simp)) k17.size (by omega) (by have := HB1.out.2.2.1.len; have h9 := walk_good (sect s.ws (k + 1)); rw [cs32_len] at this; rcases h9 with h9 | h9; rw [h9] at this; simp [sv0] at this; omega; have := h9.2.2.2; omega)).mono ?_
      rintro e w6 ⟨h6, c6', rfl, ho6, k6, hh6⟩
      have b6 := k6.blk TJ7.out (by simp)
      have y3 : w6.cell? ⟨w4.heap.size + 1, 3, none⟩ = some (.slice (some ⟨b, o, none⟩) n6 c6) := b6.cell (j := 3) rfl
      have z3 := b6.frozen 3
      have hlen : (walkW (sect s.ws (k + 1))).rcd.length = n6 := by have := HB1.out.2.2.1.len; rwa [cs32_len] at this
      rw [hlen] at ho6 ⊢
      have HO6 := hide ho6
      clear ho6 b6
      go_wp2
      go_ret2
      exact FIN.out _ _ _ h6 k6 HO6.out (fun g e => by cases e; rfl) (by omega) (by omega)
  · have d5 : decide ((num5 : Int) < (num6 : Int)) = false := by simp; omega
    have HV : Hid (curN s.ws k = k ∧ othN s.ws k = k + 1 ∧ curV s.ws k = walkW (sect s.ws k)) := by
      have hf : secB s.ws k = false := by unfold secB; rw [decide_eq_false_iff_not, ← HV5.out.1, ← HV6.out.1]; omega
      unfold curV curN othN
      rw [hf]
      exact ⟨rfl, rfl, rfl⟩
    go_wp2_with fail
    generalize ((w4.alloc (.cells #[.slice A6 n6 c6, .int .u32 (num6 : Int), .int .i64 (us6 : Int), .bool cl6] 64)).alloc (.cells #[.pointer (some ⟨gf, 0, none⟩), .int .i64 (k : Int), .int .i64 ((k : Int) + 1), .slice A5 n5 c5, .int .u32 (num5 : Int), .int .i64 (us5 : Int), .bool cl5, .bool false] 66)) = w5 at TJ T6 K5 HZ5 ⊢
    have k15 : Keeps [] w1 w5 := (Keeps.of_below HB1.out.1).trans K5.out (by simp)
    have hs5 := k15.size
    have hz5 := HZ5.out
    have fin : ∀ (w6 : World) (A : Option Addr) (c hj : Nat), Keeps [] w5 w6 → w6.ownsRow 0 37 1 (.slice A n5 c) n5 (cs32 (walkW (sect s.ws k)).rcd) → (∀ g, A = some ⟨g, 0, none⟩ → g = hj) → w4.heap.size + 1 ≠ hj → w.heap.size ≤ hj → Opens w gf k s.ws (.returned (.tuple #[.pointer (some ⟨w4.heap.size + 1, 0, none⟩), .int .i64 0])) (w6.setCell ⟨w4.heap.size + 1, 3, none⟩ (.slice A n5 c)) := by
      intro w6 A c hj k6 ho hA hne hhj
      have b6 := (k6.blk TJ.out (by simp)).set 3 (.slice A n5 c)
      have k9 : Keeps [w4.heap.size + 1] w6 (w6.setCell ⟨w4.heap.size + 1, 3, none⟩ (.slice A n5 c)) := (Keeps.refl _ _).set (.inl (by simp)) _
      have k19 : Keeps [] w (w6.setCell ⟨w4.heap.size + 1, 3, none⟩ (.slice A n5 c)) := ((HX.out.2.2.1.trans k15 (by simp)).trans k6 (by simp)).trans k9 (by simp; omega)
      refine ⟨w4.heap.size + 1, hj, rfl, ⟨opJ_good _ _, hne, k, k + 1, A, n5, c, us5, cl5, ?_, ?_, hA, fun _ => ⟨HV.out.1.symm, HV.out.2.1.symm, ?_, ?_, rfl, rfl⟩⟩, k19, by omega, hhj⟩
      · show Blk _ _ _ (jrC gf k (k + 1) A n5 c (curV s.ws k).num us5 cl5 false)
        rw [HV.out.2.2, ← HV5.out.1]
        exact b6
      · show World.ownsRow _ _ _ _ _ _ (cs32 (curV s.ws k).rcd)
        rw [HV.out.2.2]
        exact k9.own ho (fun g e => by rw [hA g e]; simp; omega)
      · rw [HV.out.2.2]; exact HV5.out.2.1
      · unfold curC; rw [HV.out.2.2, HV.out.1]; exact HV5.out.2.2
    have FIN := hide fin
    clear fin
    by_cases hn0 : n5 = 0
    · obtain ⟨rfl, rfl⟩ := HB1.out.2.2.2.1 hn0
      subst hn0
      refine (Clone_none _).mono ?_
      rintro e w6 ⟨rfl, rfl⟩
      have y3 : w5.cell? ⟨w4.heap.size + 1, 3, none⟩ = some (.slice none 0 0) := TJ.out.cell (j := 3) rfl
      have z3 := TJ.out.frozen 3
      go_wp2
      go_ret2
      have hz : (cs32 (walkW (sect s.ws k)).rcd) = [] := List.eq_nil_of_length_eq_zero HB1.out.2.1.len
      exact FIN.out _ _ _ (w4.heap.size + 2) (Keeps.refl _ _) (by rw [hz]; exact World.ownsRow_nil _ _ _ _) (fun g e => by cases e) (by omega) (by omega)
    · obtain ⟨b, o, rfl, _⟩ := HB1.out.2.1.cells (by omega)
      refine (Clone_any w1.heap.size _ _ _ (walkW (sect s.ws k)).rcd _ (k15.row HB1.out.2.1 (Nat.le_refl _) (by simp)) hs5 (by omega) (by have := HB1.out.2.1.len; have h9 := walk_good (sect s.ws k); rw [cs32_len] at this; rcases h9 with h9 | h9; rw [h9] at this; simp [sv0] at this; omega; have := h9.2.2.2; omega)).mono ?_
      rintro e w6 ⟨h6, c6', rfl, ho6, k6, hh6⟩
      have b6 := k6.blk TJ.out (by simp)
      have y3 : w6.cell? ⟨w4.heap.size + 1, 3, none⟩ = some (.slice (some ⟨b, o, none⟩) n5 c5) := b6.cell (j := 3) rfl
      have z3 := b6.frozen 3
      have hlen : (walkW (sect s.ws k)).rcd.length = n5 := by have := HB1.out.2.1.len; rwa [cs32_len] at this
      rw [hlen] at ho6 ⊢
      have HO6 := hide ho6
      clear ho6 b6
      go_wp2
      go_ret2
      exact FIN.out _ _ _ h6 k6 HO6.out (fun g e => by cases e; rfl) (by omega) (by omega)
end Go.Proofs.Ytahnfkoakaimhaa
