/-
  The reference (midstreamref07): Open.
-/
import Derived.Test.YtahnfkoakaimhaaJRef2
namespace Go.Proofs.Ytahnfkoakaimhaa
open Go.RowKit
set_option maxHeartbeats 4000000

def WalkL (w : World) (B : Nat) (l : List UInt32) (e : Ending) (w' : World) : Prop :=
  Below w.heap.size w w' ∧ ∃ (A : Option Addr) (k c num us : Nat) (cl : Bool) (rcd : List UInt32), e = .returned (.tuple #[.int .u32 (num : Int), .slice A k c, .int .i64 (us : Int), .bool cl]) ∧ Row w B A k c (cs32 rcd) ∧ Hid (walkW l = ⟨num, rcd, us⟩ ∧ cleanB l us = cl) ∧ k ≤ 64 ∧ num ≤ 2147483647 ∧ us ≤ 256
theorem rWalk_let (B : Nat) (A : Option Addr) (n c : Nat) (l : List UInt32) (w : World) (hr : Row w B A n c (cs32 l)) (hB : B ≤ w.heap.size) (hn : n ≤ 256) :
    Calls Try.prog 29 #[.slice A n c] w (WalkL w B l) :=
  (rWalk_any B A n c l w hr hB hn).mono fun e w' ⟨hb, A', k, c', he, hrow⟩ => by
    have hl := hrow.len
    have hln := hr.len
    rw [cs32_len] at hl hln
    have hk : (walkW l).rcd.length ≤ 64 := by
      rcases walk_good l with h | h
      · rw [h]; exact Nat.zero_le _
      · exact h.2.2.2
    exact ⟨hb, A', k, c', (walkW l).num, (walkW l).used, cleanB l (walkW l).used, (walkW l).rcd, he, hrow, ⟨rfl, rfl⟩, by omega, walk_num l, by have := walk_used l; omega⟩
theorem open_lo {ws rcd3 rcd5 : List UInt32} {k n3 n5 us3 us5 : Nat} (h3 : walkW (sect ws k) = ⟨n3, rcd3, us3⟩) (h5 : walkW (sect ws (k + 1)) = ⟨n5, rcd5, us5⟩) (h : ¬ n3 < n5) : opJ ws k = ⟨rcd3, n3, false⟩ := by
  have hf : secB ws k = false := by unfold secB; rw [h3, h5]; simpa using h
  unfold opJ curV curN; rw [hf, if_neg (by simp), h3]
theorem open_hi {ws rcd3 rcd5 : List UInt32} {k n3 n5 us3 us5 : Nat} (h3 : walkW (sect ws k) = ⟨n3, rcd3, us3⟩) (h5 : walkW (sect ws (k + 1)) = ⟨n5, rcd5, us5⟩) (h : n3 < n5) : opJ ws k = ⟨rcd5, n5, false⟩ := by
  have hf : secB ws k = true := by unfold secB; rw [h3, h5]; simpa using h
  unfold opJ curV curN; rw [hf, if_pos rfl, h5]
theorem own_at {w : World} {base n c : Nat} {e : TypeId} {A : Option Addr} {xs : List Value} (h : w.ownsRow base e 1 (.slice A n c) n xs) : ∃ hj, (∀ g, A = some ⟨g, 0, none⟩ → g = hj) ∧ base ≤ hj := by
  rcases own_addr h with h1 | ⟨x, h1, h2, _⟩
  · exact ⟨base, (fun g e => by rw [h1] at e; cases e), Nat.le_refl _⟩
  · exact ⟨x, (fun g e => by rw [h1] at e; cases e; rfl), h2⟩
/-- A new journal. -/
def OpensR (w : World) (gf k : Nat) (ws : List UInt32) (e : Ending) (w' : World) : Prop :=
  ∃ gj hj, e = .returned (.tuple #[.pointer (some ⟨gj, 0, none⟩), .int .i64 0]) ∧ Rj w' gj hj gf k ws (opJ ws k) ∧ Keeps [] w w' ∧ w.heap.size ≤ gj ∧ w.heap.size ≤ hj
theorem rj_of {w w' : World} {gf k n c num : Nat} {A : Option Addr} {ws rcd : List UInt32} {gj B : Nat} (hj : opJ ws k = ⟨rcd, num, false⟩) (hb : Blk w' gj 54 (rjC gf k A n c num false)) (ho : w'.ownsRow B 37 1 (.slice A n c) n (cs32 rcd)) (hB : gj < B) (hw : w.heap.size ≤ gj) (kk : Keeps [] w w') :
    OpensR w gf k ws (.returned (.tuple #[.pointer (some ⟨gj, 0, none⟩), .int .i64 0])) w' := by
  obtain ⟨x, hx, hl⟩ := own_at ho
  have hg := opJ_good ws k
  refine ⟨gj, x, rfl, ?_, kk, hw, by omega⟩
  rw [hj] at hg ⊢
  exact ⟨hg, by omega, A, n, c, hb, own_base (Nat.zero_le _) ho, hx, fun _ => ⟨(congrArg JS.num hj).symm, (congrArg JS.rcd hj).symm⟩⟩
theorem Keeps.grown0 {w w1 : World} (h : w.grownBy w1 none) : Keeps [] w w1 := ⟨h.os, h.tape, h.output, h.size, fun k hk _ => h.block k hk (by simp)⟩
/-- A journal that takes nothing. -/
def OpensNo (w : World) (gf : Nat) (q : Int) (e : Ending) (w' : World) : Prop :=
  ∃ gj, e = .returned (.tuple #[.pointer (some ⟨gj, 0, none⟩), .int .i64 q]) ∧ Blk w' gj 54 (rjC gf 0 none 0 0 0 true) ∧ Keeps [] w w' ∧ w.heap.size ≤ gj
theorem rOpen_off (g h : Nat) (s : FS) (at_ : Int) (w : World) (f : Rf w g h s) (hoff : s.on = false) : Calls Try.prog 21 #[.pointer (some ⟨g, 0, none⟩), .int .i64 at_] w (OpensNo w g 7) := by
  obtain ⟨c, m, _, hb, ho⟩ := f.ex
  have c1 : w.cell? ⟨g, 1, none⟩ = some (.bool (!s.on)) := hb.cell (j := 1) rfl
  rw [hoff] at c1
  have c1 : w.cell? ⟨g, 1, none⟩ = some (.bool true) := c1
  have b1 : Hid (Blk (w.alloc (.cells #[.pointer (some ⟨g, 0, none⟩), .int .i64 0, .bool true, .slice none 0 0, .int .u32 0] 54)) w.heap.size 54 (rjC g 0 none 0 0 0 true)) := Blk.new w 54 (rjC g 0 none 0 0 0 true)
  clear hb ho hoff f
  go_enter Try.func21, Try.ntmps21
  go_wp2
  go_ret2
  exact ⟨w.heap.size, rfl, b1.out, (Keeps.refl _ _).alloc _, Nat.le_refl _⟩
theorem rOpen_out (g h : Nat) (s : FS) (at_ : Int) (w : World) (f : Rf w g h s) (hon : s.on = true) (hno : ¬ (0 ≤ at_ ∧ at_ + 2 ≤ (s.ws.length / 256 : Nat))) : Calls Try.prog 21 #[.pointer (some ⟨g, 0, none⟩), .int .i64 at_] w (OpensNo w g 10) := by
  obtain ⟨c, m, _, hb, ho⟩ := f.ex
  have hlen := len_pos f.ok
  have c1 : w.cell? ⟨g, 1, none⟩ = some (.bool (!s.on)) := hb.cell (j := 1) rfl
  rw [hon] at c1
  have c1 : w.cell? ⟨g, 1, none⟩ = some (.bool false) := c1
  have c0 : w.cell? ⟨g, 0, none⟩ = some (.slice (some ⟨h, 0, none⟩) s.ws.length c) := hb.cell (j := 0) rfl
  have b1 : Hid (Blk (w.alloc (.cells #[.pointer (some ⟨g, 0, none⟩), .int .i64 0, .bool true, .slice none 0 0, .int .u32 0] 54)) w.heap.size 54 (rjC g 0 none 0 0 0 true)) := Blk.new w 54 (rjC g 0 none 0 0 0 true)
  have key : (decide (at_ < 0) = true) ∨ (decide (at_ < 0) = false ∧ decide ((s.ws.length : Int) / 256 - 2 < at_) = true) := by
    simp only [decide_eq_true_eq, decide_eq_false_iff_not]; omega
  clear hb ho hon f hno
  rcases key with t1 | ⟨t1, t2⟩
  all_goals
    go_enter Try.func21, Try.ntmps21
    go_wp2
    go_ret2
    exact ⟨w.heap.size, rfl, b1.out, (Keeps.refl _ _).alloc _, Nat.le_refl _⟩
set_option maxRecDepth 10000 in
theorem rOpen_in (g h : Nat) (s : FS) (k : Nat) (w : World) (f : Rf w g h s) (hon : s.on = true) (hk : 256 * (k + 2) ≤ s.ws.length) : Calls Try.prog 21 #[.pointer (some ⟨g, 0, none⟩), .int .i64 (k : Int)] w (OpensR w g k s.ws) := by
  obtain ⟨i0, hi, hz0, hz1, hz2⟩ := info_parts info32
  obtain ⟨c, m, _, hb, ho⟩ := f.ex
  have hh := f.lt2
  have hlen := len_pos f.ok
  have hk15 : k ≤ 14 := by omega
  have c1 : w.cell? ⟨g, 1, none⟩ = some (.bool (!s.on)) := hb.cell (j := 1) rfl
  rw [hon] at c1
  have c1 : w.cell? ⟨g, 1, none⟩ = some (.bool false) := c1
  have c0 : w.cell? ⟨g, 0, none⟩ = some (.slice (some ⟨h, 0, none⟩) s.ws.length c) := hb.cell (j := 0) rfl
  have t1 : decide ((k : Int) < 0) = false := by simp
  have t2 : decide ((s.ws.length : Int) / 256 - 2 < (k : Int)) = false := by rw [decide_eq_false_iff_not]; omega
  have b1 : Blk (w.alloc (.cells #[.pointer (some ⟨g, 0, none⟩), .int .i64 (k : Int), .bool false, .slice none 0 0, .int .u32 0] 54)) w.heap.size 54 (rjC g k none 0 0 0 false) := Blk.new w 54 (rjC g k none 0 0 0 false)
  have k1 : Keeps [] w (w.alloc (.cells #[.pointer (some ⟨g, 0, none⟩), .int .i64 (k : Int), .bool false, .slice none 0 0, .int .u32 0] 54)) := (Keeps.refl _ _).alloc _
  have hs1 : (w.alloc (.cells #[.pointer (some ⟨g, 0, none⟩), .int .i64 (k : Int), .bool false, .slice none 0 0, .int .u32 0] 54)).heap.size = w.heap.size + 1 := by simp
  have HB1 := hide (And.intro b1 (And.intro k1 hs1))
  have HF := hide f
  clear hb ho hon f b1 k1 hs1
  go_enter Try.func21, Try.ntmps21
  go_wp2_with fail
  generalize w.alloc (.cells #[.pointer (some ⟨g, 0, none⟩), .int .i64 (k : Int), .bool false, .slice none 0 0, .int .u32 0] 54) = w1 at HB1 ⊢
  obtain ⟨b1, k1, hs1⟩ := HB1.out
  clear c0 c1 t1 t2 HB1
  have f1 := k1.rf HF.out (by simp) (by simp)
  refine (rwords_any g h k s w1 f1 (by omega)).mono ?_
  rintro e wz ⟨A2, c2, rfl, r2, rfl⟩
  go_wp2_with fail
  refine (rWalk_let (h + 1) A2 256 c2 (sect s.ws k) w1 r2 (by omega) (by omega)).mono ?_
  rintro e w2 ⟨hb2, A3, k3, c3, n3, us3, cl3, rcd3, rfl, r3, HW3, hk3, hn3, hu3⟩
  have k2 : Keeps [] w1 w2 := Keeps.of_below hb2
  have f2 := k2.rf f1 (by simp) (by simp)
  have hs2 := hb2.size
  clear r2 f1
  go_wp2_with fail
  refine (rwords_any g h (k + 1) s w2 f2 (by omega)).mono ?_
  rintro e wz ⟨A4, c4, rfl, r4, rfl⟩
  go_wp2_with fail
  refine (rWalk_let (h + 1) A4 256 c4 (sect s.ws (k + 1)) w2 r4 (by omega) (by omega)).mono ?_
  rintro e w3 ⟨hb3, A5, k5, c5, n5, us5, cl5, rcd5, rfl, r5, HW5, hk5, hn5, hu5⟩
  have k3' : Keeps [] w2 w3 := Keeps.of_below hb3
  have hs3 := hb3.size
  have b3 := k3'.blk (k2.blk b1 (by simp)) (by simp)
  have k03 : Keeps [] w w3 := (k1.trans k2 (by simp)).trans k3' (by simp)
  have q3 : Row w3 (h + 1) A3 k3 c3 (cs32 rcd3) := (k2.trans k3' (by simp)).row r3 (by omega) (by simp)
  have q5 : Row w3 (h + 1) A5 k5 c5 (cs32 rcd5) := k3'.row r5 (by omega) (by simp)
  have x4 : w3.cell? ⟨w.heap.size, 4, none⟩ = some (.int .u32 0) := b3.cell (j := 4) rfl
  have z4 := b3.frozen 4
  have b4 := b3.set 4 (.int .u32 (n3 : Int))
  have k4 : Keeps [w.heap.size] w3 (w3.setCell ⟨w.heap.size, 4, none⟩ (.int .u32 (n3 : Int))) := (Keeps.refl _ _).set (.inl (by simp)) _
  have hs4 : (w3.setCell ⟨w.heap.size, 4, none⟩ (.int .u32 (n3 : Int))).heap.size = w3.heap.size := by simp [World.setCell]
  have H3 := hide (And.intro b4 (And.intro k4 hs4))
  have HQ := hide (And.intro q3 (And.intro q5 k03))
  have HK := hide hk
  clear b1 k1 k2 k3' b3 b4 k4 hs4 q3 q5 k03 r3 r4 r5 hb2 hb3 f2 HF hk hlen
  have y3 : (w3.setCell ⟨w.heap.size, 4, none⟩ (.int .u32 (n3 : Int))).cell? ⟨w.heap.size, 3, none⟩ = some (.slice none 0 0) := H3.out.1.cell (j := 3) rfl
  have Q4 : Hid (Row (w3.setCell ⟨w.heap.size, 4, none⟩ (.int .u32 (n3 : Int))) (h + 1) A3 k3 c3 (cs32 rcd3)) := H3.out.2.1.row HQ.out.1 (by omega) (by simp; omega)
  have P4 : Hid (Row (w3.setCell ⟨w.heap.size, 4, none⟩ (.int .u32 (n3 : Int))) (h + 1) A5 k5 c5 (cs32 rcd5)) := H3.out.2.1.row HQ.out.2.1 (by omega) (by simp; omega)
  have K04 : Hid (Keeps [] w (w3.setCell ⟨w.heap.size, 4, none⟩ (.int .u32 (n3 : Int)))) := HQ.out.2.2.trans H3.out.2.1 (by simp)
  clear HQ
  by_cases hmn : n3 < n5
  · have t3 : decide ((n3 : Int) < (n5 : Int)) = true := by simp; omega
    have HO := hide (open_hi HW3.out.1 HW5.out.1 hmn)
    go_wp2_with (first
      | (at_builtin; refine wpList_append_row rfl (.tmp 69) (.tmp 70) 36 rfl (w3.setCell ⟨w.heap.size, 4, none⟩ (.int .u32 (n3 : Int))).heap.size 37 i0 _ 4 Try.underlying36 hi hz0 hz1 hz2 rfl _ _ _ rfl (World.ownsRow_nil _ _ _ _) _ _ _ _ _ rfl Q4.out (cs32_one _) (by unfold maxLen; omega) (by omega) (w3.setCell ⟨w.heap.size, 4, none⟩ (.int .u32 (n3 : Int))) (Below.refl _ _) (Nat.le_refl _) ?_; intro A6 c6 w6 ho6 hb6 hg6; simp only [Nat.zero_add, List.nil_append] at ho6 ⊢; have k6 := Keeps.of_below (S := []) hb6; have b6 := k6.blk H3.out.1 (by simp); have y63 : w6.cell? ⟨w.heap.size, 3, none⟩ = some (.slice none 0 0) := b6.cell (j := 3) rfl; have y64 : w6.cell? ⟨w.heap.size, 4, none⟩ = some (.int .u32 (n3 : Int)) := b6.cell (j := 4) rfl; have z63 := b6.frozen 3; have z64 := b6.frozen 4; have hs6 := hb6.size; have B9 : Hid (Blk (((w6.setCell ⟨w.heap.size, 3, none⟩ (.slice A6 k3 c6)).setCell ⟨w.heap.size, 4, none⟩ (.int .u32 (n5 : Int))).setCell ⟨w.heap.size, 3, none⟩ (.slice none 0 0)) w.heap.size 54 (rjC g k none 0 0 n5 false)) := ((b6.set 3 _).set 4 _).set 3 _; have K9 : Hid (Keeps [w.heap.size] (w3.setCell ⟨w.heap.size, 4, none⟩ (.int .u32 (n3 : Int))) (((w6.setCell ⟨w.heap.size, 3, none⟩ (.slice A6 k3 c6)).setCell ⟨w.heap.size, 4, none⟩ (.int .u32 (n5 : Int))).setCell ⟨w.heap.size, 3, none⟩ (.slice none 0 0))) := (((k6.more (by simp)).set (.inl (by simp)) _).set (.inl (by simp)) _).set (.inl (by simp)) _; have Q9 : Hid (Row (((w6.setCell ⟨w.heap.size, 3, none⟩ (.slice A6 k3 c6)).setCell ⟨w.heap.size, 4, none⟩ (.int .u32 (n5 : Int))).setCell ⟨w.heap.size, 3, none⟩ (.slice none 0 0)) (h + 1) A5 k5 c5 (cs32 rcd5)) := K9.out.row P4.out (by have := H3.out.2.2; omega) (by simp; omega); clear b6 k6 ho6 hb6 hg6)
      | (at_builtin; refine wpList_append_row rfl (.tmp 88) (.tmp 89) 36 rfl (((w6.setCell ⟨w.heap.size, 3, none⟩ (.slice A6 k3 c6)).setCell ⟨w.heap.size, 4, none⟩ (.int .u32 (n5 : Int))).setCell ⟨w.heap.size, 3, none⟩ (.slice none 0 0)).heap.size 37 i0 _ 4 Try.underlying36 hi hz0 hz1 hz2 rfl _ _ _ rfl (World.ownsRow_nil _ _ _ _) _ _ _ _ _ rfl Q9.out (cs32_one _) (by unfold maxLen; omega) (by omega) (((w6.setCell ⟨w.heap.size, 3, none⟩ (.slice A6 k3 c6)).setCell ⟨w.heap.size, 4, none⟩ (.int .u32 (n5 : Int))).setCell ⟨w.heap.size, 3, none⟩ (.slice none 0 0)) (Below.refl _ _) (Nat.le_refl _) ?_; intro A7 c7 w10 ho10 hb10 hg10; simp only [Nat.zero_add, List.nil_append] at ho10 ⊢; have k10 := Keeps.of_below (S := []) hb10; have b10 := k10.blk B9.out (by simp); have y103 : w10.cell? ⟨w.heap.size, 3, none⟩ = some (.slice none 0 0) := b10.cell (j := 3) rfl; have z103 := b10.frozen 3; have HF := hide (And.intro ho10 (And.intro b10 k10)); have hs10 := hb10.size; clear ho10 b10 k10 hb10 hg10))
    go_ret2
    have kf : Keeps [w.heap.size] w10 (w10.setCell ⟨w.heap.size, 3, none⟩ (.slice A7 k5 c7)) := (Keeps.refl _ _).set (.inl (by simp)) _
    have hsz := K9.out.size
    have hsw := H3.out.2.2
    exact rj_of HO.out (HF.out.2.1.set 3 _) (kf.own HF.out.1 (fun x e => by rcases own_addr HF.out.1 with h1 | ⟨y, h1, h2, _⟩; rw [h1] at e; cases e; rw [h1] at e; cases e; simp only [List.mem_singleton]; omega)) (by omega) (Nat.le_refl _) (((K04.out.trans K9.out (by simp)).trans HF.out.2.2 (by simp)).trans kf (by simp))
  · have t3 : decide ((n3 : Int) < (n5 : Int)) = false := by simp; omega
    have HO := hide (open_lo HW3.out.1 HW5.out.1 hmn)
    go_wp2_with (at_builtin; refine wpList_append_row rfl (.tmp 69) (.tmp 70) 36 rfl (w3.setCell ⟨w.heap.size, 4, none⟩ (.int .u32 (n3 : Int))).heap.size 37 i0 _ 4 Try.underlying36 hi hz0 hz1 hz2 rfl _ _ _ rfl (World.ownsRow_nil _ _ _ _) _ _ _ _ _ rfl Q4.out (cs32_one _) (by unfold maxLen; omega) (by omega) (w3.setCell ⟨w.heap.size, 4, none⟩ (.int .u32 (n3 : Int))) (Below.refl _ _) (Nat.le_refl _) ?_; intro A6 c6 w6 ho6 hb6 hg6; simp only [Nat.zero_add, List.nil_append] at ho6 ⊢; have k6 := Keeps.of_below (S := []) hb6; have b6 := k6.blk H3.out.1 (by simp); have y63 : w6.cell? ⟨w.heap.size, 3, none⟩ = some (.slice none 0 0) := b6.cell (j := 3) rfl; have y64 : w6.cell? ⟨w.heap.size, 4, none⟩ = some (.int .u32 (n3 : Int)) := b6.cell (j := 4) rfl; have z63 := b6.frozen 3; have z64 := b6.frozen 4; have hs6 := hb6.size; have HF := hide (And.intro ho6 (And.intro b6 (And.intro k6 H3.out.2.2))); clear b6 k6 ho6 hb6 hg6)
    go_ret2
    have kf : Keeps [w.heap.size] w6 (w6.setCell ⟨w.heap.size, 3, none⟩ (.slice A6 k3 c6)) := (Keeps.refl _ _).set (.inl (by simp)) _
    exact rj_of HO.out (HF.out.2.1.set 3 _) (kf.own HF.out.1 (fun x e => by rcases own_addr HF.out.1 with h1 | ⟨y, h1, h2, _⟩; rw [h1] at e; cases e; rw [h1] at e; cases e; have := HF.out.2.2.2; simp; omega)) (by have := HF.out.2.2.2; omega) (Nat.le_refl _) ((K04.out.trans HF.out.2.2.1 (by simp)).trans kf (by simp))
end Go.Proofs.Ytahnfkoakaimhaa
