/-
  Contracts: targetsOf, the reference's Ways, slices.Max, deepest, begin.
-/
import Derived.Test.YtdikiabjkmigdaaGreatDoorUMem
namespace Go.Proofs.YtdikiabjkmigdaaGreatDoor
set_option maxRecDepth 20000
open Go.RowKit
set_option maxHeartbeats 1000000

theorem tg_jump {x : Int} {k : Nat} : tg 10 x k = [k + 1 + x.toNat] := rfl
theorem tg_zero {x : Int} {k : Nat} : tg 11 x k = [k + 1, k + 1 + x.toNat] := rfl
theorem tg_next {o x : Int} {k : Nat} (h : o ≠ 10) (h2 : o ≠ 11) : tg o x k = [k + 1] := by unfold tg; rw [if_neg h, if_neg h2]
theorem Outs.of {w w' : World} {ts : List Nat} {g n : Nat} {cs : List Value} (hn : ts.length = n) (hg : w.heap.size ≤ g) (hb : Blk w' g 3 cs) (hc : cs = csN ts) (hbl : Below w.heap.size w w') : Outs w ts (.returned (.slice (some ⟨g, 0, none⟩) n n)) w' := by
  subst hn; subst hc; exact ⟨g, rfl, hg, hb, hbl⟩
theorem targetsOf_any (o x : Int) (k : Nat) (w : World) (hk : k ≤ 600) (hx : -2147483648 ≤ x ∧ x ≤ 2147483647) (ho : o = 10 ∨ o = 11 → 0 ≤ x) :
    Calls Tryz.prog 106 #[.int .i64 (k : Int), .agg #[.int .i64 o, .int .i32 x]] w (Outs w (tg o x k)) := by
  by_cases h10 : o = 10
  · subst h10
    have := ho (.inl rfl)
    obtain ⟨y, rfl⟩ : ∃ y : Nat, x = (y : Int) := ⟨x.toNat, by omega⟩
    rw [tg_jump]
    have HE := hide (show csN [k + 1 + (y : Int).toNat] = [.int .i64 ((k : Int) + 1 + (y : Int))] by simp [csN])
    clear ho this
    go_enter Tryz.func106, Tryz.ntmps106
    go_wp2
    go_ret
    exact Outs.of rfl (by omega) (Blk.at _ _ [.int .i64 ((k : Int) + 1 + (y : Int))] (by simp)) HE.out.symm (((Below.refl _ w).alloc (Nat.le_refl _) _).alloc (by simp) _)
  · by_cases h11 : o = 11
    · subst h11
      have := ho (.inr rfl)
      obtain ⟨y, rfl⟩ : ∃ y : Nat, x = (y : Int) := ⟨x.toNat, by omega⟩
      rw [tg_zero]
      have HE := hide (show csN [k + 1, k + 1 + (y : Int).toNat] = [.int .i64 ((k : Int) + 1), .int .i64 ((k : Int) + 1 + (y : Int))] by simp [csN])
      clear ho this h10
      go_enter Tryz.func106, Tryz.ntmps106
      go_wp2
      go_ret
      exact Outs.of rfl (by omega) (Blk.at _ _ [.int .i64 ((k : Int) + 1), .int .i64 ((k : Int) + 1 + (y : Int))] (by simp)) HE.out.symm (((Below.refl _ w).alloc (Nat.le_refl _) _).alloc (by simp) _)
    · rw [tg_next h10 h11]
      have HE := hide (show csN [k + 1] = [.int .i64 ((k : Int) + 1)] by simp [csN])
      have e10 : (o == 10) = false := by rw [beq_eq_false_iff_ne]; exact h10
      have e11 : (o == 11) = false := by rw [beq_eq_false_iff_ne]; exact h11
      clear ho h10 h11
      go_enter Tryz.func106, Tryz.ntmps106
      go_wp2
      go_ret
      exact Outs.of rfl (by omega) (Blk.at _ _ [.int .i64 ((k : Int) + 1)] (by simp)) HE.out.symm (((Below.refl _ w).alloc (Nat.le_refl _) _).alloc (by simp) _)
theorem rWays_any (o x : Int) (k : Nat) (w : World) (hk : k ≤ 600) (hx : -2147483648 ≤ x ∧ x ≤ 2147483647) (ho : o = 10 ∨ o = 11 → 0 ≤ x) :
    Calls Tryz.prog 88 #[.agg #[.int .i64 o, .int .i32 x], .int .i64 (k : Int)] w (Outs w (tg o x k)) := by
  by_cases h10 : o = 10
  · subst h10
    have := ho (.inl rfl)
    obtain ⟨y, rfl⟩ : ∃ y : Nat, x = (y : Int) := ⟨x.toNat, by omega⟩
    rw [tg_jump]
    have HE := hide (show csN [k + 1 + (y : Int).toNat] = [.int .i64 ((k : Int) + 1 + (y : Int))] by simp [csN])
    clear ho this
    go_enter Tryz.func88, Tryz.ntmps88
    go_wp2
    go_ret
    exact Outs.of rfl (by omega) (Blk.at _ _ [.int .i64 ((k : Int) + 1 + (y : Int))] (by simp)) HE.out.symm (((Below.refl _ w).alloc (Nat.le_refl _) _).alloc (by simp) _)
  · by_cases h11 : o = 11
    · subst h11
      have := ho (.inr rfl)
      obtain ⟨y, rfl⟩ : ∃ y : Nat, x = (y : Int) := ⟨x.toNat, by omega⟩
      rw [tg_zero]
      have HE := hide (show csN [k + 1, k + 1 + (y : Int).toNat] = [.int .i64 ((k : Int) + 1), .int .i64 ((k : Int) + 1 + (y : Int))] by simp [csN])
      clear ho this h10
      go_enter Tryz.func88, Tryz.ntmps88
      go_wp2
      go_ret
      exact Outs.of rfl (by omega) (Blk.at _ _ [.int .i64 ((k : Int) + 1), .int .i64 ((k : Int) + 1 + (y : Int))] (by simp)) HE.out.symm (((Below.refl _ w).alloc (Nat.le_refl _) _).alloc (by simp) _)
    · rw [tg_next h10 h11]
      have HE := hide (show csN [k + 1] = [.int .i64 ((k : Int) + 1)] by simp [csN])
      have e10 : (o == 10) = false := by rw [beq_eq_false_iff_ne]; exact h10
      have e11 : (o == 11) = false := by rw [beq_eq_false_iff_ne]; exact h11
      have hs : -2147483647 ≤ (k : Int) + 1 + x := by omega
      have hs2 : (k : Int) + 1 + x ≤ 2147484348 := by omega
      clear ho h10 h11
      go_enter Tryz.func88, Tryz.ntmps88
      go_wp2
      go_ret
      exact Outs.of rfl (by omega) (Blk.at _ _ [.int .i64 ((k : Int) + 1)] (by simp)) HE.out.symm (((Below.refl _ w).alloc (Nat.le_refl _) _).alloc (by simp) _)
-- the greatest of some numbers
def mxN (ts : List Nat) : Nat := ts.foldl max 0
theorem foldl_mx (ts : List Nat) (a : Nat) : ts.foldl max a = max a (ts.foldl max 0) := by
  induction ts generalizing a with
  | nil => simp
  | cons t ts ih => rw [List.foldl_cons, List.foldl_cons, ih, ih (max 0 t)]; omega
theorem mxN_take {ts : List Nat} {j : Nat} (h : j < ts.length) : mxN (ts.take (j + 1)) = max (mxN (ts.take j)) ts[j] := by
  unfold mxN
  rw [List.take_succ_eq_append_getElem h, List.foldl_append]; rfl
theorem mxN_le (ts : List Nat) (B : Nat) : mxN ts ≤ B ↔ ∀ t ∈ ts, t ≤ B := by
  unfold mxN
  induction ts with
  | nil => simp
  | cons t ts ih =>
    rw [List.foldl_cons, foldl_mx]
    constructor
    · intro h u hu
      rcases List.mem_cons.1 hu with rfl | hu
      · omega
      · exact ih.1 (by omega) u hu
    · intro h
      have h1 := h t List.mem_cons_self
      have h2 := ih.2 fun u hu => h u (List.mem_cons_of_mem _ hu)
      omega
theorem Max_any (g : Nat) (ts : List Nat) (w : World) (hb : Blk w g 3 (csN ts)) (hts : 1 ≤ ts.length) (hl : ts.length ≤ 2) :
    Calls Tryz.prog 107 #[.slice (some ⟨g, 0, none⟩) ts.length ts.length] w fun e w' => e = .returned (.int .i64 (mxN ts : Int)) ∧ w = w' := by
  have hat := fun (j : Nat) (h : j < ts.length) => hb.cell (csN_at h)
  have HAT := hide hat
  clear hat hb
  have h0 := HAT.out 0 (by omega)
  obtain ⟨t0, ht0⟩ : ∃ t0, ts[0] = t0 := ⟨_, rfl⟩
  rw [ht0] at h0
  have HZ := hide (show mxN (ts.take 1) = t0 by rw [mxN_take (show 0 < ts.length by omega), ht0]; simp [mxN])
  clear ht0
  have hd : decide ((ts.length : Int) < 1) = false := by simp; omega
  go_enter Tryz.func107, Tryz.ntmps107
  go_wp2
  go_loop [3, 4] (fun m i => ∃ (j v : Nat), 1 ≤ j ∧ j ≤ ts.length ∧ Hid (mxN (ts.take j) = v) ∧ m = .int .i64 (v : Int) ∧ i = .int .i64 (j : Int)) (fun _ i => ts.length - (intOf i).toNat)
  case atStart => exact ⟨1, t0, Nat.le_refl _, hts, HZ, rfl, rfl⟩
  case round =>
    clear h0 HZ
    obtain ⟨j, v, hj1, hj, HV, rfl, rfl⟩ := hrel
    by_cases hlt : j < ts.length
    · have hc := HAT.out j hlt
      have HN := hide (mxN_take hlt)
      obtain ⟨tj, htj⟩ : ∃ t, ts[j] = t := ⟨_, rfl⟩
      rw [htj] at hc HN
      clear htj
      have hmx := max_run (v : Int) (tj : Int)
      obtain ⟨u, hu⟩ : ∃ u : Nat, max v tj = u := ⟨_, rfl⟩
      rw [show max (v : Int) (tj : Int) = ((max v tj : Nat) : Int) by omega, hu] at hmx
      rw [HV.out, hu] at HN
      clear hu
      go_wp2
      go_round
      case rel => exact ⟨j + 1, u, by omega, by omega, HN, rfl, by go_num⟩
      case measure => simp [intOf]; omega
    · obtain rfl : ts.length = j := by omega
      go_wp2
      go_ret
      exact ⟨ret_int (by rw [← HV.out, List.take_length]), rfl⟩
end Go.Proofs.YtdikiabjkmigdaaGreatDoor
