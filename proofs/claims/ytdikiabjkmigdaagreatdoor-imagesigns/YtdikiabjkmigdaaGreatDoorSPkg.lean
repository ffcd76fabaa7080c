/-
  Contracts of package sha: rotated, plus, First, round; and math/bits.RotateLeft32.
-/
import Derived.Test.YtdikiabjkmigdaaGreatDoorSMem
import Derived.Deep.RegionWith
import Derived.BigRegion
namespace Go.Proofs.YtdikiabjkmigdaaGreatDoor
set_option maxRecDepth 20000
open Go.RowKit
set_option maxHeartbeats 800000
theorem rot_count (n k : Nat) (h : n + k = 32) (h1 : 1 ≤ n) (h2 : n ≤ 31) : bits .and .u64 (IntKind.u64.wrap (-(n : Int))) 31 = (k : Int) := by
  have e : IntKind.u64.wrap (-(n : Int)) = ((18446744073709551616 - n : Nat) : Int) := by simp [IntKind.wrap, IntKind.signed, IntKind.bits]; omega
  rw [e, show (31 : Int) = ((31 : Nat) : Int) from rfl, u64_and_nat _ _ (by omega) (by omega), show (31 : Nat) = 2 ^ 5 - 1 from rfl, Nat.and_two_pow_sub_one_eq_mod]
  omega
theorem rot_val (x : UInt32) (n k : Nat) (h : n + k = 32) : bits .or .u32 ((x.toNat : Int) * 2 ^ k % 4294967296) ((x.toNat : Int) / 2 ^ (32 - k)) = ((rU n x).toNat : Int) := by
  have hx := x.toNat_lt
  obtain rfl : k = 32 - n := by omega
  have e1 : ((x.toNat : Int) * 2 ^ (32 - n) % 4294967296) = ((x.toNat * 2 ^ (32 - n) % 4294967296 : Nat) : Int) := by simp
  have e2 : ((x.toNat : Int) / 2 ^ (32 - (32 - n))) = ((x.toNat / 2 ^ n : Nat) : Int) := by rw [show 32 - (32 - n) = n by omega]; simp
  rw [e1, e2, u32_or_nat _ _ (by omega) (Nat.lt_of_le_of_lt (Nat.div_le_self _ _) hx), rotN_or (by omega) hx, rU_toNat (by omega)]
theorem Rot_any (x : UInt32) (n k : Nat) (w : World) (h : n + k = 32) (h1 : 1 ≤ n) (h2 : n ≤ 31) : Calls Tryz.prog 123 #[.int .u32 (x.toNat : Int), .int .i64 (-(n : Int))] w fun e w' => e = .returned (.int .u32 ((rU n x).toNat : Int)) ∧ w = w' := by
  have hx := x.toNat_lt
  have hk := rot_count n k h h1 h2
  have HV := hide (rot_val x n k h)
  go_enter Tryz.func123, Tryz.ntmps123
  go_wp2
  go_ret
  rw [← HV.out]
  exact ⟨rfl, rfl⟩
theorem rotated_any (x : UInt32) (n : Nat) (N : Int) (w : World) (hN : N = (n : Int)) (h1 : 1 ≤ n) (h2 : n ≤ 31) : Calls Tryz.prog 122 #[.int .u32 (x.toNat : Int), .int .i64 N] w fun e w' => e = .returned (.int .u32 ((rU n x).toNat : Int)) ∧ w = w' := by
  subst hN
  go_enter Tryz.func122, Tryz.ntmps122
  go_wp2_with (go_at_call 123; refine (Rot_any x n (32 - n) _ (by omega) h1 h2).mono ?_; rintro e w' ⟨rfl, rfl⟩)
  go_ret
  exact ⟨rfl, rfl⟩
def plusK (s t : List UInt32) (j : Nat) : List UInt32 := plusL (s.take j) (t.take j) ++ s.drop j
theorem plusK_len {s t : List UInt32} (h : s.length = t.length) (j : Nat) : (plusK s t j).length = s.length := by
  unfold plusK plusL; simp; omega
theorem plusK_at {s t : List UInt32} {j : Nat} (h : s.length = t.length) (hj : j < s.length) : (plusK s t j)[j]? = some s[j] := by
  unfold plusK plusL
  rw [List.getElem?_append_right (by simp; omega)]
  simp [show min j s.length = j by omega, show min j t.length = j by omega, hj]
theorem plusK_next {s t : List UInt32} {j : Nat} (h : s.length = t.length) (hj : j < s.length) (hj' : j < t.length) : (plusK s t j).set j (aU s[j] t[j]) = plusK s t (j + 1) := by
  unfold plusK plusL
  have e1 : (List.zipWith aU (s.take j) (t.take j)).length = j := by simp; omega
  rw [List.set_append_right _ _ (by omega), e1, Nat.sub_self, List.take_succ_eq_append_getElem hj, List.take_succ_eq_append_getElem hj', List.zipWith_append (by simp; omega), drop_step s j hj, List.append_assoc]
  rfl
theorem plusK_end {s t : List UInt32} (h : s.length = t.length) : plusK s t s.length = plusL s t := by
  unfold plusK; rw [List.drop_length, List.append_nil, List.take_length, h, List.take_length]
theorem cs32_set (l : List UInt32) (j : Nat) (v : UInt32) : (cs32 l).set j (.int .u32 (v.toNat : Int)) = cs32 (l.set j v) := by simp [cs32, List.map_set]
def zeros32 (n : Nat) : List Value := List.replicate n (.int .u32 0)
theorem plus_any (s t : List UInt32) (w : World) (hs : s.length = 8) (ht : t.length = 8) : Calls Tryz.prog 121 #[.agg (cs32 s).toArray, .agg (cs32 t).toArray] w fun e w' => e = .returned (.agg (cs32 (plusL s t)).toArray) ∧ Below w.heap.size w w' := by
  go_enter Tryz.func121, Tryz.ntmps121
  go_wp2_with (first
    | (refine wpList_loadB rfl 115 (.tmp 3) rfl (w.heap.size + 1) rfl 115 (cs32 t) ((Blk.at _ _ _ (by simp)).alloc _) 8 22 Tryz.underlying115 size8w (by rw [cs32_len]; exact ht) ?_))
  go_loopw [8] (fun i wr => ∃ (j : Nat), j ≤ 8 ∧ i = .int .i64 (j : Int) ∧ Blk wr w.heap.size 115 (cs32 (plusK s t j)) ∧ Blk wr (w.heap.size + 1 + 1) 115 (zeros32 8) ∧ Below w.heap.size w wr) (fun i _ => 8 - (intOf i).toNat)
  case atStart => exact ⟨0, Nat.zero_le _, rfl, ((Blk.at _ _ _ rfl).alloc _).alloc _, Blk.at _ _ _ (by simp), (((Below.refl _ _).alloc (Nat.le_refl _) _).alloc (by simp) _).alloc (by simp; omega) _⟩
  case round =>
    obtain ⟨j, hj, rfl, hb0, hb2, hb⟩ := hrel
    have hbs := hb.size
    by_cases hlt : j < 8
    · have hc := hb0.cell (j := j) (v := .int .u32 (s[j].toNat : Int)) (by simp [cs32, plusK_at (hs.trans ht.symm) (show j < s.length by omega)])
      have hfz := hb0.frozen j
      have hti := fun w => at8w w t ht j (by omega)
      have ha := add_w s[j] t[j]
      have HS := hide (hb0.set j (.int .u32 ((aU s[j] t[j]).toNat : Int)))
      have HO := hide (hb2.other (h := w.heap.size) (by omega) j (.int .u32 ((aU s[j] t[j]).toNat : Int)))
      have HB := hide (hb.setCell (p := ⟨w.heap.size, j, none⟩) (Nat.le_refl _) (.int .u32 ((aU s[j] t[j]).toNat : Int)))
      have HN := hide (plusK_next (hs.trans ht.symm) (show j < s.length by omega) (by omega))
      clear hb0 hb2 hb
      go_wp2
      go_roundw
      case rel =>
        rw [cs32_set, HN.out] at HS
        exact ⟨j + 1, by omega, by go_num, HS, HO, HB⟩
      case measure => simp [intOf]; omega
    · obtain rfl : j = 8 := by omega
      have he := plusK_end (hs.trans ht.symm)
      rw [hs] at he
      rw [he] at hb0
      have hl : (cs32 (plusL s t)).length = 8 := by rw [cs32_len]; simp [plusL, hs, ht]
      go_wp2_with (first
        | (refine wpList_loadB rfl 115 (.tmp 2) rfl _ rfl 115 _ hb0 8 22 Tryz.underlying115 size8w hl ?_)
        | (refine wpList_storeB rfl 115 (.tmp 4) (.tmp 19) rfl _ (cs32 (plusL s t)) rfl rfl 115 _ hb2 8 size8w hl rfl (cs32_one _) ?_))
      refine ret_cell rfl Tryz.underlying115 size8w rfl (hb2.row _) hl rfl ⟨rfl, below_setRow hb (by omega) _⟩
theorem rotated_at (x : UInt32) (N : Int) (w : World) (h1 : 1 ≤ N) (h2 : N ≤ 31) : Calls Tryz.prog 122 #[.int .u32 (x.toNat : Int), .int .i64 N] w fun e w' => e = .returned (.int .u32 ((rU N.toNat x).toNat : Int)) ∧ w = w' :=
  rotated_any x N.toNat N w (by omega) (by omega) (by omega)
theorem First_any (w : World) : Calls Tryz.prog 110 #[] w fun e w' => e = .returned (.agg (cs32 firstL).toArray) ∧ Below w.heap.size w w' := by
  go_enter Tryz.func110, Tryz.ntmps110
  go_wp2
  exact ret_cell (cs := cs32 firstL) rfl Tryz.underlying115 size8w rfl (Blk.at _ _ _ rfl) rfl rfl ⟨rfl, (Below.refl _ _).alloc (Nat.le_refl _) _⟩
theorem nat_not {n : Nat} (h : n < 4294967296) : 4294967295 ^^^ n = 4294967295 - n := by
  have e : (4294967295 : Nat) = 2 ^ 32 - 1 := rfl
  apply Nat.eq_of_testBit_eq
  intro i
  rw [Nat.testBit_xor, e, Nat.testBit_two_pow_sub_one, show 2 ^ 32 - 1 - n = 2 ^ 32 - (n + 1) by omega, Nat.testBit_two_pow_sub_succ h]
  by_cases hi : i < 32
  · simp [hi]
  · have : n.testBit i = false := Nat.testBit_lt_two_pow (Nat.lt_of_lt_of_le (show n < 2 ^ 32 from h) (Nat.pow_le_pow_right (by omega) (by omega)))
    simp [hi, this]
theorem not_w (a : UInt32) : bits .xor .u32 IntKind.u32.max (a.toNat : Int) = ((iU a).toNat : Int) := by
  rw [show IntKind.u32.max = ((4294967295 : Nat) : Int) from rfl, u32_xor_nat _ _ (by omega) a.toNat_lt, iU_toNat, nat_not a.toNat_lt]
theorem round_any (s : List UInt32) (n : UInt32) (w : World) (hs : s.length = 8) : Calls Tryz.prog 120 #[.agg (cs32 s).toArray, .int .u32 (n.toNat : Int)] w fun e w' => e = .returned (.agg (cs32 (rnd s n)).toArray) ∧ Below w.heap.size w w' := by
  obtain ⟨a, b, c, d, e, f, g, h, rfl⟩ := eight hs
  have ha := add_w
  have hx := xor_w
  have hn := and_w
  have ho := or_w
  have hi := not_w
  have hus : ¬ IntKind.u32.signed = true := by decide
  clear hs
  have hg : cs32 [a, b, c, d, e, f, g, h] = [.int .u32 (a.toNat : Int), .int .u32 (b.toNat : Int), .int .u32 (c.toNat : Int), .int .u32 (d.toNat : Int), .int .u32 (e.toNat : Int), .int .u32 (f.toNat : Int), .int .u32 (g.toNat : Int), .int .u32 (h.toNat : Int)] := rfl
  rw [hg]
  clear hg
  go_enter Tryz.func120, Tryz.ntmps120
  go_wp2
  go_quiet (fail)
  generalize hw : World.drewN _ nq = w1
  have hb : Below w.heap.size w w1 := by rw [← hw]; exact ⟨rfl, rfl, rfl, by simp; omega, fun k hk => ((Below.refl _ w).alloc (Nat.le_refl _) _).alloc (by simp) _ |>.block k hk⟩
  have hz : Blk w1 (w.heap.size + 1) 115 (zeros32 8) := by rw [← hw]; exact Blk.at _ _ _ (by simp)
  clear hw
  go_wp2_with (first
    | (go_at_call 122; refine (rotated_at _ _ _ (by omega) (by omega)).mono ?_; rintro e' w' ⟨rfl, rfl⟩)
    | (refine wpList_storeB rfl 115 (.tmp 4) (.tmp 88) rfl _ (cs32 (rnd [a, b, c, d, e, f, g, h] n)) rfl rfl 115 _ hz 8 size8w rfl rfl (cs32_one _) ?_))
  refine ret_cell rfl Tryz.underlying115 size8w rfl (hz.row _) rfl rfl ?_
  exact ⟨rfl, below_setRow hb (by omega) _⟩
end Go.Proofs.YtdikiabjkmigdaaGreatDoor
