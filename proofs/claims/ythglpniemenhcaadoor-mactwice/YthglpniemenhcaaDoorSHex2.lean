/-
  Contracts of Hex, of package sha and of the reference of layer 4.
-/
import Derived.Test.YthglpniemenhcaaDoorSHex
import Derived.Laws.Concat
namespace Go.Proofs.YthglpniemenhcaaDoor
open Go.RowKit
set_option maxHeartbeats 800000

theorem run_dig (k : IntKind) (x : Nat) (hx : x < 16) (w : World) : (Instr.index 9 (.string ⟨#[48, 49, 50, 51, 52, 53, 54, 55, 56, 57, 97, 98, 99, 100, 101, 102]⟩) (.int k (x : Int))).run Tryd.prog w = .ok (.int .u8 ((dig x).toNat : Int)) w := by
  have h1 : (ByteArray.mk #[48, 49, 50, 51, 52, 53, 54, 55, 56, 57, 97, 98, 99, 100, 101, 102])[x]? = some (dig x) := by
    rw [← digs_at x hx]; exact getElem?_pos _ _ _
  simp [Instr.index, asIntOf, run_underlying Tryd.underlying9, h1, Result.andThen]
theorem hexL_take (d : List UInt8) (j : Nat) (h : j < d.length) : hexL (d.take (j + 1)) = hexL (d.take j) ++ hex2 d[j] := by
  rw [List.take_succ_eq_append_getElem h, hexL, List.flatMap_append]; simp [hexL]
theorem cs8_hex2 (c : UInt8) (x y : Nat) (hx : x = c.toNat / 16) (hy : y = c.toNat % 16) : cs8 (hex2 c) = [.int .u8 ((dig x).toNat : Int), .int .u8 ((dig y).toNat : Int)] := by
  subst hx; subst hy; rfl
theorem hexL_len (d : List UInt8) : (hexL d).length = 2 * d.length := by
  induction d with
  | nil => rfl
  | cons c d ih => rw [hexL, List.flatMap_cons, List.length_append]; rw [hexL] at ih; rw [ih]; simp [hex2]; omega
theorem two_one (a b : Int) : ∀ u ∈ [Value.int .u8 a, Value.int .u8 b], u.oneCell' = true := by
  intro u hu; simp at hu; rcases hu with rfl | rfl <;> rfl
theorem low4 (c : UInt8) : bits .and .u8 (c.toNat : Int) 15 = ((c.toNat % 16 : Nat) : Int) := by
  rw [show (15 : Int) = ((15 : Nat) : Int) from rfl, u8_and_nat _ _ c.toNat_lt (by omega), show (15 : Nat) = 2 ^ 4 - 1 from rfl, Nat.and_two_pow_sub_one_eq_mod]
theorem Hex_any (d : List UInt8) (w : World) (hd : d.length = 32) : Calls Tryd.prog 24 #[.agg (cs8 d).toArray] w fun e w' => e = .returned (.string ⟨(hexL d).toArray⟩) ∧ Below w.heap.size w w' := by
  obtain ⟨i0, hi, hz0, hz1, hz2⟩ := info_parts info8
  have hdl : (cs8 d).length = 32 := by rw [cs8_len]; exact hd
  go_enter Tryd.func24, Tryd.ntmps24
  go_wp2_with (first
    | (at_make; refine wpList_make_own _ rfl _ _ 22 rfl w.heap.size 5 i0 (.int .u8 0) 1 Tryd.underlying22 hi hz0 hz1 _ _ _ 64 rfl rfl (by omega) (by rw [hz2]; omega) (by unfold maxLen; omega) (by simp) ?_; intro w1 ho1 hg1; have hb1 : Below w.heap.size w w1 := ((Below.refl _ _).alloc (Nat.le_refl _) _).grown hg1 (by simp) (by simp); have hk1 : Blk w1 w.heap.size 27 (cs8 d) := (Blk.new w _ _).keep ((Below.refl (w.heap.size + 1) _).grown hg1 (by simp) (by simp)) (by omega))
    | (refine wpList_loadB rfl 27 (.tmp 1) rfl w.heap.size rfl 27 (cs8 d) hk1 32 5 Tryd.underlying27 size32b hdl ?_))
  clear hg1 hk1
  go_loopw [3, 8] (fun s i wr => ∃ (j m : Nat) (A' : Option Addr) (c' : Nat), j ≤ 32 ∧ i = .int .i64 (j : Int) ∧ s = .slice A' m c' ∧ Hid (m = 2 * j) ∧ wr.ownsRow w.heap.size 5 1 (.slice A' m c') m (cs8 (hexL (d.take j))) ∧ Below w.heap.size w wr) (fun _ i _ => 32 - (intOf i).toNat)
  case atStart => exact ⟨0, 0, _, _, Nat.zero_le _, rfl, rfl, rfl, by rw [World.size_alloc] at ho1; exact ho1, hb1⟩
  case round =>
    clear ho1 hb1
    obtain ⟨j, m, A', c', hj, rfl, rfl, HM, ho, hb⟩ := hrel
    have hbs := hb.size
    have hm64 : m ≤ 64 := by rw [HM.out]; omega
    by_cases hlt : j < 32
    · have hti := fun w => at32b w d hd j (by omega)
      obtain ⟨x, hx, HX⟩ : ∃ x : Nat, (d[j].toNat : Int) / 16 = (x : Int) ∧ Hid (x = d[j].toNat / 16) := ⟨d[j].toNat / 16, by omega, rfl⟩
      obtain ⟨y, HY⟩ : ∃ y : Nat, Hid (y = d[j].toNat % 16) := ⟨d[j].toNat % 16, rfl⟩
      have hy := low4 d[j]
      rw [← HY.out] at hy
      have hdl2 := d[j].toNat_lt
      have hx16 : x < 16 := by rw [HX.out]; omega
      have hy16 : y < 16 := by rw [HY.out]; omega
      have hdx := fun w => run_dig .u8 x hx16 w
      have hdy := fun w => run_dig .u8 y hy16 w
      have HH := hide (hexL_take d j (by omega))
      have HC := hide (cs8_hex2 d[j] x y HX.out HY.out)
      clear hx16 hy16
      go_wp2_with fail
      go_region_law (refine step_append_row rfl (.tmp 11) (.tmp 18) 22 rfl w.heap.size 5 i0 _ 1 Tryd.underlying22 hi hz0 hz1 hz2 rfl (.slice A' m c') m _ rfl (by first | exact own_drew (ho.alloc _) | exact (own_drew ho).alloc _) (wr.heap.size + 1) _ 2 _ [.int .u8 ((dig x).toNat : Int), .int .u8 ((dig y).toNat : Int)] rfl (by first | exact row_lit _ _ _ _ 2 rfl (by unfold maxLen; omega) _ rfl | exact (row_lit _ _ _ _ 2 rfl (by unfold maxLen; omega) _ rfl).of_drew) (two_one _ _) (by unfold maxLen; omega) (by omega) w (by first | exact (hb.alloc (by omega) _).drew | exact hb.drew.alloc (by simp; omega) _) (Nat.le_refl _) ?_; intro A2 c2 w2 ho2 hb2 hg2)
      all_goals
        go_wp2
        go_roundw
        case rel => exact ⟨j + 1, m + 2, A2, c2, by omega, by go_num, rfl, by show _ = _; rw [HM.out]; omega, by rw [HH.out, cs8_app, HC.out]; exact ho2, hb2⟩
        case measure => simp [intOf]; omega
    · obtain rfl : j = 32 := by omega
      rw [List.take_of_length_le (by omega)] at ho
      have hq := (Row.of_own ho).str (P := Tryd.prog) Tryd.underlying22 Tryd.underlying5 Tryd.underlying9
      go_wp2
      go_ret
      exact ⟨rfl, hb⟩
theorem run_cut (x x1 : Nat) (hx : x < 16) (h1 : x1 = x + 1) (w : World) : (Instr.slice 9 (.string ⟨#[48, 49, 50, 51, 52, 53, 54, 55, 56, 57, 97, 98, 99, 100, 101, 102]⟩) (some (.int .u8 (x : Int))) (some (.int .u8 (x1 : Int))) none).run Tryd.prog w = .ok (.string ⟨[dig x].toArray⟩) w := by
  subst h1
  rw [run_slice_string w 9 _ .u8 .u8 (x : Int) ((x + 1 : Nat) : Int) Tryd.underlying9 (by omega) (by omega) (by have h : (ByteArray.mk #[48, 49, 50, 51, 52, 53, 54, 55, 56, 57, 97, 98, 99, 100, 101, 102]).size = 16 := rfl; rw [h]; omega)]
  congr 2
  exact match x, hx with
  | 0, _ => rfl | 1, _ => rfl | 2, _ => rfl | 3, _ => rfl | 4, _ => rfl | 5, _ => rfl | 6, _ => rfl | 7, _ => rfl
  | 8, _ => rfl | 9, _ => rfl | 10, _ => rfl | 11, _ => rfl | 12, _ => rfl | 13, _ => rfl | 14, _ => rfl | 15, _ => rfl
  | n + 16, h => absurd h (by omega)
end Go.Proofs.YthglpniemenhcaaDoor
