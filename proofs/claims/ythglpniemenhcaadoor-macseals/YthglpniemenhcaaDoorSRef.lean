/-
  Contracts of the reference of layer 4 (midstreamref04): turned, shifted, words, First, ks.
-/
import Derived.Test.YthglpniemenhcaaDoorSPkg2
namespace Go.Proofs.YthglpniemenhcaaDoor
open Go.RowKit
set_option maxHeartbeats 800000

theorem turned_at (x : UInt32) (N : Int) (w : World) (h1 : 0 ≤ N) (h2 : N ≤ 31) : Calls Tryd.prog 43 #[.int .u32 (x.toNat : Int), .int .i64 N] w fun e w' => e = .returned (.int .u32 ((rU N.toNat x).toNat : Int)) ∧ w = w' := by
  obtain ⟨n, rfl⟩ : ∃ n : Nat, N = (n : Int) := ⟨N.toNat, by omega⟩
  have hn : n ≤ 31 := by omega
  have HX := hide x.toNat_lt
  clear h1 h2
  go_enter Tryd.func43, Tryd.ntmps43
  go_wp2
  go_loop [0, 5] (fun v i => ∃ (j y : Nat), j ≤ n ∧ i = .int .i64 (j : Int) ∧ v = .int .u32 (y : Int) ∧ y ≤ 4294967295 ∧ Hid (y = rotN j x.toNat)) (fun _ i => n - (intOf i).toNat)
  case atStart => exact ⟨0, x.toNat, Nat.zero_le _, rfl, rfl, Nat.le_of_lt_succ x.toNat_lt, (rotN_zero _).symm⟩
  case round =>
    obtain ⟨j, y, hj, rfl, rfl, hy, HY⟩ := hrel
    by_cases hlt : j < n
    · go_wp2
      go_round
      case rel => exact ⟨j + 1, y / 2 + y % 2 * 2147483648, by omega, by go_num, by go_num, by omega, by show _ = _; rw [rotN_succ (by omega), ← HY.out]⟩
      case measure => simp [intOf]; omega
    · obtain rfl : j = n := by omega
      go_wp2
      go_ret
      exact ⟨by rw [rU_toNat (by omega)]; exact congrArg (fun z : Nat => Ending.returned (.int .u32 (z : Int))) HY.out, rfl⟩
theorem shifted_at (x : UInt32) (N : Int) (w : World) (h1 : 0 ≤ N) (h2 : N ≤ 31) : Calls Tryd.prog 38 #[.int .u32 (x.toNat : Int), .int .i64 N] w fun e w' => e = .returned (.int .u32 ((sU N.toNat x).toNat : Int)) ∧ w = w' := by
  obtain ⟨n, rfl⟩ : ∃ n : Nat, N = (n : Int) := ⟨N.toNat, by omega⟩
  have hn : n ≤ 31 := by omega
  have HX := hide x.toNat_lt
  clear h1 h2
  go_enter Tryd.func38, Tryd.ntmps38
  go_wp2
  go_loop [0, 5] (fun v i => ∃ (j y : Nat), j ≤ n ∧ i = .int .i64 (j : Int) ∧ v = .int .u32 (y : Int) ∧ y ≤ 4294967295 ∧ Hid (y = x.toNat / 2 ^ j)) (fun _ i => n - (intOf i).toNat)
  case atStart => exact ⟨0, x.toNat, Nat.zero_le _, rfl, rfl, Nat.le_of_lt_succ x.toNat_lt, by show _ = _; simp⟩
  case round =>
    obtain ⟨j, y, hj, rfl, rfl, hy, HY⟩ := hrel
    by_cases hlt : j < n
    · go_wp2
      go_round
      case rel => exact ⟨j + 1, y / 2, by omega, by go_num, by go_num, by omega, by show _ = _; rw [Nat.pow_succ, ← Nat.div_div_eq_div_mul, ← HY.out]⟩
      case measure => simp [intOf]; omega
    · obtain rfl : j = n := by omega
      go_wp2
      go_ret
      exact ⟨by rw [sU_toNat]; exact congrArg (fun z : Nat => Ending.returned (.int .u32 (z : Int))) HY.out, rfl⟩
theorem be_next (l : List UInt8) (i k p : Nat) (y : UInt32) (hy : y = beW ((l.drop (4 * i)).take k)) (hk : k ≤ 3) (hp : 4 * i + k = p) (h : p < l.length) : y.toNat ≤ 16777215 ∧ 256 * y.toNat + l[p].toNat = (beW ((l.drop (4 * i)).take (k + 1))).toNat := by
  subst hy
  subst hp
  refine ⟨Nat.le_of_lt_succ (beW_small _ (by simp; omega)), ?_⟩
  rw [take_step l (4 * i) k h, beW_snoc _ _ (by simp; omega)]
def WordsPost (w : World) (l : List UInt8) (e : Ending) (w' : World) : Prop :=
  ∃ A c, e = .returned (.slice A 64 c) ∧ w'.ownsRow w.heap.size 44 1 (.slice A 64 c) 64 (cs32 (schedW l)) ∧ Below w.heap.size w w'
theorem words_any (B : Nat) (A : Option Addr) (c : Nat) (l : List UInt8) (w : World) (hr : Row w B A 64 c (cs8 l)) (hB : B ≤ w.heap.size) :
    Calls Tryd.prog 41 #[.slice A 64 c] w (WordsPost w l) := by
  obtain ⟨i0, hi, hz0, hz1, hz2⟩ := info_parts info32
  have hn := hr.len
  rw [cs8_len] at hn
  go_enter Tryd.func41, Tryd.ntmps41
  go_wp2
  go_loopw [3, 4] (fun s i wr => ∃ (j : Nat) (A' : Option Addr) (c' : Nat), j ≤ 16 ∧ i = .int .i64 (j : Int) ∧ s = .slice A' j c' ∧ wr.ownsRow w.heap.size 44 1 (.slice A' j c') j (cs32 (headW l j)) ∧ Below w.heap.size w wr) (fun _ i _ => 16 - (intOf i).toNat)
  case atStart => exact ⟨0, _, _, Nat.zero_le _, rfl, rfl, World.ownsRow_nil _ _ _ _, Below.refl _ _⟩
  case round =>
    obtain ⟨j, A', c', hj, rfl, rfl, ho, hb⟩ := hrel
    have hbs := hb.size
    by_cases hlt : j < 16
    · go_wp2
      go_loop [5, 6] (fun s i => ∃ (k : Nat) (y : UInt32), k ≤ 4 ∧ i = .int .i64 (k : Int) ∧ Hid (y = beW ((l.drop (4 * j)).take k)) ∧ s = .int .u32 (y.toNat : Int)) (fun _ i => 4 - (intOf i).toNat)
      case atStart => exact ⟨0, 0, Nat.zero_le _, rfl, rfl, rfl⟩
      case round =>
        obtain ⟨k, y, hk, rfl, HY, rfl⟩ := hrel
        by_cases hk4 : k < 4
        · obtain ⟨p, hp⟩ : ∃ p : Nat, 4 * (j : Int) + (k : Int) = (p : Int) := ⟨4 * j + k, by omega⟩
          have hp64 : p < 64 := by omega
          obtain ⟨b, o, u, rfl, _, hu, hcell⟩ := (hr.keep hb hB).get hp64
          rw [cs8_at (show p < l.length by omega)] at hu
          obtain rfl := Option.some.inj hu
          clear hu
          have hbn := be_next l j k p y HY.out (by omega) (by omega) (by omega)
          have hy3 := hbn.1
          have HB := hide hbn.2
          have hc2 := l[p].toNat_lt
          clear hbn
          go_wp2
          go_round
          case rel => exact ⟨k + 1, beW ((l.drop (4 * j)).take (k + 1)), by omega, by go_num, rfl, by rw [← HB.out]; go_num⟩
          case measure => simp [intOf]; omega
        · obtain rfl : k = 4 := by omega
          have HH := hide (headW_succ l j)
          rw [← HY.out] at HH
          go_wp2_with (at_builtin; refine wpList_append_row rfl (.tmp 31) (.tmp 33) 56 rfl w.heap.size 44 i0 _ 4 Tryd.underlying56 hi hz0 hz1 hz2 rfl _ _ _ rfl (ho.alloc _) _ _ _ _ _ rfl (Row.one _ _ _) (one_u32 _) (by unfold maxLen; omega) (by omega) w (hb.alloc (by omega) _) (Nat.le_refl _) ?_; intro A2 c2 w2 ho2 hb2 hg2)
          go_roundw
          case rel => exact ⟨j + 1, A2, c2, by omega, by go_num, rfl, by rw [HH.out, cs32_app]; exact ho2, hb2⟩
          case measure => simp [intOf]; omega
    · have e16 : j = 16 := by omega
      rw [e16] at ho
      go_wp2
      clear hlt hj
      have e2 : headW l 16 = extW (headW l 16) (16 - 16) := rfl
      rw [e2] at ho
      clear e2
      go_loopw [3, 7] (fun s i wr => ∃ (m : Nat) (A' : Option Addr) (c' : Nat), 16 ≤ m ∧ m ≤ 64 ∧ i = .int .i64 (m : Int) ∧ s = .slice A' m c' ∧ wr.ownsRow w.heap.size 44 1 (.slice A' m c') m (cs32 (extW (headW l 16) (m - 16))) ∧ Below w.heap.size w wr) (fun _ i _ => 64 - (intOf i).toNat)
      case atStart => exact ⟨16, _, _, by omega, by omega, rfl, by rw [e16], ho, hb⟩
      case round =>
        clear ho hb hbs e16
        obtain ⟨i, A', c', hi1, hi2, rfl, rfl, ho, hb⟩ := hrel
        have hbs := hb.size
        by_cases hlt : i < 64
        · obtain ⟨g, rfl⟩ := own_some ho (by omega)
          have hcap := own_cap ho
          obtain ⟨a15, h15⟩ : ∃ a : Nat, (i : Int) - 15 = (a : Int) := ⟨i - 15, by omega⟩
          obtain ⟨a2, h2⟩ : ∃ a : Nat, (i : Int) - 2 = (a : Int) := ⟨i - 2, by omega⟩
          obtain ⟨a16, h16⟩ : ∃ a : Nat, (i : Int) - 16 = (a : Int) := ⟨i - 16, by omega⟩
          obtain ⟨a7, h7⟩ : ∃ a : Nat, (i : Int) - 7 = (a : Int) := ⟨i - 7, by omega⟩
          have HN := hide (next_is l i a16 a15 a7 a2 hi1 (by omega) (by omega) (by omega) (by omega))
          have HX : Hid (extW (headW l 16) (i + 1 - 16) = extW (headW l 16) (i - 16) ++ [nextW (extW (headW l 16) (i - 16))]) := by show _ = _; rw [show i + 1 - 16 = (i - 16) + 1 by omega]; rfl
          rw [HN.out] at HX
          have b15 : (a15 : Int) < (i : Int) := by omega
          have b2 : (a2 : Int) < (i : Int) := by omega
          have b16 : (a16 : Int) < (i : Int) := by omega
          have b7 : (a7 : Int) < (i : Int) := by omega
          have hE := ext_len l i hi1
          have c15 := ho.cellAt a15 (by omega)
          rw [cs32_at (by omega), nth_at] at c15
          have c2 := ho.cellAt a2 (by omega)
          rw [cs32_at (by omega), nth_at] at c2
          have c16 := ho.cellAt a16 (by omega)
          rw [cs32_at (by omega), nth_at] at c16
          have c7 := ho.cellAt a7 (by omega)
          rw [cs32_at (by omega), nth_at] at c7
          generalize nth (extW (headW l 16) (i - 16)) a15 = x15 at *
          generalize nth (extW (headW l 16) (i - 16)) a2 = x2 at *
          generalize nth (extW (headW l 16) (i - 16)) a16 = x16 at *
          generalize nth (extW (headW l 16) (i - 16)) a7 = x7 at *
          clear HN hE
          have ha := add_w
          have hx := xor_w
          have w16 : IntKind.i64.wrap (a16 : Int) = (a16 : Int) := by simp [IntKind.wrap, IntKind.signed, IntKind.bits]; omega
          have w7 : IntKind.i64.wrap (a7 : Int) = (a7 : Int) := by simp [IntKind.wrap, IntKind.signed, IntKind.bits]; omega
          go_wp2_with (first
            | (go_at_call 43; refine (turned_at _ _ _ (by omega) (by omega)).mono ?_; rintro e' w' ⟨rfl, rfl⟩)
            | (go_at_call 38; refine (shifted_at _ _ _ (by omega) (by omega)).mono ?_; rintro e' w' ⟨rfl, rfl⟩))
          go_region_law (refine step_append_row rfl (.tmp 65) (.tmp 81) 56 rfl w.heap.size 44 i0 _ 4 Tryd.underlying56 hi hz0 hz1 hz2 rfl (.slice (some ⟨g, 0, none⟩) i c') i _ rfl (by first | exact own_drew (ho.alloc _) | exact (own_drew ho).alloc _) (wr.heap.size + 1) _ _ _ [.int .u32 ((aU (aU (aU x16 (g0 x15)) x7) (g1 x2)).toNat : Int)] rfl (by first | exact (Row.one _ _ _) | exact (Row.one _ _ _).of_drew) (one_u32 _) (by unfold maxLen; omega) (by omega) w (by first | exact (hb.alloc (by omega) _).drew | exact hb.drew.alloc (by simp; omega) _) (Nat.le_refl _) ?_; intro A2 c2 w2 ho2 hb2 hg2)
          all_goals
            go_wp2
            go_roundw
            case rel => exact ⟨i + 1, A2, c2, by omega, by omega, by go_num, rfl, by rw [HX.out, cs32_app]; exact ho2, hb2⟩
            case measure => simp [intOf]; omega
        · obtain rfl : i = 64 := by omega
          go_wp2
          go_ret
          exact ⟨A', c', rfl, ho, hb⟩
end Go.Proofs.YthglpniemenhcaaDoor
